/-
 QAg21ToAt21: Ag21, At21, joined.
-/
import Derived.Test.YtjjpodnjljfheaaGreatQZe12ToSt21
import Derived.Test.YtjjpodnjljfheaaGreatQOf11ToTo18

set_option maxRecDepth 100000
set_option maxHeartbeats 6400000
set_option linter.unusedVariables false
set_option linter.unusedSimpArgs false
namespace Go.Proofs.YtjjpodnjljfheaaGreat
open Go.RowKit
attribute [local go_sem] zCD
theorem against1_21 {B m n kw l Lb cap i j Ba Bm lt ct:Nat} {w:World} {nt:Bool} {at0:Option Addr} {s:Int} {gs:Nat→Nat} {X:Nat→Nat→Int} (hM:Cel w Bm 61 (hd21 Ba)) (hB:Cel w Ba 52 [(.slice (some ⟨Lb,0,none⟩) m cap)]) (h:Sh17 B w (.slice (some ⟨Lb,0,none⟩) m cap) m n gs X kw) (hi:i<m) (hj:j<m) (hij:i≠j) (ht:Zm 0 w (.agg #[.bool nt,.slice at0 lt ct]) s l)
  (hF:∀c,c<n→((X j c - -s*X i c).natAbs:Int)<pw kw) (hm:m≤64) (hn:n≤64) (hK:l+kw<35184372088000) :
  Calls Tryz.prog 46 #[.int .i64 (i:Int),.int .i64 (j:Int),.agg #[.bool nt,.slice at0 lt ct],.pointer (some ⟨Bm,0,none⟩)] w (zfG w (gs j) n (fun c=>X j c - -s*X i c) kw):=by
 obtain ⟨V0,hV0⟩:∃V0,w.alloc (duo (.bool nt) (.slice at0 lt ct))=V0:=⟨_,rfl⟩
 obtain ⟨b0,sz0⟩:=alo1 w (duo (.bool nt) (.slice at0 lt ct));rw [hV0] at b0 sz0;have dT:Duo V0 w.heap.size (.bool nt) (.slice at0 lt ct):=by rw [←hV0];exact Duo.new w _ _
 have SH:=hid (h.now b0);have HB:=hid (hB.step b0);have m2:=(hM.step b0).at (i:=2) rfl;have ZT:=hid (ht.now b0);have t0:=dT.c0;have t1:=dT.c1;have HF:=hid hF;have HK:=hid hK;have B0:=hid b0;have EV0:=hid hV0;have HI:=hid (show i<m∧j<m∧i≠j from ⟨hi,hj,hij⟩);obtain ⟨bx,hbx⟩:∃bx,w.heap.size=bx:=⟨_,rfl⟩
 rw [hbx] at t0 t1;have EBX:=hid hbx;clear hB hM h hi hj hij ht hF hK b0 sz0 hV0 dT hbx;go_enter Tryz.func46,Tryz.ntmps46;go_wp2_with fail;rw [EV0.out,EBX.out];have KB:Hid (∀w',Below V0.heap.size V0 w'→w'.cell? ⟨Bm,2,none⟩=some (hf3 Ba)∧w'.cell? ⟨bx,0,none⟩=some (.bool nt)∧w'.cell? ⟨bx,1,none⟩=some (.slice at0 lt ct)):=fun w' h=>⟨cnow h m2,cnow h t0,cnow h t1⟩
 refine zEA (fun w'=>w'.cell? ⟨Bm,2,none⟩=some (hf3 Ba)∧w'.cell? ⟨bx,0,none⟩=some (.bool nt)∧w'.cell? ⟨bx,1,none⟩=some (.slice at0 lt ct)) 6 (by kernel_rfl) ?_;obtain ⟨D1,hD⟩:∃D1,V0.drew=D1:=⟨_,rfl⟩
 have GB:Hid (Below V0.heap.size V0 D1):=by unfold Hid;rw [←hD];exact (Below.refl _ _).drew
 rw [hD];clear hD;refine zHA [(0,(.pointer (some ⟨Bm,2,none⟩))),(1,(hf3 Ba)),(2,(.int .i64 (j:Int))),(3,(.int .i64 (i:Int))),(4,(.agg #[.bool nt,.slice at0 lt ct]))] 5 ?_ (KB.out _ GB.out) ?_
 ·simp only [zUA,gA9,g09,g19,Act.put,sI9,s09,s19]
  (repeat' (first | exact trivial | refine And.intro (Or.inl ⟨by rfl,?_⟩) ?_)) <;> (intro w hSw;(try dsimp only at hSw);go_simp)
 simp only [actV,gA9,g09,g19,Act.put,sI9,s09,s19];refine zAA (i:=5) (o:=⟨some 12,.call { callee:=.value (.func 41),args:=#[.tmp 11],argTypes:=#[47] },47, "hand.go:44",#[⟨4,.data⟩],none⟩) (by kernel_rfl) rfl (fun K hK=>?_);go_simp;go_at_call 41;refine (zCI (ZT.out.now GB.out).zi).mono ?_;rintro e w2 ⟨r1,rfl,m1,b⟩;have lz2:=(show Below _ _ _ from b).size;replace GB:=hid (below_step GB.out b);have ZN:=hid (m1.mono (Nat.zero_le _));obtain ⟨na,xa,aa1,ca1,rfl⟩:=m1.parts;clear m1;clear b;refine hK.out _ _ (fun _=>KB.out _ GB.out) ?_;clear hK;refine zAA (i:=6) (o:=⟨some 13,.call { callee:=.value (.tmp 8),args:=#[.tmp 9,.tmp 10,.tmp 12],argTypes:=#[3,3,47] },0, "hand.go:44",#[⟨1,.data⟩,⟨2,.data⟩,⟨3,.data⟩,⟨5,.data⟩,⟨5,.chain⟩],none⟩) (by kernel_rfl) rfl (fun K hK=>?_);have BD:=GB;go_simp;go_at_call 42;refine (zZG (HB.out.step GB.out) (SH.out.now GB.out) HI.out.2.1 HI.out.1 (Ne.symm HI.out.2.2) ZN.out HF.out hm hn HK.out).mono ?_;rintro e w9 ⟨rfl,hr,ht⟩;have FF:Hid (zfG w (gs j) n (fun c=>X j c - -s*X i c) kw (.returned (.tuple #[])) w9):=⟨rfl,hr,(Touch.ofBelow (below_step B0.out BD.out)).trans ht⟩
 refine hK.out _ _ (fun h=>absurd h (by decide)) ?_;clear hK;refine zDA (by kernel_rfl) ?_ _;clear GB BD KB ZT ZN SH m2 t0 t1 hr ht;go_wp2;go_end0;exact FF.out
def zmJ (w:World) (b:Nat) (x0 x1 x2 x3 x4 x5 x6 x7:Value):World:=(((((((w.setCell ⟨b,0,none⟩ x0).setCell ⟨b,1,none⟩ x1).setCell ⟨b,2,none⟩ x2).setCell ⟨b,3,none⟩ x3).setCell ⟨b,4,none⟩ x4).setCell ⟨b,5,none⟩ x5).setCell ⟨b,6,none⟩ x6).setCell ⟨b,7,none⟩ x7
theorem put8_21 {w V:World} {b:Nat} {y0 y1 y2 y3 y4 y5 y6 y7 x0 x1 x2 x3 x4 x5 x6 x7:Value} (d:Cel w b 85 [y0,y1,y2,y3,y4,y5,y6,y7]) (hW:zmJ w b x0 x1 x2 x3 x4 x5 x6 x7=V):Cel V b 85 [x0,x1,x2,x3,x4,x5,x6,x7]:=by
 rw [←hW];exact (((((((d.set 0 x0).set 1 x1).set 2 x2).set 3 x3).set 4 x4).set 5 x5).set 6 x6).set 7 x7
theorem put8_ty21 {w:World} {b:Nat} {L:List Value} (d:Cel w b 85 L) (x0 x1 x2 x3 x4 x5 x6 x7:Value):Ty 85 w (zmJ w b x0 x1 x2 x3 x4 x5 x6 x7):=by
 have d1:=d.set 0 x0;have d2:=d1.set 1 x1;have d3:=d2.set 2 x2;have d4:=d3.set 3 x3;have d5:=d4.set 4 x4;have d6:=d5.set 5 x5;have d7:=d6.set 6 x6;exact ((((((((Ty.set d).trans (Ty.set d1)).trans (Ty.set d2)).trans (Ty.set d3)).trans (Ty.set d4)).trans (Ty.set d5)).trans (Ty.set d6)).trans (Ty.set d7))
def Up21 (w:World) (x y u v:Int) (l:Nat) (e:Ending) (w':World):Prop :=
 ∃nx ny nu nv ax ay au av lx cx ly cy lu cu lv cv,e=.returned (.agg #[.bool nx,.slice ax lx cx,.bool ny,.slice ay ly cy,.bool nu,.slice au lu cu,.bool nv,.slice av lv cv])∧Zm 0 w' (.agg #[.bool nx,.slice ax lx cx]) x l∧Zm 0 w' (.agg #[.bool ny,.slice ay ly cy]) y l∧Zm 0 w' (.agg #[.bool nu,.slice au lu cu]) u l∧Zm 0 w' (.agg #[.bool nv,.slice av lv cv]) v l∧Below w.heap.size w w'
theorem pback21 {f:Func} {s:Nat} (hr:f.results=#[ResultVar.cell s 85]) {W:World} {b:Nat} {x0 x1 x2 x3 x4 x5 x6 x7:Value} (h:Cel W b 85 [x0,x1,x2,x3,x4,x5,x6,x7]) (tmps:Array Value) (ht:tmps[s]?=some (.pointer (some ⟨b,0,none⟩))) :
  (results f tmps).run Tryz.prog W=.ok (.agg #[x0,x1,x2,x3,x4,x5,x6,x7]) W:=by
 simp [results,hr,go_sem,ht,h.at (i:=0) rfl,h.at (i:=1) rfl,h.at (i:=2) rfl,h.at (i:=3) rfl,h.at (i:=4) rfl,h.at (i:=5) rfl,h.at (i:=6) rfl,h.at (i:=7) rfl]
theorem upended21 {l lx cx ly cy lu cu lv cv:Nat} {w:World} {nx ny nu nv:Bool} {ax ay au av:Option Addr} {x y u v:Int} (hx:Zm 0 w (.agg #[.bool nx,.slice ax lx cx]) x l) (hy:Zm 0 w (.agg #[.bool ny,.slice ay ly cy]) y l) (hu:Zm 0 w (.agg #[.bool nu,.slice au lu cu]) u l) (hv:Zm 0 w (.agg #[.bool nv,.slice av lv cv]) v l) :
  Calls Tryz.prog 48 #[.agg #[.bool nx,.slice ax lx cx,.bool ny,.slice ay ly cy,.bool nu,.slice au lu cu,.bool nv,.slice av lv cv]] w (Up21 w v (-u) (-y) x l):=by
 obtain ⟨W0,hW⟩:∃W0,(w.alloc (.cells #[.bool nx,.slice ax lx cx,.bool ny,.slice ay ly cy,.bool nu,.slice au lu cu,.bool nv,.slice av lv cv] 85)).alloc (.cells #[.bool false,.slice none 0 0,.bool false,.slice none 0 0,.bool false,.slice none 0 0,.bool false,.slice none 0 0] 85)=W0:=⟨_,rfl⟩
 obtain ⟨b0,sz0⟩:=zXA w (.cells #[.bool nx,.slice ax lx cx,.bool ny,.slice ay ly cy,.bool nu,.slice au lu cu,.bool nv,.slice av lv cv] 85) (.cells #[.bool false,.slice none 0 0,.bool false,.slice none 0 0,.bool false,.slice none 0 0,.bool false,.slice none 0 0] 85);rw [hW] at b0 sz0;have dB:Cel W0 w.heap.size 85 [.bool nx,.slice ax lx cx,.bool ny,.slice ay ly cy,.bool nu,.slice au lu cu,.bool nv,.slice av lv cv]:=by rw [←hW];exact (Cel.new w _ _).step ((Below.refl _ _).alloc (Nat.le_refl _) _)
 have dR:Cel W0 (w.heap.size+1) 85 [.bool false,.slice none 0 0,.bool false,.slice none 0 0,.bool false,.slice none 0 0,.bool false,.slice none 0 0]:=by
  rw [←hW];have:=Cel.new (w.alloc (.cells #[.bool nx,.slice ax lx cx,.bool ny,.slice ay ly cy,.bool nu,.slice au lu cu,.bool nv,.slice av lv cv] 85)) 85 [.bool false,.slice none 0 0,.bool false,.slice none 0 0,.bool false,.slice none 0 0,.bool false,.slice none 0 0]
  simpa using this
 have y0:=dB.at (i:=0) rfl;have y1:=dB.at (i:=1) rfl;have y2:=dB.at (i:=2) rfl;have y3:=dB.at (i:=3) rfl;have y4:=dB.at (i:=4) rfl;have y5:=dB.at (i:=5) rfl;have y6:=dB.at (i:=6) rfl;have y7:=dB.at (i:=7) rfl;have ZX:=hid (hx.now b0);have ZY:=hid (hy.now b0);have ZU:=hid (hu.now b0);have ZV:=hid (hv.now b0);have DR:=hid dR;have B0:=hid b0;have EW:=hid hW;obtain ⟨bx,hbx⟩:∃bx,w.heap.size=bx:=⟨_,rfl⟩
 rw [hbx] at y0 y1 y2 y3 y4 y5 y6 y7 DR;have HBX:=hid hbx;clear hx hy hu hv b0 sz0 hW dB dR hbx;go_enter Tryz.func48,Tryz.ntmps48;go_wp2_with fail;rw [EW.out,HBX.out];have KB:Hid (∀w',Below W0.heap.size W0 w'→w'.cell? ⟨bx,0,none⟩=some (.bool nx)∧w'.cell? ⟨bx,1,none⟩=some (.slice ax lx cx)∧w'.cell? ⟨bx,2,none⟩=some (.bool ny)∧w'.cell? ⟨bx,3,none⟩=some (.slice ay ly cy)∧w'.cell? ⟨bx,4,none⟩=some (.bool nu)∧w'.cell? ⟨bx,5,none⟩=some (.slice au lu cu)∧w'.cell? ⟨bx,6,none⟩=some (.bool nv)∧w'.cell? ⟨bx,7,none⟩=some (.slice av lv cv)):=fun w' h=>⟨cnow h y0,cnow h y1,cnow h y2,cnow h y3,cnow h y4,cnow h y5,cnow h y6,cnow h y7⟩
 refine zEA (fun w'=>w'.cell? ⟨bx,0,none⟩=some (.bool nx)∧w'.cell? ⟨bx,1,none⟩=some (.slice ax lx cx)∧w'.cell? ⟨bx,2,none⟩=some (.bool ny)∧w'.cell? ⟨bx,3,none⟩=some (.slice ay ly cy)∧w'.cell? ⟨bx,4,none⟩=some (.bool nu)∧w'.cell? ⟨bx,5,none⟩=some (.slice au lu cu)∧w'.cell? ⟨bx,6,none⟩=some (.bool nv)∧w'.cell? ⟨bx,7,none⟩=some (.slice av lv cv)) 17 (by kernel_rfl) ?_;obtain ⟨D21,hD⟩:∃D21,W0.drew=D21:=⟨_,rfl⟩
 have GB:Hid (Below W0.heap.size W0 D21):=by unfold Hid;rw [←hD];exact (Below.refl _ _).drew
 rw [hD];clear hD;refine zHA [(0,(.pointer (some ⟨bx,4,none⟩))),(1,(.pointer (some ⟨bx,6,none⟩))),(2,(.agg #[.bool nv,.slice av lv cv])),(3,(.pointer (some ⟨bx,4,none⟩))),(4,(.pointer (some ⟨bx,4,none⟩))),(5,(.agg #[.bool nu,.slice au lu cu])),(8,(.pointer (some ⟨bx,0,none⟩))),(9,(.pointer (some ⟨bx,2,none⟩))),(10,(.agg #[.bool ny,.slice ay ly cy])),(12,(.pointer (some ⟨bx,0,none⟩))),(13,(.pointer (some ⟨bx,0,none⟩))),(14,(.agg #[.bool nx,.slice ax lx cx]))] 12 ?_ (KB.out _ GB.out) ?_
 ·simp only [zUA,gA9,g09,g19,Act.put,sI9,s09,s19]
  (repeat' (first | exact trivial | refine And.intro (Or.inl ⟨by rfl,?_⟩) ?_)) <;> (intro w hSw;(try dsimp only at hSw);go_simp)
 simp only [actV,gA9,g09,g19,Act.put,sI9,s09,s19];refine zAA (i:=6) (o:=⟨some 9,.call { callee:=.value (.func 41),args:=#[.tmp 8],argTypes:=#[47] },47, "hand.go:52",#[⟨5,.data⟩],none⟩) (by kernel_rfl) rfl (fun K hK=>?_);go_simp;go_at_call 41;refine (zCI (ZU.out.now GB.out).zi).mono ?_;rintro e w22 ⟨r1,rfl,m1,b⟩;have lz22:=(show Below _ _ _ from b).size;replace GB:=hid (below_step GB.out b);have Z1:=hid (m1.mono (Nat.zero_le _));obtain ⟨na,xa,aa1,ca1,rfl⟩:=m1.parts;clear m1;clear b;refine hK.out _ _ (fun _=>KB.out _ GB.out) ?_;clear hK;refine zHA [(7,(.agg #[.bool nv,.slice av lv cv,.bool na,.slice aa1 xa.length ca1]))] 1 ?_ (KB.out _ GB.out) ?_
 ·simp only [zUA,gA9,g09,g19,Act.put,sI9,s09,s19]
  (repeat' (first | exact trivial | refine And.intro (Or.inl ⟨by rfl,?_⟩) ?_)) <;> (intro w hSw;(try dsimp only at hSw);go_simp)
 simp only [actV,gA9,g09,g19,Act.put,sI9,s09,s19];refine zAA (i:=11) (o:=⟨some 14,.call { callee:=.value (.func 41),args:=#[.tmp 13],argTypes:=#[47] },47, "hand.go:53",#[⟨10,.data⟩,⟨6,.chain⟩],none⟩) (by kernel_rfl) rfl (fun K hK=>?_);go_simp;go_at_call 41;refine (zCI (ZY.out.now GB.out).zi).mono ?_;rintro e w23 ⟨r2,rfl,m2,b⟩;have lz23:=(show Below _ _ _ from b).size;replace GB:=hid (below_step GB.out b);replace Z1:=hid (Z1.out.now b);have Z2:=hid (m2.mono (Nat.zero_le _));obtain ⟨nb,xb,ab1,cb1,rfl⟩:=m2.parts;clear m2;clear b;refine hK.out _ _ (fun _=>KB.out _ GB.out) ?_;clear hK;refine zHA [(15,(.agg #[.bool nb,.slice ab1 xb.length cb1,.bool nx,.slice ax lx cx])),(16,(.agg #[.bool nv,.slice av lv cv,.bool na,.slice aa1 xa.length ca1,.bool nb,.slice ab1 xb.length cb1,.bool nx,.slice ax lx cx]))] 2 ?_ (KB.out _ GB.out) ?_
 ·simp only [zUA,gA9,g09,g19,Act.put,sI9,s09,s19]
  (repeat' (first | exact trivial | refine And.intro (Or.inl ⟨by rfl,?_⟩) ?_)) <;> (intro w hSw;(try dsimp only at hSw);go_simp)
 simp only [actV,gA9,g09,g19,Act.put,sI9,s09,s19];refine zAA (i:=17) (o:=⟨none,.store 85 (.tmp 2) (.tmp 19),0, "hand.go:51",#[⟨16,.data⟩,⟨11,.chain⟩,⟨0,.phase⟩,⟨1,.phase⟩,⟨2,.phase⟩,⟨3,.phase⟩,⟨4,.phase⟩,⟨5,.phase⟩,⟨6,.phase⟩,⟨7,.phase⟩,⟨8,.phase⟩,⟨9,.phase⟩,⟨10,.phase⟩,⟨11,.phase⟩,⟨12,.phase⟩,⟨13,.phase⟩,⟨14,.phase⟩,⟨15,.phase⟩,⟨16,.phase⟩],none⟩) (by kernel_rfl) rfl (fun K hK=>?_);have dR:=DR.out.step GB.out;have r0:=dR.at (i:=0) rfl;have r1':=dR.at (i:=1) rfl;have r2':=dR.at (i:=2) rfl;have r3:=dR.at (i:=3) rfl;have r4:=dR.at (i:=4) rfl;have r5:=dR.at (i:=5) rfl;have r6:=dR.at (i:=6) rfl;have r7:=dR.at (i:=7) rfl;have f0:=dR.fz 0;have f1:=dR.fz 1;have f2:=dR.fz 2;have f3:=dR.fz 3;have f4:=dR.fz 4;have f5:=dR.fz 5;have f6:=dR.fz 6;have f7:=dR.fz 7;go_simp;clear r0 r1' r2' r3 r4 r5 r6 r7 f0 f1 f2 f3 f4 f5 f6 f7;obtain ⟨V24,hW⟩:∃V24,((((((((w23.setCell ⟨bx+1,0,none⟩ (.bool nv)).setCell ⟨bx+1,1,none⟩ (.slice av lv cv)).setCell ⟨bx+1,2,none⟩ (.bool na)).setCell ⟨bx+1,3,none⟩ (.slice aa1 xa.length ca1)).setCell ⟨bx+1,4,none⟩ (.bool nb)).setCell ⟨bx+1,5,none⟩ (.slice ab1 xb.length cb1)).setCell ⟨bx+1,6,none⟩ (.bool nx)).setCell ⟨bx+1,7,none⟩ (.slice ax lx cx))=V24:=⟨_,rfl⟩
 have DV:=hid (put8_21 dR hW);rw [hW];have FF:Hid (Up21 w v (-u) (-y) x l (.returned (.agg #[.bool nv,.slice av lv cv,.bool na,.slice aa1 xa.length ca1,.bool nb,.slice ab1 xb.length cb1,.bool nx,.slice ax lx cx])) V24):=by
  unfold Hid;rw [←hW];have hz:=HBX.out;have ty:=put8_ty21 dR;exact ⟨_,_,_,_,_,_,_,_,_,_,_,_,_,_,_,_,rfl,(ZV.out.now GB.out).ty (ty _ _ _ _ _ _ _ _) (by decide),Z1.out.ty (ty _ _ _ _ _ _ _ _) (by decide),Z2.out.ty (ty _ _ _ _ _ _ _ _) (by decide),(ZX.out.now GB.out).ty (ty _ _ _ _ _ _ _ _) (by decide),bset (bset (bset (bset (bset (bset (bset (bset (below_step B0.out GB.out) (by omega)) (by omega)) (by omega)) (by omega)) (by omega)) (by omega)) (by omega)) (by omega)⟩
 clear hW dR;refine hK.out _ _ (fun h=>absurd h (by decide)) ?_;clear hK
 try simp only [Act.put]
 refine zDA (by kernel_rfl) ?_ _;clear GB KB ZX ZY ZU ZV Z1 Z2 y0 y1 y2 y3 y4 y5 y6 y7 DR B0;go_wp2;refine bodyPost_ret (pback21 Tryz.results48 DV.out _ (by rfl)) rfl ?_;exact FF.out
theorem against2_21 {B m n kw l Lb cap i j Ba Bm lx cx ly cy lu cu lv cv:Nat} {w:World} {nx ny nu nv:Bool} {ax ay au av:Option Addr} {x y u v:Int} {gs:Nat→Nat} {X:Nat→Nat→Int} (hM:Cel w Bm 61 (hd21 Ba)) (hB:Cel w Ba 52 [(.slice (some ⟨Lb,0,none⟩) m cap)]) (h:Sh17 B w (.slice (some ⟨Lb,0,none⟩) m cap) m n gs X kw) (hi:i<m) (hj:j<m) (hij:i≠j)
  (hx:Zm 0 w (.agg #[.bool nx,.slice ax lx cx]) x l) (hy:Zm 0 w (.agg #[.bool ny,.slice ay ly cy]) y l) (hu:Zm 0 w (.agg #[.bool nu,.slice au lu cu]) u l) (hv:Zm 0 w (.agg #[.bool nv,.slice av lv cv]) v l)
  (hF:∀c,c<n→((v*X i c + -u*X j c).natAbs:Int)<pw kw) (hG:∀c,c<n→((-y*X i c+x*X j c).natAbs:Int)<pw kw) (hm:m≤64) (hn:n≤64) (hK:l+kw<1099511600000) :
  Calls Tryz.prog 47 #[.int .i64 (i:Int),.int .i64 (j:Int),.agg #[.bool nx,.slice ax lx cx,.bool ny,.slice ay ly cy,.bool nu,.slice au lu cu,.bool nv,.slice av lv cv],.pointer (some ⟨Bm,0,none⟩)] w (zeH w (gs i) (gs j) n (fun c=>v*X i c + -u*X j c) (fun c => -y*X i c+x*X j c) kw):=by
 obtain ⟨V0,hV0⟩:∃V0,w.alloc (.cells #[.bool nx,.slice ax lx cx,.bool ny,.slice ay ly cy,.bool nu,.slice au lu cu,.bool nv,.slice av lv cv] 85)=V0:=⟨_,rfl⟩
 obtain ⟨b0,sz0⟩:=alo1 w (.cells #[.bool nx,.slice ax lx cx,.bool ny,.slice ay ly cy,.bool nu,.slice au lu cu,.bool nv,.slice av lv cv] 85);rw [hV0] at b0 sz0;have dB:Cel V0 w.heap.size 85 [.bool nx,.slice ax lx cx,.bool ny,.slice ay ly cy,.bool nu,.slice au lu cu,.bool nv,.slice av lv cv]:=by rw [←hV0];exact Cel.new w _ _
 have SH:=hid (h.now b0);have HB:=hid (hB.step b0);have m3:=(hM.step b0).at (i:=3) rfl;have ZX:=hid (hx.now b0);have ZY:=hid (hy.now b0);have ZU:=hid (hu.now b0);have ZV:=hid (hv.now b0);have y0:=dB.at (i:=0) rfl;have y1:=dB.at (i:=1) rfl;have y2:=dB.at (i:=2) rfl;have y3:=dB.at (i:=3) rfl;have y4:=dB.at (i:=4) rfl;have y5:=dB.at (i:=5) rfl;have y6:=dB.at (i:=6) rfl;have y7:=dB.at (i:=7) rfl;have HF:=hid hF;have HG:=hid hG;have HK:=hid hK;have B0:=hid b0;have EV0:=hid hV0;have HI:=hid (show i<m∧j<m∧i≠j from ⟨hi,hj,hij⟩);obtain ⟨bx,hbx⟩:∃bx,w.heap.size=bx:=⟨_,rfl⟩
 rw [hbx] at y0 y1 y2 y3 y4 y5 y6 y7;have EBX:=hid hbx;clear hB hM h hi hj hij hx hy hu hv hF hG hK b0 sz0 hV0 dB hbx;go_enter Tryz.func47,Tryz.ntmps47;go_wp2_with fail;rw [EV0.out,EBX.out];have KB:Hid (∀w',Below V0.heap.size V0 w'→w'.cell? ⟨Bm,3,none⟩=some (hf4 Ba)∧w'.cell? ⟨bx,0,none⟩=some (.bool nx)∧w'.cell? ⟨bx,1,none⟩=some (.slice ax lx cx)∧w'.cell? ⟨bx,2,none⟩=some (.bool ny)∧w'.cell? ⟨bx,3,none⟩=some (.slice ay ly cy)∧w'.cell? ⟨bx,4,none⟩=some (.bool nu)∧w'.cell? ⟨bx,5,none⟩=some (.slice au lu cu)∧w'.cell? ⟨bx,6,none⟩=some (.bool nv)∧w'.cell? ⟨bx,7,none⟩=some (.slice av lv cv)):=fun w' h=>⟨cnow h m3,cnow h y0,cnow h y1,cnow h y2,cnow h y3,cnow h y4,cnow h y5,cnow h y6,cnow h y7⟩
 refine zEA (fun w'=>w'.cell? ⟨Bm,3,none⟩=some (hf4 Ba)∧w'.cell? ⟨bx,0,none⟩=some (.bool nx)∧w'.cell? ⟨bx,1,none⟩=some (.slice ax lx cx)∧w'.cell? ⟨bx,2,none⟩=some (.bool ny)∧w'.cell? ⟨bx,3,none⟩=some (.slice ay ly cy)∧w'.cell? ⟨bx,4,none⟩=some (.bool nu)∧w'.cell? ⟨bx,5,none⟩=some (.slice au lu cu)∧w'.cell? ⟨bx,6,none⟩=some (.bool nv)∧w'.cell? ⟨bx,7,none⟩=some (.slice av lv cv)) 6 (by kernel_rfl) ?_;obtain ⟨D41,hD⟩:∃D41,V0.drew=D41:=⟨_,rfl⟩
 have GB:Hid (Below V0.heap.size V0 D41):=by unfold Hid;rw [←hD];exact (Below.refl _ _).drew
 rw [hD];clear hD;refine zHA [(0,(.pointer (some ⟨Bm,3,none⟩))),(1,(hf4 Ba)),(2,(.int .i64 (i:Int))),(3,(.int .i64 (j:Int))),(4,(.agg #[.bool nx,.slice ax lx cx,.bool ny,.slice ay ly cy,.bool nu,.slice au lu cu,.bool nv,.slice av lv cv]))] 5 ?_ (KB.out _ GB.out) ?_
 ·simp only [zUA,gA9,g09,g19,Act.put,sI9,s09,s19]
  (repeat' (first | exact trivial | refine And.intro (Or.inl ⟨by rfl,?_⟩) ?_)) <;> (intro w hSw;(try dsimp only at hSw);go_simp)
 simp only [actV,gA9,g09,g19,Act.put,sI9,s09,s19];refine zAA (i:=5) (o:=⟨some 12,.call { callee:=.value (.func 48),args:=#[.tmp 11],argTypes:=#[85] },85, "hand.go:45",#[⟨4,.data⟩],none⟩) (by kernel_rfl) rfl (fun K hK=>?_);go_simp;go_at_call 48;refine (upended21 (ZX.out.now GB.out) (ZY.out.now GB.out) (ZU.out.now GB.out) (ZV.out.now GB.out)).mono ?_;rintro e w42 ⟨n0,n1,n2,n3,p0,p1,p2,p3,l0,c0,l1,c1,l2,c2,l3,c3,rfl,z0,z1,z2,z3,b⟩;have lz42:=(show Below _ _ _ from b).size;replace GB:=hid (below_step GB.out b);have ZA:=hid (show Zm 0 w42 (.agg #[.bool n0,.slice p0 l0 c0]) v l∧Zm 0 w42 (.agg #[.bool n1,.slice p1 l1 c1]) (-u) l∧Zm 0 w42 (.agg #[.bool n2,.slice p2 l2 c2]) (-y) l∧Zm 0 w42 (.agg #[.bool n3,.slice p3 l3 c3]) x l from ⟨z0,z1,z2,z3⟩);clear z0 z1 z2 z3;clear b;refine hK.out _ _ (fun _=>KB.out _ GB.out) ?_;clear hK;refine zAA (i:=6) (o:=⟨some 13,.call { callee:=.value (.tmp 8),args:=#[.tmp 9,.tmp 10,.tmp 12],argTypes:=#[3,3,85] },0, "hand.go:45",#[⟨1,.data⟩,⟨2,.data⟩,⟨3,.data⟩,⟨5,.data⟩,⟨5,.chain⟩],none⟩) (by kernel_rfl) rfl (fun K hK=>?_);have BD:=GB;go_simp;go_at_call 44;refine (zYG (HB.out.step GB.out) (SH.out.now GB.out) HI.out.1 HI.out.2.1 HI.out.2.2 ZA.out.1 ZA.out.2.1 ZA.out.2.2.1 ZA.out.2.2.2 HF.out HG.out hm hn HK.out).mono ?_;rintro e w9 ⟨rfl,hr,hr2,ht⟩;have FF:Hid (zeH w (gs i) (gs j) n (fun c=>v*X i c + -u*X j c) (fun c => -y*X i c+x*X j c) kw (.returned (.tuple #[])) w9):=⟨rfl,hr,hr2,(Touch.ofBelow (below_step B0.out BD.out)).trans ht⟩
 refine hK.out _ _ (fun h=>absurd h (by decide)) ?_;clear hK;refine zDA (by kernel_rfl) ?_ _;clear GB BD KB ZX ZY ZU ZV ZA SH m3 y0 y1 y2 y3 y4 y5 y6 y7 hr hr2 ht;go_wp2;go_end0;exact FF.out
end Go.Proofs.YtjjpodnjljfheaaGreat
namespace Go.Proofs.YtjjpodnjljfheaaGreat
open Go.RowKit
theorem zKA.look0 (R:zKA):R.looks[0]?=some (R.lv 0):=by unfold zKA.looks;split <;> rfl
theorem zKA.look1 (R:zKA) (h:R.full=true):R.looks[1]?=some (R.lv 1):=by unfold zKA.looks;rw [if_pos h];rfl
theorem zKA.p1 (R:zKA) (h:¬R.full=true):R.p=1:=by unfold zKA.p;rw [if_neg h]
theorem zKA.p2 (R:zKA) (h:R.full=true):R.p=2:=by unfold zKA.p;rw [if_pos h]
theorem at0_21 {R:zKA} {B bs m r i c:Nat} {w:World} {sv:Value} {ρ γ:Nat→Nat} {gs:Nat→Nat→Nat} {Z:Nat→Nat→Nat→Int} {kz:Nat→Nat} (h:Wk21 R B w bs sv m r ρ γ gs Z kz) (hi:i<m) (hc:c<R.n0) (hm:m≤64) (hn:R.n0≤64) :
  Calls Tryz.prog 93 #[.pointer (some ⟨bs,0,none⟩),.int .i64 (i:Int),.int .i64 (c:Int)] w (zsC w (Z 0 i c) (kz 0)):=by
 obtain ⟨V0,hV0⟩:∃V0,w.alloc zbox=V0:=⟨_,rfl⟩
 obtain ⟨b0,sz0⟩:=alo1 w zbox;rw [hV0] at b0 sz0;have dR:Duo V0 w.heap.size (.bool false) (.slice none 0 0):=by rw [←hV0];exact Duo.new w _ _
 have h0:=h.now b0;obtain ⟨Lb,cap,elv⟩:=h.form (by omega) R.q0;have sh:=h0.sh 0 R.q0;rw [elv,show R.wd m 0=R.n0 from rfl] at sh;have s0:=h0.s.at (i:=0) rfl;have l0:=h0.l.at (i:=0) R.look0;rw [elv] at l0;have li:=sh.lineS hi;obtain ⟨nb,a,l,cc,q0,q1,-,-,z⟩:=(sh.2.2 i hi).2.at hc;have r0:=dR.c0;have r1:=dR.c1;have f0:=dR.fz 0;have f1:=dR.fz 1;obtain ⟨x,hx⟩:∃x,Z 0 i c=x:=⟨_,rfl⟩
 obtain ⟨kw,hkw⟩:∃kw,kz 0=kw:=⟨_,rfl⟩
 rw [hx,hkw] at z;rw [hx,hkw];have FF:Hid (zsC w x kw (.returned (.agg #[.bool nb,.slice a l cc])) ((V0.setCell ⟨w.heap.size,0,none⟩ (.bool nb)).setCell ⟨w.heap.size,1,none⟩ (.slice a l cc))∧Duo ((V0.setCell ⟨w.heap.size,0,none⟩ (.bool nb)).setCell ⟨w.heap.size,1,none⟩ (.slice a l cc)) w.heap.size (.bool nb) (.slice a l cc)) :=
  ⟨⟨nb,a,l,cc,rfl,z.ty (dR.ty18 _ _) (by decide),bset (bset b0 (Nat.le_refl _)) (Nat.le_refl _)⟩,dR.set _ _⟩
 have EV:=hid hV0;have hp:(0:Int)<(R.p:Int):=by unfold zKA.p;split <;> decide
 have hr1:(V0.setCell ⟨w.heap.size,0,none⟩ (.bool nb)).cell? ⟨w.heap.size,1,none⟩=some (.slice none 0 0):=(dR.set0 _).c1;obtain ⟨n0,hn0⟩:∃n0,R.n0=n0:=⟨_,rfl⟩
 obtain ⟨p,hpe⟩:∃p,R.p=p:=⟨_,rfl⟩
 obtain ⟨Bl,hBl⟩:∃Bl,R.Bl=Bl:=⟨_,rfl⟩
 obtain ⟨g,hg⟩:∃g,gs 0 i=g:=⟨_,rfl⟩
 rw [hpe] at hp s0;rw [hBl] at s0 l0;rw [hg] at li q0 q1;rw [hn0] at li hc hn;have him:(i:Int)<(m:Int):=by omega
 have hcn:(c:Int)<(n0:Int):=by omega
 obtain ⟨bx,hbx⟩:∃bx,w.heap.size=bx:=⟨_,rfl⟩
 rw [hbx] at r0 r1 f0 f1 FF hr1;have EBX:=hid hbx;clear h h0 hi hc b0 sz0 hV0 dR z hbx sh elv hx hkw hn0 hpe hBl hg;go_enter Tryz.func93,Tryz.ntmps93;go_upto_region 1 with fail
 rw [EV.out,EBX.out];go_wp2_with fail
 go_loopw [2,14] (fun c' i wr=>c'=.int .i64 (c:Int)∧i=.int .i64 0∧wr=V0) (fun _ _ _=>0)
 case atStart=>exact ⟨rfl,rfl,rfl⟩
 case round =>
  obtain ⟨rfl,rfl,rfl⟩:=hrel;go_wp2_with fail;refine bodyPost_ret (zdB Tryz.results93 FF.out.2 _ (by rfl)) rfl ?_;exact FF.out.1
theorem at1_21 {R:zKA} {B bs m r i c:Nat} {w:World} {sv:Value} {ρ γ:Nat→Nat} {gs:Nat→Nat→Nat} {Z:Nat→Nat→Nat→Int} {kz:Nat→Nat} (h:Wk21 R B w bs sv m r ρ γ gs Z kz) (hf:R.full=true) (hi:i<m) (hc:c<m) (hm:m≤64) (hn:R.n0≤64) :
  Calls Tryz.prog 93 #[.pointer (some ⟨bs,0,none⟩),.int .i64 (i:Int),.int .i64 ((R.n0+c:Nat):Int)] w (zsC w (Z 1 i c) (kz 1)):=by
 have hq:=R.qf hf;obtain ⟨V0,hV0⟩:∃V0,w.alloc zbox=V0:=⟨_,rfl⟩
 obtain ⟨b0,sz0⟩:=alo1 w zbox;rw [hV0] at b0 sz0;have dR:Duo V0 w.heap.size (.bool false) (.slice none 0 0):=by rw [←hV0];exact Duo.new w _ _
 have h0:=h.now b0;obtain ⟨Lb,cap,elv⟩:=h.form (by omega) R.q0;obtain ⟨Lc,cap1,elv1⟩:=h.form (t:=1) (by omega) (by omega);have sh:=h0.sh 0 R.q0;rw [elv,show R.wd m 0=R.n0 from rfl] at sh;have sh1:=h0.sh 1 (by omega);rw [elv1,show R.wd m 1=m from rfl] at sh1;have s0:=h0.s.at (i:=0) rfl;rw [R.p2 hf] at s0;have l0:=h0.l.at (i:=0) R.look0;rw [elv] at l0;have l1:=h0.l.at (i:=1) (R.look1 hf);rw [elv1] at l1;have li:=sh.lineS hi;have lj:=sh1.lineS hi;obtain ⟨nb,a,l,cc,q0,q1,-,-,z⟩:=(sh1.2.2 i hi).2.at hc;have r0:=dR.c0;have r1:=dR.c1;have f0:=dR.fz 0;have f1:=dR.fz 1;obtain ⟨x,hx⟩:∃x,Z 1 i c=x:=⟨_,rfl⟩
 obtain ⟨kw,hkw⟩:∃kw,kz 1=kw:=⟨_,rfl⟩
 rw [hx,hkw] at z;rw [hx,hkw];have FF:Hid (zsC w x kw (.returned (.agg #[.bool nb,.slice a l cc])) ((V0.setCell ⟨w.heap.size,0,none⟩ (.bool nb)).setCell ⟨w.heap.size,1,none⟩ (.slice a l cc))∧Duo ((V0.setCell ⟨w.heap.size,0,none⟩ (.bool nb)).setCell ⟨w.heap.size,1,none⟩ (.slice a l cc)) w.heap.size (.bool nb) (.slice a l cc)) :=
  ⟨⟨nb,a,l,cc,rfl,z.ty (dR.ty18 _ _) (by decide),bset (bset b0 (Nat.le_refl _)) (Nat.le_refl _)⟩,dR.set _ _⟩
 have EV:=hid hV0;have hr1:(V0.setCell ⟨w.heap.size,0,none⟩ (.bool nb)).cell? ⟨w.heap.size,1,none⟩=some (.slice none 0 0):=(dR.set0 _).c1;obtain ⟨n0,hn0⟩:∃n0,R.n0=n0:=⟨_,rfl⟩
 obtain ⟨Bl,hBl⟩:∃Bl,R.Bl=Bl:=⟨_,rfl⟩
 obtain ⟨g,hg⟩:∃g,gs 0 i=g:=⟨_,rfl⟩
 obtain ⟨g1,hg1⟩:∃g1,gs 1 i=g1:=⟨_,rfl⟩
 rw [hBl] at s0 l0 l1;rw [hg] at li;rw [hg1] at lj q0 q1;rw [hn0] at li hn ⊢;have him:(i:Int)<(m:Int):=by omega
 have hcm:(c:Int)<(m:Int):=by omega
 obtain ⟨d,hd⟩:∃d,n0+c=d:=⟨_,rfl⟩
 have HW:Hid (IntKind.i64.wrap ((d:Int)-(n0:Int))=(c:Int)):=by unfold Hid;rw [zTA] <;> omega
 have hdn:¬(d:Int)<(n0:Int):=by omega
 rw [hd];obtain ⟨bx,hbx⟩:∃bx,w.heap.size=bx:=⟨_,rfl⟩
 rw [hbx] at r0 r1 f0 f1 FF hr1;have EBX:=hid hbx;clear h h0 hi hc b0 sz0 hV0 dR z hbx sh sh1 elv elv1 hx hkw hn0 hBl hg hg1 hq hf hd;go_enter Tryz.func93,Tryz.ntmps93;go_upto_region 1 with fail
 rw [EV.out,EBX.out];go_wp2_with fail
 go_loopg [2,14] 1 (fun gk s2 s14 wx=>((gk=1∧s2=.int .i64 (d:Int)∧s14=.int .i64 0)∨(gk=0∧s2=.int .i64 (c:Int)∧s14=.int .i64 1))∧wx=V0)
 case atStart=>exact ⟨.inl ⟨rfl,rfl,rfl⟩,rfl⟩
 case round =>
  obtain ⟨⟨hgk,rfl,rfl⟩ | ⟨hgk,rfl,rfl⟩,rfl⟩:=hrel
  ·have HG:=hid hgk
   have hw:=HW.out;clear hgk;go_wp2_with fail;go_roundg 0
   case rel=>exact ⟨.inr ⟨rfl,rfl,rfl⟩,rfl⟩
   case measure=>rw [HG.out];omega
  ·clear hgk
   go_wp2_with fail;refine bodyPost_ret (zdB Tryz.results93 FF.out.2 _ (by rfl)) rfl ?_;exact FF.out.1
theorem at21 {R:zKA} {B bs m n r kw i c:Nat} {w:World} {sv:Value} {ρ γ:Nat→Nat} {X:Nat→Nat→Int} (h:zOA R B w bs sv m n r ρ γ X kw) (hi:i<m) (hc:c<n) (hm:m≤64) :
  Calls Tryz.prog 93 #[.pointer (some ⟨bs,0,none⟩),.int .i64 (i:Int),.int .i64 (c:Int)] w (zsC w (X i c) kw):=by
 obtain ⟨gs,Z,kz,h1,h2⟩:=h
 by_cases q:c<R.n0
 ·rw [h2.x0 i c hi q,←h2.k0 0 R.q0 (by omega)]
  exact at0_21 h1 hi q hm h2.n64
 ·have hf:R.full=true:=Classical.byContradiction fun e=>by have:=h2.one (by simpa using e);omega
  have hn:=h2.n2 hf;have hq:=R.qf hf;have e:=h2.x1 hf i (c-R.n0) hi (by omega);rw [show R.n0+(c-R.n0)=c by omega] at e;have:=at1_21 (c:=c-R.n0) h1 hf hi (by omega) hm h2.n64;rw [show R.n0+(c-R.n0)=c by omega,h2.k0 1 (by omega) (by omega)] at this;rw [e];exact this
theorem width21 {R:zKA} {B bs m n r kw i:Nat} {w:World} {sv:Value} {ρ γ:Nat→Nat} {X:Nat→Nat→Int} (h:zOA R B w bs sv m n r ρ γ X kw) (hi:i<m) (hm:m≤64) :
  Calls Tryz.prog 92 #[.pointer (some ⟨bs,0,none⟩),.int .i64 (i:Int)] w fun e w'=>e=.returned (.int .i64 (n:Int))∧w'=w:=by
 obtain ⟨gs,Z,kz,h1,h2⟩:=h;obtain ⟨Lb,cap,elv⟩:=h1.form (by omega) R.q0;have sh:=h1.sh 0 R.q0;rw [elv,show R.wd m 0=R.n0 from rfl] at sh;have s0:=h1.s.at (i:=0) rfl;have l0:=h1.l.at (i:=0) R.look0;rw [elv] at l0;have li:=sh.lineS hi;have hn64:=h2.n64;have hw1:IntKind.i64.wrap ((R.n0:Int))=(R.n0:Int):=zTA (by omega) (by omega);have hw0:IntKind.i64.wrap (0+(R.n0:Int))=(R.n0:Int):=by rw [Int.zero_add];exact hw1
 have him:(i:Int)<(m:Int):=by omega
 by_cases hf:R.full=true
 ·have hq:=R.qf hf
  obtain ⟨Lc,cap1,elv1⟩:=h1.form (t:=1) (by omega) (by omega);have sh1:=h1.sh 1 (by omega);rw [elv1,show R.wd m 1=m from rfl] at sh1;have l1:=h1.l.at (i:=1) (R.look1 hf);rw [elv1] at l1;have lj:=sh1.lineS hi;rw [R.p2 hf] at s0;have hn:=(h2.n2 hf).1;have hw2:IntKind.i64.wrap ((R.n0:Int)+(m:Int))=(n:Int):=by rw [zTA] <;> omega
  obtain ⟨n0,hn0⟩:∃n0,R.n0=n0:=⟨_,rfl⟩
  obtain ⟨Bl,hBl⟩:∃Bl,R.Bl=Bl:=⟨_,rfl⟩
  obtain ⟨g,hg⟩:∃g,gs 0 i=g:=⟨_,rfl⟩
  obtain ⟨g1,hg1⟩:∃g1,gs 1 i=g1:=⟨_,rfl⟩
  rw [hBl] at s0 l0 l1;rw [hg,hn0] at li;rw [hg1] at lj;rw [hn0] at hw0 hw1 hw2;clear h1 h2 hi sh sh1 elv elv1 hn0 hBl hg hg1 hq hf hn hn64;go_enter Tryz.func92,Tryz.ntmps92;go_wp2_with fail
  go_loopg [5,13] 2 (fun gk s5 s13 wx=>(gk=2∧s5=.int .i64 0∧s13=.int .i64 0∨gk=1∧s5=.int .i64 (n0:Int)∧s13=.int .i64 1∨gk=0∧s5=.int .i64 (n:Int)∧s13=.int .i64 2)∧wx=w)
  case atStart=>exact ⟨.inl ⟨rfl,rfl,rfl⟩,rfl⟩
  case round =>
   obtain ⟨⟨hg,rfl,rfl⟩ | ⟨hg,rfl,rfl⟩ | ⟨hg,rfl,rfl⟩,rfl⟩:=hrel
   ·have HG:=hid hg
    clear hg;go_wp2_with fail;go_roundg 1
    case rel=>exact ⟨.inr (.inl ⟨rfl,rfl,rfl⟩),rfl⟩
    case measure=>rw [HG.out];omega
   ·have HG:=hid hg
    clear hg;go_wp2_with fail;go_roundg 0
    case rel=>exact ⟨.inr (.inr ⟨rfl,rfl,rfl⟩),rfl⟩
    case measure=>rw [HG.out];omega
   ·clear hg
    go_wp2;go_ret;exact ⟨rfl,rfl⟩
 ·have hn:=h2.one (by simpa using hf)
  rw [R.p1 hf] at s0;obtain ⟨Bl,hBl⟩:∃Bl,R.Bl=Bl:=⟨_,rfl⟩
  obtain ⟨g,hg⟩:∃g,gs 0 i=g:=⟨_,rfl⟩
  rw [hBl] at s0 l0;rw [←hn] at li hw0 hw1;rw [hg] at li;clear h1 h2 hi sh elv hBl hg hf hn hn64;go_enter Tryz.func92,Tryz.ntmps92;go_wp2_with fail
  go_loopg [5,13] 1 (fun gk s5 s13 wx=>(gk=1∧s5=.int .i64 0∧s13=.int .i64 0∨gk=0∧s5=.int .i64 (n:Int)∧s13=.int .i64 1)∧wx=w)
  case atStart=>exact ⟨.inl ⟨rfl,rfl,rfl⟩,rfl⟩
  case round =>
   obtain ⟨⟨hg,rfl,rfl⟩ | ⟨hg,rfl,rfl⟩,rfl⟩:=hrel
   ·have HG:=hid hg
    clear hg;go_wp2_with fail;go_roundg 0
    case rel=>exact ⟨.inr ⟨rfl,rfl,rfl⟩,rfl⟩
    case measure=>rw [HG.out];omega
   ·clear hg
    go_wp2;go_ret;exact ⟨rfl,rfl⟩
end Go.Proofs.YtjjpodnjljfheaaGreat
