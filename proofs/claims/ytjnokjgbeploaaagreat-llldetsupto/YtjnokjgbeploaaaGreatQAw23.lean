import Derived.Test.YtjnokjgbeploaaaGreatQGr23ToWk13
import Derived.Test.YtjnokjgbeploaaaGreatQUnit9ToBw8
set_option maxRecDepth 100000
set_option maxHeartbeats 6400000
set_option linter.unusedVariables false
set_option linter.unusedSimpArgs false
namespace Go.Proofs.YtjnokjgbeploaaaGreat
open Go.RowKit
theorem OwnP.now23 {B:Nat} {w w':World} {v:Value} {ps:List (Value×Value)} (h:OwnP B w v ps) (hb:Below w.heap.size w w'):OwnP B w' v ps:=h.keep13 fun b _ hlt=>hb.block b hlt
def zJC (w:World) (z:Int) (e:Ending) (w':World):Prop:=∃a l c,e=.returned (.agg #[.bool false,.slice a l c])∧Zc w' (.agg #[.bool false,.slice a l c]) z 1∧Below w.heap.size w w'
theorem zJH {w:World}:Calls Tryz.prog 18 #[.int .i64 1] w (zJC w 1):=by
 obtain ⟨W0,hW⟩:∃W0,w.alloc (duo (.bool false) (.slice (some ⟨w.heap.size+1,0,none⟩) 1 1))=W0:=⟨_,rfl⟩
 obtain ⟨b0,sz0⟩:=alo1 w (duo (.bool false) (.slice (some ⟨w.heap.size+1,0,none⟩) 1 1));rw [hW] at b0 sz0;obtain ⟨V,hV⟩:∃V,W0.alloc (.cells #[.int .u64 1] 58)=V:=⟨_,rfl⟩
 obtain ⟨bv,szv⟩:=alo1 W0 (.cells #[.int .u64 1] 58);rw [hV] at bv szv;have hsl:Sl V.heap.size V (.slice (some ⟨W0.heap.size,0,none⟩) 1 1) [1]:=by
  rw [←hV];have:=Row.new_sl W0 [1] (znC (by omega) WF.nil) (by decide)
  simpa [ws] using this
 rw [sz0] at hsl;have PF:Hid (Duo V w.heap.size (.bool false) (.slice (some ⟨w.heap.size+1,0,none⟩) 1 1)):=by unfold Hid;refine Duo.step ?_ bv;rw [←hW];exact Duo.new w _ _
 have FIN:Hid (zJC w 1 (.returned (.agg #[.bool false,.slice (some ⟨w.heap.size+1,0,none⟩) 1 1])) V):=⟨_,_,_,rfl,⟨false,[1],_,_,rfl,hsl,⟨hsl.1,by decide⟩,by simp,by decide,by simp⟩,zBA b0 bv⟩
 rw [←hV,←hW] at FIN PF;clear b0 sz0 hW bv szv hV hsl;go_enter Tryz.func18,Tryz.ntmps18;go_wp2;exact bodyPost_ret (znA Tryz.results18 PF.out _ (by rfl)) rfl FIN.out
theorem num23_2 {w:World}:Calls Tryz.prog 18 #[.int .i64 2] w (zJC w 2):=by
 obtain ⟨W0,hW⟩:∃W0,w.alloc (duo (.bool false) (.slice (some ⟨w.heap.size+1,0,none⟩) 1 1))=W0:=⟨_,rfl⟩
 obtain ⟨b0,sz0⟩:=alo1 w (duo (.bool false) (.slice (some ⟨w.heap.size+1,0,none⟩) 1 1));rw [hW] at b0 sz0;obtain ⟨V,hV⟩:∃V,W0.alloc (.cells #[.int .u64 2] 58)=V:=⟨_,rfl⟩
 obtain ⟨bv,szv⟩:=alo1 W0 (.cells #[.int .u64 2] 58);rw [hV] at bv szv;have hsl:Sl V.heap.size V (.slice (some ⟨W0.heap.size,0,none⟩) 1 1) [2]:=by
  rw [←hV];have:=Row.new_sl W0 [2] (znC (by omega) WF.nil) (by decide)
  simpa [ws] using this
 rw [sz0] at hsl;have PF:Hid (Duo V w.heap.size (.bool false) (.slice (some ⟨w.heap.size+1,0,none⟩) 1 1)):=by unfold Hid;refine Duo.step ?_ bv;rw [←hW];exact Duo.new w _ _
 have FIN:Hid (zJC w 2 (.returned (.agg #[.bool false,.slice (some ⟨w.heap.size+1,0,none⟩) 1 1])) V):=⟨_,_,_,rfl,⟨false,[2],_,_,rfl,hsl,⟨hsl.1,by decide⟩,by simp,by decide,by simp⟩,zBA b0 bv⟩
 rw [←hV,←hW] at FIN PF;clear b0 sz0 hW bv szv hV hsl;go_enter Tryz.func18,Tryz.ntmps18;go_wp2;exact bodyPost_ret (znA Tryz.results18 PF.out _ (by rfl)) rfl FIN.out
theorem num23_3 {w:World}:Calls Tryz.prog 18 #[.int .i64 3] w (zJC w 3):=by
 obtain ⟨W0,hW⟩:∃W0,w.alloc (duo (.bool false) (.slice (some ⟨w.heap.size+1,0,none⟩) 1 1))=W0:=⟨_,rfl⟩
 obtain ⟨b0,sz0⟩:=alo1 w (duo (.bool false) (.slice (some ⟨w.heap.size+1,0,none⟩) 1 1));rw [hW] at b0 sz0;obtain ⟨V,hV⟩:∃V,W0.alloc (.cells #[.int .u64 3] 58)=V:=⟨_,rfl⟩
 obtain ⟨bv,szv⟩:=alo1 W0 (.cells #[.int .u64 3] 58);rw [hV] at bv szv;have hsl:Sl V.heap.size V (.slice (some ⟨W0.heap.size,0,none⟩) 1 1) [3]:=by
  rw [←hV];have:=Row.new_sl W0 [3] (znC (by omega) WF.nil) (by decide)
  simpa [ws] using this
 rw [sz0] at hsl;have PF:Hid (Duo V w.heap.size (.bool false) (.slice (some ⟨w.heap.size+1,0,none⟩) 1 1)):=by unfold Hid;refine Duo.step ?_ bv;rw [←hW];exact Duo.new w _ _
 have FIN:Hid (zJC w 3 (.returned (.agg #[.bool false,.slice (some ⟨w.heap.size+1,0,none⟩) 1 1])) V):=⟨_,_,_,rfl,⟨false,[3],_,_,rfl,hsl,⟨hsl.1,by decide⟩,by simp,by decide,by simp⟩,zBA b0 bv⟩
 rw [←hV,←hW] at FIN PF;clear b0 sz0 hW bv szv hV hsl;go_enter Tryz.func18,Tryz.ntmps18;go_wp2;exact bodyPost_ret (znA Tryz.results18 PF.out _ (by rfl)) rfl FIN.out
theorem zIH {w:World}:Calls Tryz.prog 18 #[.int .i64 4] w (zJC w 4):=by
 obtain ⟨W0,hW⟩:∃W0,w.alloc (duo (.bool false) (.slice (some ⟨w.heap.size+1,0,none⟩) 1 1))=W0:=⟨_,rfl⟩
 obtain ⟨b0,sz0⟩:=alo1 w (duo (.bool false) (.slice (some ⟨w.heap.size+1,0,none⟩) 1 1));rw [hW] at b0 sz0;obtain ⟨V,hV⟩:∃V,W0.alloc (.cells #[.int .u64 4] 58)=V:=⟨_,rfl⟩
 obtain ⟨bv,szv⟩:=alo1 W0 (.cells #[.int .u64 4] 58);rw [hV] at bv szv;have hsl:Sl V.heap.size V (.slice (some ⟨W0.heap.size,0,none⟩) 1 1) [4]:=by
  rw [←hV];have:=Row.new_sl W0 [4] (znC (by omega) WF.nil) (by decide)
  simpa [ws] using this
 rw [sz0] at hsl;have PF:Hid (Duo V w.heap.size (.bool false) (.slice (some ⟨w.heap.size+1,0,none⟩) 1 1)):=by unfold Hid;refine Duo.step ?_ bv;rw [←hW];exact Duo.new w _ _
 have FIN:Hid (zJC w 4 (.returned (.agg #[.bool false,.slice (some ⟨w.heap.size+1,0,none⟩) 1 1])) V):=⟨_,_,_,rfl,⟨false,[4],_,_,rfl,hsl,⟨hsl.1,by decide⟩,by simp,by decide,by simp⟩,zBA b0 bv⟩
 rw [←hV,←hW] at FIN PF;clear b0 sz0 hW bv szv hV hsl;go_enter Tryz.func18,Tryz.ntmps18;go_wp2;exact bodyPost_ret (znA Tryz.results18 PF.out _ (by rfl)) rfl FIN.out
theorem num23_5 {w:World}:Calls Tryz.prog 18 #[.int .i64 5] w (zJC w 5):=by
 obtain ⟨W0,hW⟩:∃W0,w.alloc (duo (.bool false) (.slice (some ⟨w.heap.size+1,0,none⟩) 1 1))=W0:=⟨_,rfl⟩
 obtain ⟨b0,sz0⟩:=alo1 w (duo (.bool false) (.slice (some ⟨w.heap.size+1,0,none⟩) 1 1));rw [hW] at b0 sz0;obtain ⟨V,hV⟩:∃V,W0.alloc (.cells #[.int .u64 5] 58)=V:=⟨_,rfl⟩
 obtain ⟨bv,szv⟩:=alo1 W0 (.cells #[.int .u64 5] 58);rw [hV] at bv szv;have hsl:Sl V.heap.size V (.slice (some ⟨W0.heap.size,0,none⟩) 1 1) [5]:=by
  rw [←hV];have:=Row.new_sl W0 [5] (znC (by omega) WF.nil) (by decide)
  simpa [ws] using this
 rw [sz0] at hsl;have PF:Hid (Duo V w.heap.size (.bool false) (.slice (some ⟨w.heap.size+1,0,none⟩) 1 1)):=by unfold Hid;refine Duo.step ?_ bv;rw [←hW];exact Duo.new w _ _
 have FIN:Hid (zJC w 5 (.returned (.agg #[.bool false,.slice (some ⟨w.heap.size+1,0,none⟩) 1 1])) V):=⟨_,_,_,rfl,⟨false,[5],_,_,rfl,hsl,⟨hsl.1,by decide⟩,by simp,by decide,by simp⟩,zBA b0 bv⟩
 rw [←hV,←hW] at FIN PF;clear b0 sz0 hW bv szv hV hsl;go_enter Tryz.func18,Tryz.ntmps18;go_wp2;exact bodyPost_ret (znA Tryz.results18 PF.out _ (by rfl)) rfl FIN.out
theorem row_three23 {V:World} {g:Nat} {n0 n1 n2:Bool} {a0 a1 a2:Option Addr} {l0 l1 l2 c0 c1 c2:Nat} {z0 z1 z2:Int} {k:Nat} (d:Cel V g 39 [.bool n0,.slice a0 l0 c0,.bool n1,.slice a1 l1 c1,.bool n2,.slice a2 l2 c2])
  (h0:Zc V (.agg #[.bool n0,.slice a0 l0 c0]) z0 k) (h1:Zc V (.agg #[.bool n1,.slice a1 l1 c1]) z1 k) (h2:Zc V (.agg #[.bool n2,.slice a2 l2 c2]) z2 k) :
  ∃qs,Prs 0 V (.slice (some ⟨g,0,none⟩) 3 3) qs∧Zcs V qs [z0,z1,z2] k:=by
 have ar:Arr V g [(.bool n0,.slice a0 l0 c0),(.bool n1,.slice a1 l1 c1),(.bool n2,.slice a2 l2 c2)]:=⟨d,fun p hp=>by
  simp at hp;rcases hp with rfl | rfl | rfl <;> exact ⟨_,_,_,_,rfl⟩⟩
 refine ⟨_,ar.prs (Nat.zero_le _) (by simp) (Nat.le_refl _),⟨rfl,fun j p z hp hz=>?_⟩⟩
 match j,hp,hz with
 | 0,hp,hz=>simp at hp hz;subst hp hz;exact h0
 | 1,hp,hz=>simp at hp hz;subst hp hz;exact h1
 | 2,hp,hz=>simp at hp hz;subst hp hz;exact h2
 | j+3,hp,hz=>simp at hp
theorem dets_four23:ldL (en 2 (zbE 2 2 [1,2,3,4])) 2=[1,5,4]:=by decide
theorem zfH (w:World):Calls Tryz.prog 4 #[] w fun e w'=>e=.returned (.bool true)∧Below w.heap.size w w':=by
 go_enter Tryz.func4,Tryz.ntmps4;go_wp2_with fail;refine (zJH).mono ?_;rintro e w1 ⟨a1,l1,c1,rfl,z,b⟩;have G:=hid b;have Z1:=hid z;clear z;clear b;go_wp2_with fail;refine (num23_2).mono ?_;rintro e w2 ⟨a2,l2,c2,rfl,z,b⟩;replace G:=hid (zBA G.out b);replace Z1:=hid (Z1.out.now b);have Z2:=hid z;clear z;clear b;go_wp2_with fail;refine (num23_3).mono ?_;rintro e w3 ⟨a3,l3,c3,rfl,z,b⟩;replace G:=hid (zBA G.out b);replace Z1:=hid (Z1.out.now b);replace Z2:=hid (Z2.out.now b);have Z3:=hid z;clear z;clear b;go_wp2_with fail;refine (zIH).mono ?_;rintro e w4 ⟨a4,l4,c4,rfl,z,b⟩;replace G:=hid (zBA G.out b);replace Z1:=hid (Z1.out.now b);replace Z2:=hid (Z2.out.now b);replace Z3:=hid (Z3.out.now b);have Z4:=hid z;clear z;clear b;obtain ⟨V,hV⟩:∃V,w4.alloc (.cells #[.bool false,.slice a1 l1 c1,.bool false,.slice a2 l2 c2,.bool false,.slice a3 l3 c3,.bool false,.slice a4 l4 c4] 39)=V:=⟨_,rfl⟩
 obtain ⟨bv,szv⟩:=alo1 w4 (.cells #[.bool false,.slice a1 l1 c1,.bool false,.slice a2 l2 c2,.bool false,.slice a3 l3 c3,.bool false,.slice a4 l4 c4] 39);rw [hV] at bv szv;have d:Cel V w4.heap.size 39 [.bool false,.slice a1 l1 c1,.bool false,.slice a2 l2 c2,.bool false,.slice a3 l3 c3,.bool false,.slice a4 l4 c4]:=by rw [←hV];exact Cel.new _ _ _
 have MM:=mx_four d (Z1.out.now bv).zi (Z2.out.now bv).zi (Z3.out.now bv).zi (Z4.out.now bv).zi;have HD:=hid (zYG MM (by decide));replace G:=hid (zBA G.out bv);have EV:=hid hV;clear hV bv szv d MM Z1 Z2 Z3 Z4;go_wp2_with fail;rw [EV.out];clear EV;refine (HD.out).mono ?_;rintro e w5 ⟨lv,qs,rfl,ho,hz,b⟩;replace G:=hid (zBA G.out b);rw [dets_four23] at hz;have OL:Hid (OwnP 0 _ lv qs):=zGB ho (Nat.zero_le _);have ZL:=hid hz;clear ho hz HD;clear b;go_wp2_with fail;refine (zJH).mono ?_;rintro e w6 ⟨a1,l1,c1,rfl,z,b⟩;replace G:=hid (zBA G.out b);replace OL:=hid (OL.out.now23 b);replace ZL:=hid (ZL.out.now b);have Z1:=hid z;clear z;clear b;go_wp2_with fail;refine (num23_5).mono ?_;rintro e w7 ⟨a5,l5,c5,rfl,z,b⟩;replace G:=hid (zBA G.out b);replace OL:=hid (OL.out.now23 b);replace ZL:=hid (ZL.out.now b);replace Z1:=hid (Z1.out.now b);have Z5:=hid z;clear z;clear b;go_wp2_with fail;refine (zIH).mono ?_;rintro e w8 ⟨a4,l4,c4,rfl,z,b⟩;replace G:=hid (zBA G.out b);replace OL:=hid (OL.out.now23 b);replace ZL:=hid (ZL.out.now b);replace Z1:=hid (Z1.out.now b);replace Z5:=hid (Z5.out.now b);have Z4:=hid z;clear z;clear b;obtain ⟨V,hV⟩:∃V,w8.alloc (.cells #[.bool false,.slice a1 l1 c1,.bool false,.slice a5 l5 c5,.bool false,.slice a4 l4 c4] 39)=V:=⟨_,rfl⟩
 obtain ⟨bv,szv⟩:=alo1 w8 (.cells #[.bool false,.slice a1 l1 c1,.bool false,.slice a5 l5 c5,.bool false,.slice a4 l4 c4] 39);rw [hV] at bv szv;have d:Cel V w8.heap.size 39 [.bool false,.slice a1 l1 c1,.bool false,.slice a5 l5 c5,.bool false,.slice a4 l4 c4]:=by rw [←hV];exact Cel.new _ _ _
 obtain ⟨rs,q1,q2⟩:=row_three23 d (Z1.out.now bv) (Z5.out.now bv) (Z4.out.now bv);have HD:=hid (zPC (zzB (OL.out.now23 bv) (by rw [ZL.out.1];decide)) (ZL.out.now bv).zcs q1 q2 rfl);replace G:=hid (zBA G.out bv);have EV:=hid hV;clear hV bv szv d Z1 Z5 Z4 OL ZL q1 q2;go_wp2_with fail;rw [EV.out];clear EV;refine HD.out.mono ?_;rintro e wz ⟨rfl,b⟩;replace G:=hid (zBA G.out b);clear HD b;go_wp2;go_ret;exact ⟨rfl,G.out⟩
theorem nomat23 (w:World):Calls Tryz.prog 8 #[.agg #[.int .i64 0,.int .i64 0,.slice none 0 0]] w fun e w'=>e=.returned (.bool true)∧Below w.heap.size w w':=by
 obtain ⟨W0,hV⟩:∃W0,w.alloc (.cells #[.int .i64 0,.int .i64 0,.slice none 0 0] 24)=W0:=⟨_,rfl⟩
 obtain ⟨b0,sz0⟩:=alo1 w (.cells #[.int .i64 0,.int .i64 0,.slice none 0 0] 24);rw [hV] at b0 sz0;have PA:Cel W0 w.heap.size 24 [.int .i64 0,.int .i64 0,.slice none 0 0]:=by rw [←hV];exact Cel.new w _ _
 have c0:=PA.at (i:=0) rfl;have c1:=PA.at (i:=1) rfl;have c2:=PA.at (i:=2) rfl;have G:=hid b0;rw [←hV] at c0 c1 c2;have EV:=hid hV;clear b0 sz0 hV PA;go_enter Tryz.func8,Tryz.ntmps8;go_wp2_with fail;rw [EV.out];go_ret;exact ⟨rfl,G.out⟩
theorem square23 {w:World} {v:Value} {xs:List Int} {k:Nat} (h:Zl w v xs k) (hk:k+k+xs.length<35184372088832) :
  Calls Tryz.prog 17 #[v] w fun e w'=>∃r,e=.returned r∧Zm w.heap.size w' r (dotv xs xs) (k+k+xs.length)∧Below w.heap.size w w':=by
 obtain ⟨aa,ca,rfl,-,-,-⟩:=h.form9;obtain ⟨W0,hW⟩:∃W0,w.alloc zbox=W0:=⟨_,rfl⟩
 obtain ⟨b0,sz0⟩:=alo1 w zbox;rw [hW] at b0 sz0;have PR:Hid (Duo W0 w.heap.size (.bool false) (.slice none 0 0)):=by unfold Hid;rw [←hW];exact Duo.new w _ _
 have HD:=hid (zZH (h.now b0) (h.now b0) rfl hk);have G:=hid b0;have SZ:=hid sz0;have EW:=hid hW;clear h b0 sz0 hW;go_enter Tryz.func17,Tryz.ntmps17;go_wp2_with fail;rw [EW.out];clear EW;refine HD.out.mono ?_;rintro e w1 ⟨r,rfl,m,b⟩;obtain ⟨nr,xr,ar,cr,rfl⟩:=m.parts;obtain ⟨V,hV⟩:∃V,w1.alloc (duo (.bool nr) (.slice ar xr.length cr))=V:=⟨_,rfl⟩
 obtain ⟨bv,szv⟩:=alo1 w1 (duo (.bool nr) (.slice ar xr.length cr));rw [hV] at bv szv;have PV:Duo V w1.heap.size (.bool nr) (.slice ar xr.length cr):=by rw [←hV];exact Duo.new w1 _ _
 have PR1:=(PR.out.step b).step bv;have G1:=zBA (zBA G.out b) bv;have d0:=PV.c0;have d1:=PV.c1;have r0:=PR1.c0;have r1:=PR1.c1;have f0:=PR1.fz 0;have f1:=PR1.fz 1;have tyv:=PR1.ty13 (.bool nr) (.slice ar xr.length cr);have PF:=hid (PR1.set (.bool nr) (.slice ar xr.length cr));have FIN:Hid (∃r,Ending.returned (.agg #[.bool nr,.slice ar xr.length cr])=.returned r∧Zm w.heap.size ((V.setCell ⟨w.heap.size,0,none⟩ (.bool nr)).setCell ⟨w.heap.size,1,none⟩ (.slice ar xr.length cr)) r (dotv xs xs) (k+k+xs.length)∧Below w.heap.size w ((V.setCell ⟨w.heap.size,0,none⟩ (.bool nr)).setCell ⟨w.heap.size,1,none⟩ (.slice ar xr.length cr))) :=
  ⟨_,rfl,((m.mono G.out.size).now bv).ty tyv (by decide),bset (bset G1 (Nat.le_refl _)) (Nat.le_refl _)⟩
 rw [←hV] at d0 d1 r0 r1 f0 f1 PF FIN;clear HD m b bv szv hV PV PR1 G1 PR G tyv SZ;go_wp2;exact bodyPost_ret (znA Tryz.results17 PF.out _ (by rfl)) rfl FIN.out
end Go.Proofs.YtjnokjgbeploaaaGreat
