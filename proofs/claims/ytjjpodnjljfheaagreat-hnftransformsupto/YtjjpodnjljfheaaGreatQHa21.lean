import Derived.Test.YtjjpodnjljfheaaGreatQAg21ToAt21
import Derived.Test.YtjjpodnjljfheaaGreatQIp18ToOr18
set_option maxRecDepth 100000
set_option maxHeartbeats 6400000
set_option linter.unusedVariables false
set_option linter.unusedSimpArgs false
namespace Go.Proofs.YtjjpodnjljfheaaGreat
open Go.RowKit
attribute [local go_sem] zCD
def upZ (Z Y:Nat→Nat→Nat→Int) (h:Nat):Nat→Nat→Nat→Int:=fun t=>if t<h then Y t else Z t
theorem zuB (Z Y:Nat→Nat→Nat→Int) (h:Nat):upZ Z Y h h=Z h:=if_neg (Nat.lt_irrefl _)
theorem zZC (Z Y:Nat→Nat→Nat→Int) (h:Nat):upZ Z Y (h+1) h=Y h:=if_pos (Nat.lt_succ_self _)
theorem zYC {Z Y:Nat→Nat→Nat→Int} {h:Nat}:∀u,u≠h→upZ Z Y (h+1) u=upZ Z Y h u:=fun u q=>by
 unfold upZ
 by_cases p:u<h
 ·rw [if_pos p,if_pos (by omega)]
 ·rw [if_neg p,if_neg (by omega)]
theorem zjI (Z Y:Nat→Nat→Nat→Int):upZ Z Y 0=Z:=by funext t;exact if_neg (Nat.not_lt_zero _)
theorem Wk21.cong {R:zKA} {B bs m r:Nat} {w:World} {sv:Value} {ρ γ:Nat→Nat} {gs gs':Nat→Nat→Nat} {Z Z':Nat→Nat→Nat→Int} {kz:Nat→Nat} (h:Wk21 R B w bs sv m r ρ γ gs Z kz) (e:∀t,t<R.q→Z t=Z' t) (e2:∀t,t<R.q→gs t=gs' t):Wk21 R B w bs sv m r ρ γ gs' Z' kz :=
 ⟨h.s,h.l,h.h,h.a,h.g,h.sp,fun t ht=>by rw [←e t ht,←e2 t ht];exact h.sh t ht,fun t u i j ht hu=>by rw [←e2 t ht,←e2 u hu];exact h.ne t u i j ht hu,fun b=>by
  rw [h.rs b]
  constructor
  ·rintro ⟨t,i,ht,hi,q⟩;exact ⟨t,i,ht,hi,by rw [←e2 t ht];exact q⟩
  ·rintro ⟨t,i,ht,hi,q⟩;exact ⟨t,i,ht,hi,by rw [e2 t ht];exact q⟩,h.ln⟩
theorem zKA.hand (R:zKA) {t:Nat} (ht:t<R.q) (h2:t≠2):R.hands[t*4]?=some (hf1 (R.Ba t))∧R.hands[t*4+1]?=some (hf2 (R.Ba t))∧R.hands[t*4+2]?=some (hf3 (R.Ba t))∧R.hands[t*4+3]?=some (hf4 (R.Ba t)):=by
 have h3:=R.q3;obtain rfl | rfl:t=0∨t=1:=by omega
 ·unfold zKA.hands;split <;> exact ⟨rfl,rfl,rfl,rfl⟩
 ·unfold zKA.hands;rw [if_pos (R.ful ht (by omega))];exact ⟨rfl,rfl,rfl,rfl⟩
theorem zKA.hand2 (R:zKA) {t:Nat} (hf:R.full=true) (h2:t=2):R.hands[t*4]?=some (hf1 (R.Ba t))∧R.hands[t*4+1]?=some (hf2 (R.Ba t))∧R.hands[t*4+2]?=some (hg3 R.Bm)∧R.hands[t*4+3]?=some (hg4 R.Bm):=by
 subst h2;unfold zKA.hands;rw [if_pos hf];exact ⟨rfl,rfl,rfl,rfl⟩
def zeG (R:zKA) (S:Nat→Prop) (B:Nat) (w:World) (bs:Nat) (sv:Value) (m r:Nat) (ρ γ:Nat→Nat) (gs:Nat→Nat→Nat) (Z:Nat→Nat→Nat→Int) (kz:Nat→Nat) (e:Ending) (w':World):Prop:=e=.returned (.tuple #[])∧Wk21 R B w' bs sv m r ρ γ gs Z kz∧Touch S w w'
theorem Touch.sub21 {S S':Nat→Prop} {w w':World} (h:Touch S w w') (hS:∀b,S b→S' b):Touch S' w w':=⟨h.os,h.tape,h.output,h.size,fun k hk hn=>h.block k hk fun q=>hn (hS k q)⟩
def lesZ (Z:Nat→Nat→Nat→Int) (i j:Nat) (s:Int):Nat→Nat→Nat→Int:=fun t=>if t=2 then lesX (Z 2) j i (-s) else lesX (Z t) i j s
def mixZ (Z:Nat→Nat→Nat→Int) (i j:Nat) (x y u v:Int):Nat→Nat→Nat→Int:=fun t=>if t=2 then mixX (Z 2) i j v (-u) (-y) x else mixX (Z t) i j x y u v
def negZ (Z:Nat→Nat→Nat→Int) (i:Nat):Nat→Nat→Nat→Int:=fun t=>negX (Z t) i
def swpZ (Z:Nat→Nat→Nat→Int) (i j:Nat):Nat→Nat→Nat→Int:=fun t=>swpX (Z t) i j
theorem Wk21.own2 {R:zKA} {B bs m r t i j b:Nat} {w:World} {sv:Value} {ρ γ:Nat→Nat} {gs:Nat→Nat→Nat} {Z:Nat→Nat→Nat→Int} {kz:Nat→Nat} (h:Wk21 R B w bs sv m r ρ γ gs Z kz) (ht:t<R.q) (hi:i<m) (hj:j<m) (hb:zBF (gs t i) (gs t j) b):R.S b:=by
 rcases hb with q | q
 ·rw [q];exact h.own ht hi
 ·rw [q];exact h.own ht hj
theorem Wk21.tyT {R:zKA} {B bs m r:Nat} {w0 w:World} {sv:Value} {ρ γ:Nat→Nat} {gs:Nat→Nat→Nat} {Z:Nat→Nat→Nat→Int} {kz:Nat→Nat} (h:Wk21 R B w0 bs sv m r ρ γ gs Z kz) (ht:Touch R.S w0 w):Ty 47 w0 w:=ht.tyS18 fun b q=>h.cel q
theorem lessw21 {R:zKA} {B bs m r l i j lt ct:Nat} {w:World} {sv:Value} {ρ γ:Nat→Nat} {gs:Nat→Nat→Nat} {Z:Nat→Nat→Nat→Int} {kz:Nat→Nat} (h:Wk21 R B w bs sv m r ρ γ gs Z kz) {nt:Bool} {at0:Option Addr} {s:Int} (hi:i<m) (hj:j<m) (hij:i≠j) (ht:Zm 0 w (.agg #[.bool nt,.slice at0 lt ct]) s l)
  (hF:∀t,t<R.q→t≠2→∀c,c<R.wd m t→((Z t i c-s*Z t j c).natAbs:Int)<pw (kz t)) (hG:R.full=true→∀c,c<m→((Z 2 j c - -s*Z 2 i c).natAbs:Int)<pw (kz 2)) (hm:m≤64) (hn:R.n0≤64) (hK:∀t,t<R.q→l+kz t<35184372088000) :
  Calls Tryz.prog 115 #[.pointer (some ⟨bs,0,none⟩),.int .i64 (i:Int),.int .i64 (j:Int),.agg #[.bool nt,.slice at0 lt ct]] w (zeG R R.S B w bs sv m r ρ γ gs (lesZ Z i j s) kz):=by
 obtain ⟨V0,hV0⟩:∃V0,w.alloc (duo (.bool nt) (.slice at0 lt ct))=V0:=⟨_,rfl⟩
 obtain ⟨b0,sz0⟩:=alo1 w (duo (.bool nt) (.slice at0 lt ct));rw [hV0] at b0 sz0;have dT:Duo V0 w.heap.size (.bool nt) (.slice at0 lt ct):=by rw [←hV0];exact Duo.new w _ _
 have HBXS:Hid (¬R.S w.heap.size∧w.heap.size<V0.heap.size):=⟨fun q=>by obtain ⟨L,hL⟩:=h.cel q;have:=hL.blk;omega,by omega⟩
 have HTY:Hid (∀wx,Touch R.S V0 wx→Ty 47 V0 wx):=fun wx t=>(h.now b0).tyT t
 have ZT:=hid (ht.now b0);have WK:=hid (h.now b0);have s1:=WK.out.s.at (i:=1) rfl;have B0:=hid b0;obtain ⟨q,hq⟩:∃q,R.q=q:=⟨_,rfl⟩
 obtain ⟨Bh,hBh⟩:∃Bh,R.Bh=Bh:=⟨_,rfl⟩
 rw [hq,hBh] at s1;have HQ:=hid hq;have HBH:=hid hBh;have EV0:=hid hV0;have HF:=hid hF;have HGG:=hid hG;have HK:=hid hK;have HWD:Hid (∀t,R.wd m t≤64):=fun t=>by unfold zKA.wd;split <;> omega
 have HI:=hid (show i<m∧j<m∧i≠j from ⟨hi,hj,hij⟩);obtain ⟨Y,hY⟩:∃Y,Y=lesZ Z i j s:=⟨_,rfl⟩
 have HY:=hid hY;have HY0:Hid (∀t,t≠2→Y t=lesX (Z t) i j s):=fun t h=>by rw [hY];exact if_neg h
 have HY2:Hid (∀t,t=2→Y t=lesX (Z t) j i (-s)):=fun t h=>by rw [hY,h];exact if_pos rfl
 have FIN:Hid (∀wx,Wk21 R B wx bs sv m r ρ γ gs (upZ Z Y q) kz∧Touch R.S V0 wx→zeG R R.S B w bs sv m r ρ γ gs (lesZ Z i j s) kz (.returned (.tuple #[])) wx):=fun wx h=>⟨rfl,h.1.cong (fun t ht=>(if_pos (by rw [←HQ.out];exact ht)).trans (by rw [HY.out])) (fun t ht=>rfl),((Touch.ofBelow B0.out).trans h.2)⟩
 obtain ⟨bx,hbx⟩:∃bx,w.heap.size=bx:=⟨_,rfl⟩
 have EBX:=hid hbx;have DT:=hid dT;rw [hbx] at DT HBXS;clear h hi hj hij ht hF hG hK dT b0 sz0 hV0 hbx hq hBh hY;go_enter Tryz.func115,Tryz.ntmps115;go_upto_region 1 with fail
 rw [EV0.out,EBX.out];have J0:Hid (∃hh:Nat,(.int .i64 0:Value)=.int .i64 (hh:Int)∧hh≤q∧q=q-hh∧Wk21 R B V0 bs sv m r ρ γ gs (upZ Z Y hh) kz∧Touch R.S V0 V0):=⟨0,rfl,Nat.zero_le _,rfl,by rw [zjI];exact WK.out,Touch.refl _ _⟩
 go_wp2_with fail
 go_loopg [15] q (fun gk s15 wx=>∃hh:Nat,s15=.int .i64 (hh:Int)∧hh≤q∧gk=q-hh∧Wk21 R B wx bs sv m r ρ γ gs (upZ Z Y hh) kz∧Touch R.S V0 wx)
 case atStart=>exact J0.out
 case round =>
  clear J0;obtain ⟨hh,rfl,hhq,hgk,hwk,htt⟩:=hrel;have WK:=hid hwk;have TT:=hid htt;have HG:=hid hgk;clear hwk htt hgk
  by_cases hlt:hh<q
  ·have hlt':(hh:Int)<(q:Int):=by omega
   have hltR:hh<R.q:=by rw [HQ.out];exact hlt
   have hqq:=R.q3;have hwi:=zbA (i:=hh) (by omega);obtain ⟨Lb,cap,elv⟩:=WK.out.form (by have:=HI.out.1;omega) hltR;have ELV:=hid elv;have HLTR:=hid hltR;have HMM:Hid (q-(hh+1)<gk):=by unfold Hid;rw [HG.out];omega
   replace s1:=WK.out.s.at (i:=1) rfl;rw [HQ.out,HBH.out] at s1;clear elv hltR hqq HG
   by_cases h2:hh=2
   ·have HF2:=hid (R.ful HLTR.out (by omega))
    obtain ⟨e0,e1,e2,e3⟩:=R.hand2 HF2.out h2;have a0:=WK.out.h.at e0;have a1:=WK.out.h.at e1;have a2:=WK.out.h.at e2;have a3:=WK.out.h.at e3;have H2:=hid h2;obtain ⟨ba,hba⟩:∃ba,R.Ba hh=ba:=⟨_,rfl⟩
    obtain ⟨bm,hbm⟩:∃bm,R.Bm=bm:=⟨_,rfl⟩
    rw [hba] at a0 a1;rw [hbm] at a2 a3;have HBM:=hid hbm;rw [HBH.out] at a0 a1 a2 a3;have HBA:=hid hba;obtain ⟨V1,hV⟩:∃V1,wr.alloc (.cells #[hf1 ba,hf2 ba,hg3 bm,hg4 bm] 61)=V1:=⟨_,rfl⟩
    obtain ⟨b,sz1⟩:=alo1 wr (.cells #[hf1 ba,hf2 ba,hg3 bm,hg4 bm] 61);rw [hV] at b sz1;have dH:Cel V1 wr.heap.size 61 [hf1 ba,hf2 ba,hg3 bm,hg4 bm]:=by rw [←hV];exact Cel.new wr _ _
    have c0:=dH.at (i:=0) rfl;have c1:=dH.at (i:=1) rfl;have c2:=dH.at (i:=2) rfl;have c3:=dH.at (i:=3) rfl;have dX0:Duo wr bx (.bool nt) (.slice at0 lt ct):=(TT.out.block bx HBXS.out.2 HBXS.out.1).trans DT.out;have dX:=dX0.step b;have t0:=dX.c0;have t1:=dX.c1;rw [←hV] at t0 t1;have ZTh:=hid ((ZT.out.ty (HTY.out wr TT.out) (by decide)).now b);have WK1:=hid (WK.out.now b);have dA:=WK1.out.a hh HLTR.out;have sH:=WK1.out.sh hh HLTR.out;rw [HBA.out,ELV.out] at dA;rw [ELV.out,zuB] at sH;have hgf:=HGG.out HF2.out;have HC:=hid (against1_21 (by have:=WK1.out.g HF2.out;rw [HBM.out,←H2.out,HBA.out] at this;exact this) dA sH HI.out.1 HI.out.2.1 HI.out.2.2 ZTh.out (by rw [H2.out];exact hgf) hm (HWD.out hh) (HK.out hh HLTR.out));have BV:=hid b;have EV:=hid hV;rw [←hV] at c0 c1 c2 c3;clear b sz1 hV dH s1 e0 e1 e2 e3 h2 hba hbm dA sH;go_wp2_with fail;rw [EV.out];refine HC.out.mono ?_;rintro e wy ⟨rfl,hr,ht⟩;have J1:Hid (∃h':Nat,(.int .i64 ((hh+1:Nat):Int):Value)=.int .i64 (h':Int)∧h'≤q∧q-(hh+1)=q-h'∧Wk21 R B wy bs sv m r ρ γ gs (upZ Z Y h') kz∧Touch R.S V0 wy):=⟨hh+1,rfl,by omega,rfl,WK1.out.row HLTR.out HI.out.2.1 hr ht (fun c _=>by rw [HY2.out hh H2.out,zDB]) (fun u q=>by rw [HY2.out hh H2.out,zdA q,zuB]) (zZC Z Y hh) zYC,TT.out.trans ((Touch.ofBelow BV.out).trans (ht.sub21 fun b q=>by rw [q];exact WK1.out.own HLTR.out HI.out.2.1))⟩
    clear HC EV BV WK1 WK TT a0 a1 a2 a3 c0 c1 c2 c3 hr ht t0 t1 ZTh dX dX0 hgf HF2 HBM;go_wp2_with fail;go_roundg (q-(hh+1))
    case rel=>exact J1.out
    case measure=>exact HMM.out
   ·obtain ⟨e0,e1,e2,e3⟩:=R.hand HLTR.out h2
    have a0:=WK.out.h.at e0;have a1:=WK.out.h.at e1;have a2:=WK.out.h.at e2;have a3:=WK.out.h.at e3;have H2:=hid h2;obtain ⟨ba,hba⟩:∃ba,R.Ba hh=ba:=⟨_,rfl⟩
    rw [hba] at a0 a1 a2 a3;rw [HBH.out] at a0 a1 a2 a3;have HBA:=hid hba;obtain ⟨V1,hV⟩:∃V1,wr.alloc (.cells #[hf1 ba,hf2 ba,hf3 ba,hf4 ba] 61)=V1:=⟨_,rfl⟩
    obtain ⟨b,sz1⟩:=alo1 wr (.cells #[hf1 ba,hf2 ba,hf3 ba,hf4 ba] 61);rw [hV] at b sz1;have dH:Cel V1 wr.heap.size 61 [hf1 ba,hf2 ba,hf3 ba,hf4 ba]:=by rw [←hV];exact Cel.new wr _ _
    have c0:=dH.at (i:=0) rfl;have c1:=dH.at (i:=1) rfl;have c2:=dH.at (i:=2) rfl;have c3:=dH.at (i:=3) rfl;have dX0:Duo wr bx (.bool nt) (.slice at0 lt ct):=(TT.out.block bx HBXS.out.2 HBXS.out.1).trans DT.out;have dX:=dX0.step b;have t0:=dX.c0;have t1:=dX.c1;rw [←hV] at t0 t1;have ZTh:=hid ((ZT.out.ty (HTY.out wr TT.out) (by decide)).now b);have WK1:=hid (WK.out.now b);have dA:=WK1.out.a hh HLTR.out;have sH:=WK1.out.sh hh HLTR.out;rw [HBA.out,ELV.out] at dA;rw [ELV.out,zuB] at sH;have HC:=hid (zZG dA sH HI.out.1 HI.out.2.1 HI.out.2.2 ZTh.out (HF.out hh HLTR.out H2.out) hm (HWD.out hh) (HK.out hh HLTR.out));have BV:=hid b;have EV:=hid hV;rw [←hV] at c0 c1 c2 c3;clear b sz1 hV dH s1 e0 e1 e2 e3 h2 hba dA sH;go_wp2_with fail;rw [EV.out];refine HC.out.mono ?_;rintro e wy ⟨rfl,hr,ht⟩;have J1:Hid (∃h':Nat,(.int .i64 ((hh+1:Nat):Int):Value)=.int .i64 (h':Int)∧h'≤q∧q-(hh+1)=q-h'∧Wk21 R B wy bs sv m r ρ γ gs (upZ Z Y h') kz∧Touch R.S V0 wy):=⟨hh+1,rfl,by omega,rfl,WK1.out.row HLTR.out HI.out.1 hr ht (fun c _=>by rw [HY0.out hh H2.out,zDB]) (fun u q=>by rw [HY0.out hh H2.out,zdA q,zuB]) (zZC Z Y hh) zYC,TT.out.trans ((Touch.ofBelow BV.out).trans (ht.sub21 fun b q=>by rw [q];exact WK1.out.own HLTR.out HI.out.1))⟩
    clear HC EV BV WK1 WK TT a0 a1 a2 a3 c0 c1 c2 c3 hr ht t0 t1 ZTh dX dX0;go_wp2_with fail;go_roundg (q-(hh+1))
    case rel=>exact J1.out
    case measure=>exact HMM.out
  ·have hlt':¬(hh:Int)<(q:Int):=by omega
   obtain rfl:hh=q:=by omega
   have FF:=hid (FIN.out wr ⟨WK.out,TT.out⟩);clear WK TT HG FIN;go_wp2;go_end0;exact FF.out
theorem mixw21 {R:zKA} {B bs m r l i j lx cx ly cy lu cu lv0 cv:Nat} {w:World} {sv:Value} {ρ γ:Nat→Nat} {gs:Nat→Nat→Nat} {Z:Nat→Nat→Nat→Int} {kz:Nat→Nat} (h:Wk21 R B w bs sv m r ρ γ gs Z kz) {nx ny nu nv:Bool} {ax ay au av:Option Addr} {x y u v:Int} (hi:i<m) (hj:j<m) (hij:i≠j)
  (hx:Zm 0 w (.agg #[.bool nx,.slice ax lx cx]) x l) (hy:Zm 0 w (.agg #[.bool ny,.slice ay ly cy]) y l) (hu:Zm 0 w (.agg #[.bool nu,.slice au lu cu]) u l) (hv:Zm 0 w (.agg #[.bool nv,.slice av lv0 cv]) v l)
  (hF:∀t,t<R.q→t≠2→∀c,c<R.wd m t→((x*Z t i c+y*Z t j c).natAbs:Int)<pw (kz t)) (hF2:∀t,t<R.q→t≠2→∀c,c<R.wd m t→((u*Z t i c+v*Z t j c).natAbs:Int)<pw (kz t))
  (hG:R.full=true→∀c,c<m→((v*Z 2 i c + -u*Z 2 j c).natAbs:Int)<pw (kz 2)) (hG2:R.full=true→∀c,c<m→((-y*Z 2 i c+x*Z 2 j c).natAbs:Int)<pw (kz 2)) (hm:m≤64) (hn:R.n0≤64) (hK:∀t,t<R.q→l+kz t<1099511600000) :
  Calls Tryz.prog 117 #[.pointer (some ⟨bs,0,none⟩),.int .i64 (i:Int),.int .i64 (j:Int),.agg #[.bool nx,.slice ax lx cx,.bool ny,.slice ay ly cy,.bool nu,.slice au lu cu,.bool nv,.slice av lv0 cv]] w (zeG R R.S B w bs sv m r ρ γ gs (mixZ Z i j x y u v) kz):=by
 obtain ⟨V0,hV0⟩:∃V0,w.alloc (.cells #[.bool nx,.slice ax lx cx,.bool ny,.slice ay ly cy,.bool nu,.slice au lu cu,.bool nv,.slice av lv0 cv] 85)=V0:=⟨_,rfl⟩
 obtain ⟨b0,sz0⟩:=alo1 w (.cells #[.bool nx,.slice ax lx cx,.bool ny,.slice ay ly cy,.bool nu,.slice au lu cu,.bool nv,.slice av lv0 cv] 85);rw [hV0] at b0 sz0;have dT:Cel V0 w.heap.size 85 [.bool nx,.slice ax lx cx,.bool ny,.slice ay ly cy,.bool nu,.slice au lu cu,.bool nv,.slice av lv0 cv]:=by rw [←hV0];exact Cel.new w _ _
 have HTY:Hid (∀wx,Touch R.S V0 wx→Ty 47 V0 wx):=fun wx t=>(h.now b0).tyT t
 have ZQ:=hid (show Zm 0 V0 (.agg #[.bool nx,.slice ax lx cx]) x l∧Zm 0 V0 (.agg #[.bool ny,.slice ay ly cy]) y l∧Zm 0 V0 (.agg #[.bool nu,.slice au lu cu]) u l∧Zm 0 V0 (.agg #[.bool nv,.slice av lv0 cv]) v l from ⟨hx.now b0,hy.now b0,hu.now b0,hv.now b0⟩);have WK:=hid (h.now b0);have s1:=WK.out.s.at (i:=1) rfl;have B0:=hid b0;obtain ⟨q,hq⟩:∃q,R.q=q:=⟨_,rfl⟩
 obtain ⟨Bh,hBh⟩:∃Bh,R.Bh=Bh:=⟨_,rfl⟩
 rw [hq,hBh] at s1;have HQ:=hid hq;have HBH:=hid hBh;have EV0:=hid hV0;have HF:=hid hF;have HF2':=hid hF2;have HGG:=hid hG;have HGG2:=hid hG2;have HK:=hid hK;have HWD:Hid (∀t,R.wd m t≤64):=fun t=>by unfold zKA.wd;split <;> omega
 have HI:=hid (show i<m∧j<m∧i≠j from ⟨hi,hj,hij⟩);obtain ⟨Y,hY⟩:∃Y,Y=mixZ Z i j x y u v:=⟨_,rfl⟩
 have HY:=hid hY;have HY0:Hid (∀t,t≠2→Y t=mixX (Z t) i j x y u v):=fun t h=>by rw [hY];exact if_neg h
 have HY2:Hid (∀t,t=2→Y t=mixX (Z t) i j v (-u) (-y) x):=fun t h=>by rw [hY,h];exact if_pos rfl
 have FIN:Hid (∀wx,Wk21 R B wx bs sv m r ρ γ gs (upZ Z Y q) kz∧Touch R.S V0 wx→zeG R R.S B w bs sv m r ρ γ gs (mixZ Z i j x y u v) kz (.returned (.tuple #[])) wx):=fun wx h=>⟨rfl,h.1.cong (fun t ht=>(if_pos (by rw [←HQ.out];exact ht)).trans (by rw [HY.out])) (fun t ht=>rfl),((Touch.ofBelow B0.out).trans h.2)⟩
 obtain ⟨bx,hbx⟩:∃bx,w.heap.size=bx:=⟨_,rfl⟩
 have EBX:=hid hbx;have DT:=hid dT;rw [hbx] at DT;clear h hi hj hij hx hy hu hv hF hF2 hG hG2 hK dT b0 sz0 hV0 hbx hq hBh hY;go_enter Tryz.func117,Tryz.ntmps117;go_upto_region 1 with fail
 rw [EV0.out,EBX.out];have J0:Hid (∃hh:Nat,(.int .i64 0:Value)=.int .i64 (hh:Int)∧hh≤q∧q=q-hh∧Wk21 R B V0 bs sv m r ρ γ gs (upZ Z Y hh) kz∧Touch R.S V0 V0):=⟨0,rfl,Nat.zero_le _,rfl,by rw [zjI];exact WK.out,Touch.refl _ _⟩
 go_wp2_with fail
 go_loopg [15] q (fun gk s15 wx=>∃hh:Nat,s15=.int .i64 (hh:Int)∧hh≤q∧gk=q-hh∧Wk21 R B wx bs sv m r ρ γ gs (upZ Z Y hh) kz∧Touch R.S V0 wx)
 case atStart=>exact J0.out
 case round =>
  clear J0;obtain ⟨hh,rfl,hhq,hgk,hwk,htt⟩:=hrel;have WK:=hid hwk;have TT:=hid htt;have HG:=hid hgk;clear hwk htt hgk
  by_cases hlt:hh<q
  ·have hlt':(hh:Int)<(q:Int):=by omega
   have hltR:hh<R.q:=by rw [HQ.out];exact hlt
   have hqq:=R.q3;have hwi:=zbA (i:=hh) (by omega);obtain ⟨Lb,cap,elv⟩:=WK.out.form (by have:=HI.out.1;omega) hltR;have ELV:=hid elv;have HLTR:=hid hltR;have HMM:Hid (q-(hh+1)<gk):=by unfold Hid;rw [HG.out];omega
   replace s1:=WK.out.s.at (i:=1) rfl;rw [HQ.out,HBH.out] at s1;clear elv hltR hqq HG
   by_cases h2:hh=2
   ·have HF2:=hid (R.ful HLTR.out (by omega))
    obtain ⟨e0,e1,e2,e3⟩:=R.hand2 HF2.out h2;have a0:=WK.out.h.at e0;have a1:=WK.out.h.at e1;have a2:=WK.out.h.at e2;have a3:=WK.out.h.at e3;have H2:=hid h2;obtain ⟨ba,hba⟩:∃ba,R.Ba hh=ba:=⟨_,rfl⟩
    obtain ⟨bm,hbm⟩:∃bm,R.Bm=bm:=⟨_,rfl⟩
    rw [hba] at a0 a1;rw [hbm] at a2 a3;have HBM:=hid hbm;rw [HBH.out] at a0 a1 a2 a3;have HBA:=hid hba;obtain ⟨V1,hV⟩:∃V1,wr.alloc (.cells #[hf1 ba,hf2 ba,hg3 bm,hg4 bm] 61)=V1:=⟨_,rfl⟩
    obtain ⟨b,sz1⟩:=alo1 wr (.cells #[hf1 ba,hf2 ba,hg3 bm,hg4 bm] 61);rw [hV] at b sz1;have dH:Cel V1 wr.heap.size 61 [hf1 ba,hf2 ba,hg3 bm,hg4 bm]:=by rw [←hV];exact Cel.new wr _ _
    have c0:=dH.at (i:=0) rfl;have c1:=dH.at (i:=1) rfl;have c2:=dH.at (i:=2) rfl;have c3:=dH.at (i:=3) rfl;have dX:=(DT.out.ty13 (HTY.out wr TT.out) (by decide)).step b;have y0:=dX.at (i:=0) rfl;have y1:=dX.at (i:=1) rfl;have y2:=dX.at (i:=2) rfl;have y3:=dX.at (i:=3) rfl;have y4:=dX.at (i:=4) rfl;have y5:=dX.at (i:=5) rfl;have y6:=dX.at (i:=6) rfl;have y7:=dX.at (i:=7) rfl;rw [←hV] at y0 y1 y2 y3 y4 y5 y6 y7;have ty:=HTY.out wr TT.out;have zx:=(ZQ.out.1.ty ty (by decide)).now b;have zy:=(ZQ.out.2.1.ty ty (by decide)).now b;have zu:=(ZQ.out.2.2.1.ty ty (by decide)).now b;have zv:=(ZQ.out.2.2.2.ty ty (by decide)).now b;have WK1:=hid (WK.out.now b);have dA:=WK1.out.a hh HLTR.out;have sH:=WK1.out.sh hh HLTR.out;rw [HBA.out,ELV.out] at dA;rw [ELV.out,zuB] at sH;have HC:=hid (against2_21 (by have:=WK1.out.g HF2.out;rw [HBM.out,←H2.out,HBA.out] at this;exact this) dA sH HI.out.1 HI.out.2.1 HI.out.2.2 zx zy zu zv (by rw [H2.out];exact HGG.out HF2.out) (by rw [H2.out];exact HGG2.out HF2.out) hm (HWD.out hh) (HK.out hh HLTR.out));have BV:=hid b;have EV:=hid hV;rw [←hV] at c0 c1 c2 c3;clear b sz1 hV dH s1 e0 e1 e2 e3 h2 hba hbm dA sH zx zy zu zv ty;go_wp2_with fail;rw [EV.out];refine HC.out.mono ?_;rintro e wy ⟨rfl,hr,hr2,ht⟩;have J1:Hid (∃h':Nat,(.int .i64 ((hh+1:Nat):Int):Value)=.int .i64 (h':Int)∧h'≤q∧q-(hh+1)=q-h'∧Wk21 R B wy bs sv m r ρ γ gs (upZ Z Y h') kz∧Touch R.S V0 wy):=⟨hh+1,rfl,by omega,rfl,WK1.out.two HLTR.out HI.out.1 HI.out.2.1 HI.out.2.2 hr hr2 ht (fun c _=>by rw [HY2.out hh H2.out,zFC]) (fun c _=>by rw [HY2.out hh H2.out,zVC HI.out.2.2]) (fun u q q2=>by rw [HY2.out hh H2.out,zYB q q2,zuB]) (zZC Z Y hh) zYC,TT.out.trans ((Touch.ofBelow BV.out).trans (ht.sub21 fun b q=>WK1.out.own2 HLTR.out HI.out.1 HI.out.2.1 q))⟩
    clear HC EV BV WK1 WK TT a0 a1 a2 a3 c0 c1 c2 c3 hr hr2 ht y0 y1 y2 y3 y4 y5 y6 y7 dX HF2 HBM;go_wp2_with fail;go_roundg (q-(hh+1))
    case rel=>exact J1.out
    case measure=>exact HMM.out
   ·obtain ⟨e0,e1,e2,e3⟩:=R.hand HLTR.out h2
    have a0:=WK.out.h.at e0;have a1:=WK.out.h.at e1;have a2:=WK.out.h.at e2;have a3:=WK.out.h.at e3;have H2:=hid h2;obtain ⟨ba,hba⟩:∃ba,R.Ba hh=ba:=⟨_,rfl⟩
    rw [hba] at a0 a1 a2 a3;rw [HBH.out] at a0 a1 a2 a3;have HBA:=hid hba;obtain ⟨V1,hV⟩:∃V1,wr.alloc (.cells #[hf1 ba,hf2 ba,hf3 ba,hf4 ba] 61)=V1:=⟨_,rfl⟩
    obtain ⟨b,sz1⟩:=alo1 wr (.cells #[hf1 ba,hf2 ba,hf3 ba,hf4 ba] 61);rw [hV] at b sz1;have dH:Cel V1 wr.heap.size 61 [hf1 ba,hf2 ba,hf3 ba,hf4 ba]:=by rw [←hV];exact Cel.new wr _ _
    have c0:=dH.at (i:=0) rfl;have c1:=dH.at (i:=1) rfl;have c2:=dH.at (i:=2) rfl;have c3:=dH.at (i:=3) rfl;have dX:=(DT.out.ty13 (HTY.out wr TT.out) (by decide)).step b;have y0:=dX.at (i:=0) rfl;have y1:=dX.at (i:=1) rfl;have y2:=dX.at (i:=2) rfl;have y3:=dX.at (i:=3) rfl;have y4:=dX.at (i:=4) rfl;have y5:=dX.at (i:=5) rfl;have y6:=dX.at (i:=6) rfl;have y7:=dX.at (i:=7) rfl;rw [←hV] at y0 y1 y2 y3 y4 y5 y6 y7;have ty:=HTY.out wr TT.out;have zx:=(ZQ.out.1.ty ty (by decide)).now b;have zy:=(ZQ.out.2.1.ty ty (by decide)).now b;have zu:=(ZQ.out.2.2.1.ty ty (by decide)).now b;have zv:=(ZQ.out.2.2.2.ty ty (by decide)).now b;have WK1:=hid (WK.out.now b);have dA:=WK1.out.a hh HLTR.out;have sH:=WK1.out.sh hh HLTR.out;rw [HBA.out,ELV.out] at dA;rw [ELV.out,zuB] at sH;have HC:=hid (zYG dA sH HI.out.1 HI.out.2.1 HI.out.2.2 zx zy zu zv (HF.out hh HLTR.out H2.out) (HF2'.out hh HLTR.out H2.out) hm (HWD.out hh) (HK.out hh HLTR.out));have BV:=hid b;have EV:=hid hV;rw [←hV] at c0 c1 c2 c3;clear b sz1 hV dH s1 e0 e1 e2 e3 h2 hba dA sH zx zy zu zv ty;go_wp2_with fail;rw [EV.out];refine HC.out.mono ?_;rintro e wy ⟨rfl,hr,hr2,ht⟩;have J1:Hid (∃h':Nat,(.int .i64 ((hh+1:Nat):Int):Value)=.int .i64 (h':Int)∧h'≤q∧q-(hh+1)=q-h'∧Wk21 R B wy bs sv m r ρ γ gs (upZ Z Y h') kz∧Touch R.S V0 wy):=⟨hh+1,rfl,by omega,rfl,WK1.out.two HLTR.out HI.out.1 HI.out.2.1 HI.out.2.2 hr hr2 ht (fun c _=>by rw [HY0.out hh H2.out,zFC]) (fun c _=>by rw [HY0.out hh H2.out,zVC HI.out.2.2]) (fun u q q2=>by rw [HY0.out hh H2.out,zYB q q2,zuB]) (zZC Z Y hh) zYC,TT.out.trans ((Touch.ofBelow BV.out).trans (ht.sub21 fun b q=>WK1.out.own2 HLTR.out HI.out.1 HI.out.2.1 q))⟩
    clear HC EV BV WK1 WK TT a0 a1 a2 a3 c0 c1 c2 c3 hr hr2 ht y0 y1 y2 y3 y4 y5 y6 y7 dX;go_wp2_with fail;go_roundg (q-(hh+1))
    case rel=>exact J1.out
    case measure=>exact HMM.out
  ·have hlt':¬(hh:Int)<(q:Int):=by omega
   obtain rfl:hh=q:=by omega
   have FF:=hid (FIN.out wr ⟨WK.out,TT.out⟩);clear WK TT HG FIN;go_wp2;go_end0;exact FF.out
def gsH (gs:Nat→Nat→Nat) (i j h:Nat):Nat→Nat→Nat:=fun t=>if t<h then swF (gs t) i j else gs t
theorem zNF (gs:Nat→Nat→Nat) (i j h:Nat):gsH gs i j h h=gs h:=if_neg (Nat.lt_irrefl _)
theorem zKI (gs:Nat→Nat→Nat) (i j h:Nat):gsH gs i j (h+1) h=swF (gs h) i j:=if_pos (Nat.lt_succ_self _)
theorem zJI {gs:Nat→Nat→Nat} {i j h:Nat}:∀u,u≠h→gsH gs i j (h+1) u=gsH gs i j h u:=fun u q=>by
 unfold gsH
 by_cases p:u<h
 ·rw [if_pos p,if_pos (by omega)]
 ·rw [if_neg p,if_neg (by omega)]
theorem gsH_0 (gs:Nat→Nat→Nat) (i j:Nat):gsH gs i j 0=gs:=by funext t;exact if_neg (Nat.not_lt_zero _)
theorem exchw21 {R:zKA} {B bs m r i j:Nat} {w:World} {sv:Value} {ρ γ:Nat→Nat} {gs:Nat→Nat→Nat} {Z:Nat→Nat→Nat→Int} {kz:Nat→Nat} (h:Wk21 R B w bs sv m r ρ γ gs Z kz) (hi:i<m) (hj:j<m) (hij:i≠j) (hm:m≤64) :
  Calls Tryz.prog 78 #[.pointer (some ⟨bs,0,none⟩),.int .i64 (i:Int),.int .i64 (j:Int)] w (zeG R R.L B w bs sv m r ρ γ (fun t=>swF (gs t) i j) (swpZ Z i j) kz):=by
 have WK:=hid h;have s1:=WK.out.s.at (i:=1) rfl;obtain ⟨q,hq⟩:∃q,R.q=q:=⟨_,rfl⟩
 obtain ⟨Bh,hBh⟩:∃Bh,R.Bh=Bh:=⟨_,rfl⟩
 rw [hq,hBh] at s1;have HQ:=hid hq;have HBH:=hid hBh;have HI:=hid (show i<m∧j<m∧i≠j from ⟨hi,hj,hij⟩);have hij1:¬i=j:=hij;have hij2:¬(i:Int)=(j:Int):=by omega
 obtain ⟨Y,hY⟩:∃Y,Y=swpZ Z i j:=⟨_,rfl⟩
 have HY:=hid hY;have HY0:Hid (∀t,Y t=swpX (Z t) i j):=fun t=>by rw [hY];rfl
 have FIN:Hid (∀wx,Wk21 R B wx bs sv m r ρ γ (gsH gs i j q) (upZ Z Y q) kz∧Touch R.L w wx→zeG R R.L B w bs sv m r ρ γ (fun t=>swF (gs t) i j) (swpZ Z i j) kz (.returned (.tuple #[])) wx):=fun wx h=>⟨rfl,h.1.cong (fun t ht=>(if_pos (by rw [←HQ.out];exact ht)).trans (by rw [HY.out])) (fun t ht=>if_pos (by rw [←HQ.out];exact ht)),h.2⟩
 clear h hi hj hij hq hBh hY;go_enter Tryz.func78,Tryz.ntmps78;have J0:Hid (∃hh:Nat,(.int .i64 0:Value)=.int .i64 (hh:Int)∧hh≤q∧q=q-hh∧Wk21 R B w bs sv m r ρ γ (gsH gs i j hh) (upZ Z Y hh) kz∧Touch R.L w w):=⟨0,rfl,Nat.zero_le _,rfl,by rw [zjI,gsH_0];exact WK.out,Touch.refl _ _⟩
 go_wp2_with fail;rw [show ((i:Int) == (j:Int))=false by simpa using hij2]
 go_loopg [16] q (fun gk s16 wx=>∃hh:Nat,s16=.int .i64 (hh:Int)∧hh≤q∧gk=q-hh∧Wk21 R B wx bs sv m r ρ γ (gsH gs i j hh) (upZ Z Y hh) kz∧Touch R.L w wx)
 case atStart=>exact J0.out
 case round =>
  clear J0;obtain ⟨hh,rfl,hhq,hgk,hwk,htt⟩:=hrel;have WK:=hid hwk;have TT:=hid htt;have HG:=hid hgk;clear hwk htt hgk
  by_cases hlt:hh<q
  ·have hlt':(hh:Int)<(q:Int):=by omega
   have hltR:hh<R.q:=by rw [HQ.out];exact hlt
   have hqq:=R.q3;have hwi:=zbA (i:=hh) (by omega);obtain ⟨Lb,cap,elv⟩:=WK.out.form (by have:=HI.out.1;omega) hltR;have ELV:=hid elv;have HLTR:=hid hltR;have HMM:Hid (q-(hh+1)<gk):=by unfold Hid;rw [HG.out];omega
   replace s1:=WK.out.s.at (i:=1) rfl;rw [HQ.out,HBH.out] at s1;clear elv hltR hqq HG
   by_cases h2:hh=2
   ·have HF2:=hid (R.ful HLTR.out (by omega))
    obtain ⟨e0,e1,e2,e3⟩:=R.hand2 HF2.out h2;have a0:=WK.out.h.at e0;have a1:=WK.out.h.at e1;have a2:=WK.out.h.at e2;have a3:=WK.out.h.at e3;have H2:=hid h2;obtain ⟨ba,hba⟩:∃ba,R.Ba hh=ba:=⟨_,rfl⟩
    obtain ⟨bm,hbm⟩:∃bm,R.Bm=bm:=⟨_,rfl⟩
    rw [hba] at a0 a1;rw [hbm] at a2 a3;have HBM:=hid hbm;rw [HBH.out] at a0 a1 a2 a3;have HBA:=hid hba;obtain ⟨V1,hV⟩:∃V1,wr.alloc (.cells #[hf1 ba,hf2 ba,hg3 bm,hg4 bm] 61)=V1:=⟨_,rfl⟩
    obtain ⟨b,sz1⟩:=alo1 wr (.cells #[hf1 ba,hf2 ba,hg3 bm,hg4 bm] 61);rw [hV] at b sz1;have dH:Cel V1 wr.heap.size 61 [hf1 ba,hf2 ba,hg3 bm,hg4 bm]:=by rw [←hV];exact Cel.new wr _ _
    have c0:=dH.at (i:=0) rfl;have c1:=dH.at (i:=1) rfl;have c2:=dH.at (i:=2) rfl;have c3:=dH.at (i:=3) rfl;have WK1:=hid (WK.out.now b);have dA:=WK1.out.a hh HLTR.out;have sH:=WK1.out.sh hh HLTR.out;rw [HBA.out,ELV.out] at dA;rw [ELV.out,zuB] at sH;rw [zNF] at sH;have HC:=hid (zbG dA sH HI.out.1 HI.out.2.1 HI.out.2.2 hm);have BV:=hid b;have EV:=hid hV;rw [←hV] at c0 c1 c2 c3;clear b sz1 hV dH s1 e0 e1 e2 e3 h2 hba hbm dA sH;go_wp2_with fail;rw [EV.out];refine HC.out.mono ?_;rintro e wy ⟨rfl,hr,ht⟩;have J1:Hid (∃h':Nat,(.int .i64 ((hh+1:Nat):Int):Value)=.int .i64 (h':Int)∧h'≤q∧q-(hh+1)=q-h'∧Wk21 R B wy bs sv m r ρ γ (gsH gs i j h') (upZ Z Y h') kz∧Touch R.L w wy):=⟨hh+1,rfl,by omega,rfl,WK1.out.exch HLTR.out ELV.out HI.out.1 HI.out.2.1 (by rw [zNF,ELV.out];exact hr) ht ((zZC Z Y hh).trans (HY0.out hh)) zYC (by rw [zKI,zNF]) zJI,TT.out.trans ((Touch.ofBelow BV.out).trans (ht.sub21 fun b q=>by rw [q];exact ⟨hh,_,_,HLTR.out,ELV.out⟩))⟩
    clear HC EV BV WK1 WK TT a0 a1 a2 a3 c0 c1 c2 c3 hr ht HF2 HBM;go_wp2_with fail;go_roundg (q-(hh+1))
    case rel=>exact J1.out
    case measure=>exact HMM.out
   ·obtain ⟨e0,e1,e2,e3⟩:=R.hand HLTR.out h2
    have a0:=WK.out.h.at e0;have a1:=WK.out.h.at e1;have a2:=WK.out.h.at e2;have a3:=WK.out.h.at e3;have H2:=hid h2;obtain ⟨ba,hba⟩:∃ba,R.Ba hh=ba:=⟨_,rfl⟩
    rw [hba] at a0 a1 a2 a3;rw [HBH.out] at a0 a1 a2 a3;have HBA:=hid hba;obtain ⟨V1,hV⟩:∃V1,wr.alloc (.cells #[hf1 ba,hf2 ba,hf3 ba,hf4 ba] 61)=V1:=⟨_,rfl⟩
    obtain ⟨b,sz1⟩:=alo1 wr (.cells #[hf1 ba,hf2 ba,hf3 ba,hf4 ba] 61);rw [hV] at b sz1;have dH:Cel V1 wr.heap.size 61 [hf1 ba,hf2 ba,hf3 ba,hf4 ba]:=by rw [←hV];exact Cel.new wr _ _
    have c0:=dH.at (i:=0) rfl;have c1:=dH.at (i:=1) rfl;have c2:=dH.at (i:=2) rfl;have c3:=dH.at (i:=3) rfl;have WK1:=hid (WK.out.now b);have dA:=WK1.out.a hh HLTR.out;have sH:=WK1.out.sh hh HLTR.out;rw [HBA.out,ELV.out] at dA;rw [ELV.out,zuB] at sH;rw [zNF] at sH;have HC:=hid (zbG dA sH HI.out.1 HI.out.2.1 HI.out.2.2 hm);have BV:=hid b;have EV:=hid hV;rw [←hV] at c0 c1 c2 c3;clear b sz1 hV dH s1 e0 e1 e2 e3 h2 hba dA sH;go_wp2_with fail;rw [EV.out];refine HC.out.mono ?_;rintro e wy ⟨rfl,hr,ht⟩;have J1:Hid (∃h':Nat,(.int .i64 ((hh+1:Nat):Int):Value)=.int .i64 (h':Int)∧h'≤q∧q-(hh+1)=q-h'∧Wk21 R B wy bs sv m r ρ γ (gsH gs i j h') (upZ Z Y h') kz∧Touch R.L w wy):=⟨hh+1,rfl,by omega,rfl,WK1.out.exch HLTR.out ELV.out HI.out.1 HI.out.2.1 (by rw [zNF,ELV.out];exact hr) ht ((zZC Z Y hh).trans (HY0.out hh)) zYC (by rw [zKI,zNF]) zJI,TT.out.trans ((Touch.ofBelow BV.out).trans (ht.sub21 fun b q=>by rw [q];exact ⟨hh,_,_,HLTR.out,ELV.out⟩))⟩
    clear HC EV BV WK1 WK TT a0 a1 a2 a3 c0 c1 c2 c3 hr ht;go_wp2_with fail;go_roundg (q-(hh+1))
    case rel=>exact J1.out
    case measure=>exact HMM.out
  ·have hlt':¬(hh:Int)<(q:Int):=by omega
   obtain rfl:hh=q:=by omega
   have FF:=hid (FIN.out wr ⟨WK.out,TT.out⟩);clear WK TT HG FIN;go_wp2;go_end0;exact FF.out
theorem negw21 {R:zKA} {B bs m r i c kx:Nat} {w:World} {sv:Value} {ρ γ:Nat→Nat} {gs:Nat→Nat→Nat} {Z:Nat→Nat→Nat→Int} {kz:Nat→Nat} (h:Wk21 R B w bs sv m r ρ γ gs Z kz) {x:Int} (hi:i<m) (hat:Calls Tryz.prog 93 #[.pointer (some ⟨bs,0,none⟩),.int .i64 (i:Int),.int .i64 (c:Int)] w (zsC w x kx)) (h0:¬0<x) (hm:m≤64) (hn:R.n0≤64) :
  Calls Tryz.prog 75 #[.pointer (some ⟨bs,0,none⟩),.int .i64 (i:Int),.int .i64 (c:Int)] w (zeG R R.S B w bs sv m r ρ γ gs (negZ Z i) kz):=by
 have HA:=hid hat;have hs:¬0<cmpI x 0:=by unfold cmpI;split <;> (try split) <;> omega
 obtain ⟨sg,hsg⟩:∃sg,cmpI x 0=sg:=⟨_,rfl⟩
 rw [hsg] at hs;have HS:=hid hsg;have WK0:=hid h;have HI:=hid hi;have HWD:Hid (∀t,R.wd m t≤64):=fun t=>by unfold zKA.wd;split <;> omega
 clear h hi hat h0 hsg;go_enter Tryz.func75,Tryz.ntmps75;go_wp2_with fail;refine HA.out.mono ?_;rintro e w1 ⟨nb,a,l,cc,rfl,z,b⟩;have HZ:=hid (zFB z.zi);have B1:=hid b;clear HA z b;go_wp2_with fail;refine HZ.out.mono ?_;rintro e w2 ⟨rfl,b⟩;rw [HS.out];have B2:=hid (below_step B1.out b);have h:=WK0.out.now B2.out;clear HZ B1 b WK0 HS;have WK:=hid h;have s1:=WK.out.s.at (i:=1) rfl;obtain ⟨q,hq⟩:∃q,R.q=q:=⟨_,rfl⟩
 obtain ⟨Bh,hBh⟩:∃Bh,R.Bh=Bh:=⟨_,rfl⟩
 rw [hq,hBh] at s1;have HQ:=hid hq;have HBH:=hid hBh;obtain ⟨Y,hY⟩:∃Y,Y=negZ Z i:=⟨_,rfl⟩
 have HY:=hid hY;have HY0:Hid (∀t,Y t=negX (Z t) i):=fun t=>by rw [hY];rfl
 have FIN:Hid (∀wx,Wk21 R B wx bs sv m r ρ γ gs (upZ Z Y q) kz∧Touch R.S w2 wx→zeG R R.S B w bs sv m r ρ γ gs (negZ Z i) kz (.returned (.tuple #[])) wx):=fun wx h=>⟨rfl,h.1.cong (fun t ht=>(if_pos (by rw [←HQ.out];exact ht)).trans (by rw [HY.out])) (fun t ht=>rfl),((Touch.ofBelow B2.out).trans h.2)⟩
 clear h hq hBh hY;have J0:Hid (∃hh:Nat,(.int .i64 0:Value)=.int .i64 (hh:Int)∧hh≤q∧q=q-hh∧Wk21 R B w2 bs sv m r ρ γ gs (upZ Z Y hh) kz∧Touch R.S w2 w2):=⟨0,rfl,Nat.zero_le _,rfl,by rw [zjI];exact WK.out,Touch.refl _ _⟩
 go_wp2_with fail
 go_loopg [19] q (fun gk s19 wx=>∃hh:Nat,s19=.int .i64 (hh:Int)∧hh≤q∧gk=q-hh∧Wk21 R B wx bs sv m r ρ γ gs (upZ Z Y hh) kz∧Touch R.S w2 wx)
 case atStart=>exact J0.out
 case round =>
  clear J0;obtain ⟨hh,rfl,hhq,hgk,hwk,htt⟩:=hrel;have WK:=hid hwk;have TT:=hid htt;have HG:=hid hgk;clear hwk htt hgk
  by_cases hlt:hh<q
  ·have hlt':(hh:Int)<(q:Int):=by omega
   have hltR:hh<R.q:=by rw [HQ.out];exact hlt
   have hqq:=R.q3;have hwi:=zbA (i:=hh) (by omega);obtain ⟨Lb,cap,elv⟩:=WK.out.form (by have:=HI.out;omega) hltR;have ELV:=hid elv;have HLTR:=hid hltR;have HMM:Hid (q-(hh+1)<gk):=by unfold Hid;rw [HG.out];omega
   replace s1:=WK.out.s.at (i:=1) rfl;rw [HQ.out,HBH.out] at s1;clear elv hltR hqq HG
   by_cases h2:hh=2
   ·have HF2:=hid (R.ful HLTR.out (by omega))
    obtain ⟨e0,e1,e2,e3⟩:=R.hand2 HF2.out h2;have a0:=WK.out.h.at e0;have a1:=WK.out.h.at e1;have a2:=WK.out.h.at e2;have a3:=WK.out.h.at e3;have H2:=hid h2;obtain ⟨ba,hba⟩:∃ba,R.Ba hh=ba:=⟨_,rfl⟩
    obtain ⟨bm,hbm⟩:∃bm,R.Bm=bm:=⟨_,rfl⟩
    rw [hba] at a0 a1;rw [hbm] at a2 a3;have HBM:=hid hbm;rw [HBH.out] at a0 a1 a2 a3;have HBA:=hid hba;obtain ⟨V1,hV⟩:∃V1,wr.alloc (.cells #[hf1 ba,hf2 ba,hg3 bm,hg4 bm] 61)=V1:=⟨_,rfl⟩
    obtain ⟨b,sz1⟩:=alo1 wr (.cells #[hf1 ba,hf2 ba,hg3 bm,hg4 bm] 61);rw [hV] at b sz1;have dH:Cel V1 wr.heap.size 61 [hf1 ba,hf2 ba,hg3 bm,hg4 bm]:=by rw [←hV];exact Cel.new wr _ _
    have c0:=dH.at (i:=0) rfl;have c1:=dH.at (i:=1) rfl;have c2:=dH.at (i:=2) rfl;have c3:=dH.at (i:=3) rfl;have WK1:=hid (WK.out.now b);have dA:=WK1.out.a hh HLTR.out;have sH:=WK1.out.sh hh HLTR.out;rw [HBA.out,ELV.out] at dA;rw [ELV.out,zuB] at sH;have HC:=hid (zaG dA sH HI.out hm (HWD.out hh));have BV:=hid b;have EV:=hid hV;rw [←hV] at c0 c1 c2 c3;clear b sz1 hV dH s1 e0 e1 e2 e3 h2 hba hbm dA sH;go_wp2_with fail;rw [EV.out];refine HC.out.mono ?_;rintro e wy ⟨rfl,hr,ht⟩;have J1:Hid (∃h':Nat,(.int .i64 ((hh+1:Nat):Int):Value)=.int .i64 (h':Int)∧h'≤q∧q-(hh+1)=q-h'∧Wk21 R B wy bs sv m r ρ γ gs (upZ Z Y h') kz∧Touch R.S w2 wy):=⟨hh+1,rfl,by omega,rfl,WK1.out.row HLTR.out HI.out hr ht (fun c _=>by rw [HY0.out hh,zDD]) (fun u q=>by rw [HY0.out hh,zwB q,zuB]) (zZC Z Y hh) zYC,TT.out.trans ((Touch.ofBelow BV.out).trans (ht.sub21 fun b q=>by rw [q];exact WK1.out.own HLTR.out HI.out))⟩
    clear HC EV BV WK1 WK TT a0 a1 a2 a3 c0 c1 c2 c3 hr ht HF2 HBM;go_wp2_with fail;go_roundg (q-(hh+1))
    case rel=>exact J1.out
    case measure=>exact HMM.out
   ·obtain ⟨e0,e1,e2,e3⟩:=R.hand HLTR.out h2
    have a0:=WK.out.h.at e0;have a1:=WK.out.h.at e1;have a2:=WK.out.h.at e2;have a3:=WK.out.h.at e3;have H2:=hid h2;obtain ⟨ba,hba⟩:∃ba,R.Ba hh=ba:=⟨_,rfl⟩
    rw [hba] at a0 a1 a2 a3;rw [HBH.out] at a0 a1 a2 a3;have HBA:=hid hba;obtain ⟨V1,hV⟩:∃V1,wr.alloc (.cells #[hf1 ba,hf2 ba,hf3 ba,hf4 ba] 61)=V1:=⟨_,rfl⟩
    obtain ⟨b,sz1⟩:=alo1 wr (.cells #[hf1 ba,hf2 ba,hf3 ba,hf4 ba] 61);rw [hV] at b sz1;have dH:Cel V1 wr.heap.size 61 [hf1 ba,hf2 ba,hf3 ba,hf4 ba]:=by rw [←hV];exact Cel.new wr _ _
    have c0:=dH.at (i:=0) rfl;have c1:=dH.at (i:=1) rfl;have c2:=dH.at (i:=2) rfl;have c3:=dH.at (i:=3) rfl;have WK1:=hid (WK.out.now b);have dA:=WK1.out.a hh HLTR.out;have sH:=WK1.out.sh hh HLTR.out;rw [HBA.out,ELV.out] at dA;rw [ELV.out,zuB] at sH;have HC:=hid (zaG dA sH HI.out hm (HWD.out hh));have BV:=hid b;have EV:=hid hV;rw [←hV] at c0 c1 c2 c3;clear b sz1 hV dH s1 e0 e1 e2 e3 h2 hba dA sH;go_wp2_with fail;rw [EV.out];refine HC.out.mono ?_;rintro e wy ⟨rfl,hr,ht⟩;have J1:Hid (∃h':Nat,(.int .i64 ((hh+1:Nat):Int):Value)=.int .i64 (h':Int)∧h'≤q∧q-(hh+1)=q-h'∧Wk21 R B wy bs sv m r ρ γ gs (upZ Z Y h') kz∧Touch R.S w2 wy):=⟨hh+1,rfl,by omega,rfl,WK1.out.row HLTR.out HI.out hr ht (fun c _=>by rw [HY0.out hh,zDD]) (fun u q=>by rw [HY0.out hh,zwB q,zuB]) (zZC Z Y hh) zYC,TT.out.trans ((Touch.ofBelow BV.out).trans (ht.sub21 fun b q=>by rw [q];exact WK1.out.own HLTR.out HI.out))⟩
    clear HC EV BV WK1 WK TT a0 a1 a2 a3 c0 c1 c2 c3 hr ht;go_wp2_with fail;go_roundg (q-(hh+1))
    case rel=>exact J1.out
    case measure=>exact HMM.out
  ·have hlt':¬(hh:Int)<(q:Int):=by omega
   obtain rfl:hh=q:=by omega
   have FF:=hid (FIN.out wr ⟨WK.out,TT.out⟩);clear WK TT HG FIN;go_wp2;go_end0;exact FF.out
end Go.Proofs.YtjjpodnjljfheaaGreat
