/-
 QMo19ToIx13: Mo19, Mat11, Ix13, joined.
-/
import Derived.Test.YtfeofdpnhhiclaaGreatQPn19ToRs19
import Derived.Test.YtfeofdpnhhiclaaGreatQFil9ToRowsOf9
import Derived.Test.YtfeofdpnhhiclaaGreatQOf11ToDz12
import Derived.Test.YtfeofdpnhhiclaaGreatQLm6ToChkN9
import Derived.Test.YtfeofdpnhhiclaaGreatQSr13ToRl17
import Derived.Test.YtfeofdpnhhiclaaGreatQZOnesToZCmp

set_option maxRecDepth 100000
set_option maxHeartbeats 6400000
set_option linter.unusedVariables false
set_option linter.unusedSimpArgs false
namespace Go.Proofs.YtfeofdpnhhiclaaGreat
open Go.RowKit Go.Shelf
def zWF (D : Int) (n i : Nat) : List Int := (List.range n).map fun j => if i = j then D else 0
def zwB (D : Int) (n i : Nat) : List (List Int) := (List.range i).map (zWF D n)
theorem rwsD19_len (D : Int) (n i : Nat) : (zwB D n i).length = i := by simp [zwB]
theorem rwsD19_more (D : Int) (n i : Nat) : zwB D n i ++ [zWF D n i] = zwB D n (i + 1) := by simp [zwB,List.range_succ]
def zuH (w : World) (bt : Nat) (nd : Bool) (ad : Option Addr) (ld cd n : Nat) (D : Int) (k gk : Nat) (s : Value) (wx : World) : Prop :=
 ∃ (i : Nat) (gs : List Nat) (a : Option Addr) (l cap : Nat),s = .int .i64 (i : Int) ∧ i ≤ n ∧ gk = n - i ∧ gs.length = i ∧ Cel wx bt 109 [.bool nd,.slice ad ld cd,.slice a l cap] ∧ Zm 0 wx (.agg #[.bool nd,.slice ad ld cd]) D k ∧ ShtM w.heap.size wx (.slice a l cap) n gs (zwB D n i) k ∧ Below w.heap.size w wx ∧ (i = 0 → Value.slice a l cap = .slice none 0 0)
def zKI (w : World) (n : Nat) (D : Int) (k : Nat) (e : Ending) (w' : World) : Prop :=
 ∃ bt nd ad ld cd lv gs,e = .returned (.pointer (some ⟨bt,0,none⟩)) ∧ Tg19 w.heap.size w' bt nd ad ld cd lv n D gs (fun i j => if i = j then D else 0) k k ∧ w.heap.size ≤ bt ∧ Below w.heap.size w w'
theorem ShtM.sh19 {B n k : Nat} {w : World} {lv : Value} {gs : List Nat} {D : Int} (h : ShtM B w lv n gs (zwB D n n) k) (hg : gs.length = n) (hn0 : n = 0 → lv = .slice none 0 0) : Sh17 B w lv n n (fun i => gs.getD i 0) (fun i j => if i = j then D else 0) k := by
 obtain ⟨h1,h2,h3,h4,h5,h6⟩ := h;refine ⟨?_,fun i j hi hj e => ?_,fun i hi => ?_⟩
 ·rw [hg] at h1
  obtain ⟨q1,⟨q2,q3⟩ | ⟨g,cap,cur,q2,q3,q4,q5,q6,q7,q8⟩⟩ := h1
  ·exact .inl ⟨q3,q2⟩
  ·by_cases h0 : n = 0
   ·exact .inl ⟨h0,hn0 h0⟩
   ·refine .inr ⟨by omega,g,cap,cur.toList.drop n,q2,q5,q3,?_⟩
    have e : gv17 n n (fun i => gs.getD i 0) = gs.map (rowv n) := by
     unfold gv17
     apply List.ext_getElem?
     intro t
     by_cases q : t < n
     ·simp [q,hg]
     ·rw [List.getElem?_eq_none (by simp;omega),List.getElem?_eq_none (by simp;omega)]
    rw [e,← q8,Nat.mul_one,List.take_append_drop];exact q4
 ·have a1 : gs[i]? = some (gs.getD i 0) := by simp [hg,hi]
  have a2 : gs[j]? = some (gs.getD j 0) := by simp [hg,hj]
  have e' : gs.getD i 0 = gs.getD j 0 := e;rw [e'] at a1;exact h2 i j _ a1 a2
 ·have a1 : gs[i]? = some (gs.getD i 0) := by simp [hg,hi]
  obtain ⟨ps,p1,p2⟩ := h6 i _ a1;refine ⟨h4 _ (List.mem_of_getElem? a1),ps,p1,?_⟩;have e : zOB (zwB D n n) i = (List.range n).map fun j => if i = j then D else 0 := by simp [zOB,zwB,hi,zWF]
  rw [e] at p2;exact p2
theorem multiplesOf19 {w : World} {v : Value} {z : Int} {k n : Nat} (hz : Zi w v z k) (hn : n ≤ 64) :
  Calls Tryz.prog 49 #[v,.int .i64 (n : Int)] w (zKI w n (z.natAbs : Int) k) := by
 obtain ⟨D,hD⟩ : ∃ D : Int,(z.natAbs : Int) = D := ⟨_,rfl⟩
 have hz0 := hz;obtain ⟨n0,xs,a0,c0,rfl,-,-,-⟩ := id hz;obtain ⟨W0,hW⟩ : ∃ W0,w.alloc (duo (.bool n0) (.slice a0 xs.length c0)) = W0 := ⟨_,rfl⟩
 obtain ⟨b0,sz0⟩ := alo1 w (duo (.bool n0) (.slice a0 xs.length c0));rw [hW] at b0 sz0;have p0 : Duo W0 w.heap.size (.bool n0) (.slice a0 xs.length c0) := by rw [← hW];exact Duo.new w _ _
 have HA := hid (zpG (hz0.now b0));rw [hD] at HA ⊢;have i0 := p0.c0;have i1 := p0.c1;rw [← hW] at i0 i1;have B0 := hid b0;have EW := hid hW;have HN := hid hn;clear hz hz0 b0 sz0 hW p0 hD;go_enter Tryz.func49,Tryz.ntmps49;go_wp2_with fail;rw [EW.out];clear i0 i1 EW;refine HA.out.mono ?_;rintro e w1 ⟨r,rfl,m,b⟩;obtain ⟨nd,xd,ad,cd,rfl⟩ := m.parts;obtain ⟨V1,hV⟩ : ∃ V1,w1.alloc (.cells #[.bool nd,.slice ad xd.length cd,.slice none 0 0] 109) = V1 := ⟨_,rfl⟩
 obtain ⟨b1,sz1⟩ := alo1 w1 (.cells #[.bool nd,.slice ad xd.length cd,.slice none 0 0] 109);rw [hV] at b1 sz1;have cT : Cel V1 w1.heap.size 109 [.bool nd,.slice ad xd.length cd,.slice none 0 0] := by rw [← hV];exact Cel.new w1 _ _
 have HBT : Hid (w.heap.size ≤ w1.heap.size) := Nat.le_trans B0.out.size b.size;obtain ⟨bt,hbt⟩ : ∃ bt,w1.heap.size = bt := ⟨_,rfl⟩
 rw [hbt] at cT HBT;have H0 : Hid (zuH w bt nd ad xd.length cd n D k n (.int .i64 0) V1) := ⟨0,[],none,0,0,rfl,Nat.zero_le _,rfl,rfl,cT,(m.mono (Nat.zero_le _)).now b1,ShtM.nil _ _ _ _,below_step (below_step B0.out b) b1,fun _ => rfl⟩
 have EV := hid hV;have EBT := hid hbt;clear m b b1 sz1 hV cT hbt HA B0;go_wp2_with fail;rw [EV.out,EBT.out];clear EV EBT
 go_loopg [13] n (fun gk s13 wx => zuH w bt nd ad xd.length cd n D k gk s13 wx)
 case atStart => exact H0.out
 case round =>
  clear H0;obtain ⟨i,gs,a,l,cap,rfl,hin,hgk,hgl,hc,hm,hs,hb,hnil⟩ := hrel;have CT := hid hc;have ZD := hid hm;have SS := hid hs;have BB := hid hb;have HGL := hid hgl;have HG := hid hgk;have HNIL := hid hnil;clear hc hm hs hb hgl hgk hnil
  by_cases hlt : i < n
  ·have hlt' : (i : Int) < (n : Int) := by omega
   have hwi := zjA (i := i) (by omega);have HMM : Hid (n - (i + 1) < gk) := by unfold Hid;rw [HG.out];omega
   clear HG HNIL;go_wp2_with (at_make;refine zdA _ rfl _ _ rfl _ _ n n rfl rfl rfl rfl (Nat.le_refl _) (by have := HN.out;omega) ?_)
   intro W1 hrow hb1 hsz1;obtain ⟨gx,hgx⟩ : ∃ gx,wr.heap.size = gx := ⟨_,rfl⟩
   rw [hgx] at hrow ⊢;have rw0 := Rw17.start hrow k;have CT1 := CT.out.step hb1;have d0 := CT1.at (i := 0) rfl;have d1 := CT1.at (i := 1) rfl;obtain ⟨_,_,_,_,e0,e1,e2,e3,-⟩ := rw0.at hlt;obtain ⟨rw1,ty1⟩ := rw0.put hlt (ZD.out.now hb1);obtain ⟨W2,hW2⟩ : ∃ W2,(W1.setCell ⟨gx,i * 2,none⟩ (.bool nd)).setCell ⟨gx,i * 2 + 1,none⟩ (.slice ad xd.length cd) = W2 := ⟨_,rfl⟩
   have hbw : Below w.heap.size w W1 := below_step BB.out hb1;have hgw : w.heap.size ≤ gx := by rw [← hgx];exact BB.out.size
   have b2 : Below w.heap.size w ((W1.setCell ⟨gx,i * 2,none⟩ (.bool nd)).setCell ⟨gx,i * 2 + 1,none⟩ (.slice ad xd.length cd)) := bset (bset hbw hgw) hgw;have ct2 := CT1.ty13 ty1 (by decide);have zd2 := (ZD.out.now hb1).ty ty1 (by decide);have hlt3 : ∀ g ∈ gs,g ≠ gx := fun g hg e => by have := SS.out.lt g hg;omega
   have ss2 : ShtM w.heap.size ((W1.setCell ⟨gx,i * 2,none⟩ (.bool nd)).setCell ⟨gx,i * 2 + 1,none⟩ (.slice ad xd.length cd)) (.slice a l cap) n gs (zwB D n i) k := by
    have s1 := SS.out.kc (zSD hb1);obtain ⟨q1,q2,q3,q4,q5,q6⟩ := s1;refine ⟨zVB q1 (fun b hb' hlt4 => ?_),q2,q3,q4,q5,fun j g hg => ?_⟩
    ·have hne : b ≠ gx := fun q => by
      subst q;obtain ⟨_,⟨r2,_⟩ | ⟨g',cap',cur,r2,r3,r4,r5⟩⟩ := q1
      ·rw [r2] at hb';cases hb'
      ·rw [r2] at hb'
       simp only [Value.ownBlock,Option.some.injEq] at hb';subst hb';have := r4.symm.trans (show W1.heap[_]? = _ from hrow.1);simp at this
     exact (Below.heap_setCell _ _ _ b (fun q => hne (by simpa using q))).trans (Below.heap_setCell W1 _ _ b (fun q => hne (by simpa using q)))
    ·obtain ⟨ps,p1,p2⟩ := q6 j g hg
     have hne := hlt3 g (List.mem_of_getElem? hg);exact ⟨ps,⟨(p1.1.ne (fun q => hne q.symm)).ne (fun q => hne q.symm),p1.2⟩,p2.ty ty1 (by decide)⟩
   rw [hW2] at rw1 b2 ct2 zd2 ss2;obtain ⟨ps,hA,hZ⟩ := rw1;have hzs : (List.range n).map (fun j => if j = i then D else 0) = zWF D n i := by
    unfold zWF;exact List.map_congr_left fun t _ => by
     by_cases q : t = i
     ·subst q;simp
     ·rw [if_neg q,if_neg (fun e => q e.symm)]
   rw [hzs] at hZ;obtain ⟨W3,hW3⟩ : ∃ W3,W2.alloc (.cells #[.slice (some ⟨gx,0,none⟩) n n] 22) = W3 := ⟨_,rfl⟩
   obtain ⟨b3,sz3⟩ := alo1 W2 (.cells #[.slice (some ⟨gx,0,none⟩) n n] 22);rw [hW3] at b3 sz3;have cv : W3.cell? ⟨W2.heap.size,0,none⟩ = some (.slice (some ⟨gx,0,none⟩) n n) := by rw [← hW3];exact (Cel.new W2 22 [.slice (some ⟨gx,0,none⟩) n n]).at (i := 0) rfl
   have hsz2 : W2.heap.size = W1.heap.size := by rw [← hW2];simp
   rw [hsz2] at cv;have CV := hid cv;clear hsz2;have kv := zSD b3;have CT3 := hid (ct2.step b3);have ZD3 := hid (zd2.now b3);have SS3 := hid (ss2.kc kv);have BB3 := hid (below_step b2 b3);have A3 := hid (hA.step b3);have Z3 := hid (hZ.now b3);have HNW := hid hlt3;have HGW := hid hgw;have d2 := ct2.at (i := 2) rfl;have EW2 := hid hW2;have EW3 := hid hW3;have HZL : Hid ((zWF D n i).length = n) := by unfold Hid;simp [zWF]
   have HML : Hid ((zwB D n i).length < 64) := by unfold Hid;rw [rwsD19_len];have := HN.out;omega
   have HSZ3 : Hid (w.heap.size ≤ W3.heap.size) := BB3.out.size;clear hrow hb1 hsz1 rw0 CT1 ty1 hbw b2 ct2 zd2 ss2 hA hZ hzs b3 sz3 cv kv hW3 hlt3 CT ZD SS BB hgx;rw [← hW2] at d2;clear hW2 hgw;go_wp2_with (at_builtin;rw [EW2.out,EW3.out];refine zjB W3 rfl (.tmp 29) (.tmp 31) rfl w.heap.size n k _ gs _ rfl SS3.out W1.heap.size gx rfl CV.out ps _ A3.out Z3.out HZL.out HGW.out HNW.out HML.out HSZ3.out ?_)
   intro g' l' cap' w3 hS hg hown;have ct4 : Cel w3 bt 109 [.bool nd,.slice ad xd.length cd,.slice a l cap] := by
    refine (hg.out.block bt CT3.out.blk (fun e => ?_)).trans CT3.out;obtain ⟨_,L',q'⟩ := hown.out bt e.symm;have := q'.symm.trans (show W3.heap[bt]? = _ from CT3.out);simp at this
   have zd4 : Zm 0 w3 (.agg #[.bool nd,.slice ad xd.length cd]) D k := by
    have ht : Ty 22 W3 w3 := Ty.grown SS3.out.1 hg.out;exact ZD3.out.ty ht (by decide)
   have y2 := ct4.at (i := 2) rfl;have f2 := ct4.fz 2;obtain ⟨U,hU⟩ : ∃ U,w3.setCell ⟨bt,2,none⟩ (.slice (some ⟨g',0,none⟩) l' cap') = U := ⟨_,rfl⟩
   have HN1 : Hid (zuH w bt nd ad xd.length cd n D k (n - (i + 1)) (.int .i64 ((i + 1 : Nat) : Int)) U) := by
    unfold Hid;rw [← hU];refine ⟨i + 1,gs ++ [gx],_,_,_,rfl,by omega,rfl,by rw [List.length_append,HGL.out];rfl,ct4.set 2 _,zd4.ty (Ty.set ct4) (by decide),?_,bset ?_ HBT.out,fun e => by omega⟩
    ·have := hS.out.off (i := 2) (u := .slice (some ⟨g',0,none⟩) l' cap') ct4 (by decide) (by decide) (by decide)
     rw [rwsD19_more] at this;exact this
    ·exact BB3.out.trans ⟨hg.out.os,hg.out.tape,hg.out.output,hg.out.size,fun b hb => hg.out.block b (Nat.lt_of_lt_of_le hb BB3.out.size) (fun e => by have := (hown.out b e.symm).1;omega)⟩
   have EU := hid hU;clear hU hS hg hown ct4 zd4 CT3 ZD3 SS3 BB3 A3 Z3 CV HNW HGW HZL HML HSZ3 d0 d1 d2 e0 e1 e2 e3 EW2 EW3;go_wp2_with fail;rw [EU.out];clear EU y2 f2;go_roundg (n - (i + 1))
   case rel => exact HN1.out
   case measure => exact HMM.out
  ·have hlt' : ¬ (i : Int) < (n : Int) := by omega
   obtain rfl : i = n := by omega
   have FF : Hid (zKI w i D k (.returned (.pointer (some ⟨bt,0,none⟩))) wr) := ⟨bt,nd,ad,xd.length,cd,_,_,rfl,⟨CT.out,ZD.out,SS.out.sh19 HGL.out HNIL.out⟩,HBT.out,BB.out⟩
   clear CT ZD SS BB HGL HG HNIL;go_wp2;go_ret;exact FF.out
end Go.Proofs.YtfeofdpnhhiclaaGreat
namespace Go.Proofs.YtfeofdpnhhiclaaGreat
open Go.RowKit
theorem zeE {w : World} {B r c : Nat} {at_ : Value} {ps : List (Value × Value)} {zs : List Int} {k : Nat} (hA : Prs B w at_ ps) (hz : Zis w ps zs k) (hl : zs.length = r * c) (hr : r ≤ 64) (hc : c ≤ 64) :
  Calls Tryz.prog 81 #[.int .i64 (r : Int),.int .i64 (c : Int),at_] w (zrE w r c zs k) := by
 obtain ⟨W0,hW⟩ : ∃ W0,w.alloc mbox = W0 := ⟨_,rfl⟩
 obtain ⟨b0,sz0⟩ := alo1 w mbox;rw [hW] at b0 sz0;have PR := hid (zRD hW);have HE := hid (eachLeast_any (hA.now b0) (hz.now b0));have HS := hid (zpB (w := W0) hr hc);obtain ⟨a,cap,rfl,-,-,-,-⟩ := hA.form;have hm0 := zaC (i := r) (c := c) hr hc;have hpl : ps.length = r * c := by rw [hz.1,hl]
 rw [hpl] at HE ⊢;obtain ⟨n,hn⟩ : ∃ n,r * c = n := ⟨_,rfl⟩
 rw [hn] at hm0 HE ⊢;have hm2 := hm0;rw [IntKind.wrap_i64] at hm2;have q0 : ((n : Int) != (n : Int)) = false := by simp
 have G0 := hid b0;have EW := hid hW;have HL := hid hl;have HN := hid hn;have SZ := hid sz0;clear b0 sz0 hW hA hz hl hn hpl;go_enter Tryz.func81,Tryz.ntmps81;go_wp2_with fail;rw [EW.out];refine HS.out.mono ?_;rintro e w1 ⟨rfl,hw1⟩;have hw2 := hw1.symm;subst hw2;clear hw1 HS;go_wp2_with fail;refine HE.out.mono ?_;rintro e w2 ⟨u,qs,rfl,p1,p2,b⟩;have PR2 := hid (PR.out.step b);have G2 := hid (below_step G0.out b);obtain ⟨au,cu,rfl,-,-,-,-⟩ := p1.form;have hql : qs.length = n := by rw [p2.1,HL.out,HN.out]
 rw [hql] at p1 ⊢;have FIN : Hid (zrE w r c zs k (.returned (.tuple #[.agg #[.int .i64 (r : Int),.int .i64 (c : Int),.slice au n cu],.int .i64 0])) (put3 w2 w.heap.size (.int .i64 (r : Int)) (.int .i64 (c : Int)) (.slice au n cu))) :=
  ⟨_,rfl,⟨_,qs,rfl,(p1.put3 (by have := SZ.out;omega) _ _ _).mono (Nat.zero_le _),p2.wk (PR2.out.wk3 _ _ _),HL.out,hr,hc⟩,zNA G2.out (by omega) _ _ _⟩
 have PF := hid (PR2.out.put3 (.int .i64 (r : Int)) (.int .i64 (c : Int)) (.slice au n cu));have r0 := PR2.out.at (i := 0) rfl;have r1 := PR2.out.at (i := 1) rfl;have r2 := PR2.out.at (i := 2) rfl;have f0 := PR2.out.fz 0;have f1 := PR2.out.fz 1;have f2 := PR2.out.fz 2;clear HE p1 p2 b PR G0 G2 EW hql;go_wp2;exact bodyPost_ret (zHE Tryz.results81 PF.out _ (by rfl) (by rfl)) rfl FIN.out
abbrev fnNz13 : Value := .func (.func 111) #[] #[]
theorem cmpI_ne {z : Int} (h : z ≠ 0) : (cmpI z 0 != 0) = true := by
 rcases Int.lt_or_gt_of_ne h with q | q
 ·rw [zhB q];rfl
 ·rw [ziB q];rfl
theorem nz13 {w : World} {v : Value} {z : Int} {k : Nat} (h : Zi w v z k) : Calls Tryz.prog 111 #[v] w fun e w' => e = .returned (.bool (z != 0)) ∧ Below w.heap.size w w' := by
 have z0 := h;obtain ⟨n,xs,a,c,rfl,-,-,-⟩ := h;obtain ⟨W0,hW⟩ : ∃ W0,w.alloc (duo (.bool n) (.slice a xs.length c)) = W0 := ⟨_,rfl⟩
 obtain ⟨b0,sz0⟩ := alo1 w (duo (.bool n) (.slice a xs.length c));rw [hW] at b0 sz0;have HS := hid (zmA (z0.now b0));have G := hid b0;have EW := hid hW;have EB : (cmpI z 0 != 0) = (z != 0) := by
  by_cases q : z = 0
  ·subst q;rw [cmpI_self]
  ·rw [cmpI_ne q];simp [q]
 have HEB := hid EB;clear z0 b0 hW sz0 EB;go_enter Tryz.func111,Tryz.ntmps111;go_wp2_with fail;rw [EW.out];refine HS.out.mono ?_;rintro e w1 ⟨rfl,b⟩;have G1 := hid (below_step G.out b);clear b HS;generalize cmpI z 0 = cz at *;go_wp2;go_ret;refine ⟨?_,G1.out⟩;rw [← HEB.out]
 rfl
def FstN (n : Nat) (zs : List Int) (r : Int) : Prop := (r = -1 ∧ ∀ j,j < n → zs.getD j 0 = 0) ∨ ∃ c : Nat,r = (c : Int) ∧ c < n ∧ (∀ j,j < c → zs.getD j 0 = 0) ∧ zs.getD c 0 ≠ 0
def zzH (w : World) (n : Nat) (zs : List Int) (e : Ending) (w' : World) : Prop := ∃ r : Int,e = .returned (.int .i64 r) ∧ FstN n zs r ∧ Below w.heap.size w w'
def zxH (w : World) (g n : Nat) (ps : List (Value × Value)) (zs : List Int) (k gk : Nat) (s : Value) (wx : World) : Prop :=
 ∃ i : Nat,s = .int .i64 (i : Int) ∧ i ≤ n ∧ gk = n - i ∧ (∀ j,j < i → zs.getD j 0 = 0) ∧ Arr wx g ps ∧ Zms wx ps zs k ∧ Below w.heap.size w wx
theorem index13 {w : World} {g n k : Nat} {ps : List (Value × Value)} {zs : List Int} (hA : Arr w g ps) (hz : Zms w ps zs k) (hl : zs.length = n) (hn : n ≤ 64) :
  Calls Tryz.prog 110 #[.slice (some ⟨g,0,none⟩) n n,fnNz13] w (zzH w n zs) := by
 have H0 : Hid (zxH w g n ps zs k n (.int .i64 0) w) := ⟨0,rfl,Nat.zero_le _,rfl,fun j hj => by omega,hA,hz,Below.refl _ _⟩
 have HL := hid hl;clear hA hz hl;go_enter Tryz.func110,Tryz.ntmps110;go_wp2_with fail
 go_loopg [8] n (fun gk s8 wx => zxH w g n ps zs k gk s8 wx)
 case atStart => exact H0.out
 case round =>
  clear H0;obtain ⟨i,rfl,hin,hg,hpos,ar,zr,hG⟩ := hrel;have AR := hid ar;have ZR := hid zr;have G := hid hG;have HG := hid hg;have HP := hid hpos;clear ar zr hG hg hpos
  by_cases hlt : i < n
  ·have hlt' : (i : Int) < (n : Int) := by omega
   obtain ⟨nf,af,lf,cf,k0,k1,-,-,zf⟩ := ZR.out.at AR.out (t := i) (by rw [HL.out];exact hlt);have HS := hid (nz13 zf.zi);have hw := zjA (i := i) (by omega);clear zf
   by_cases hp : zs.getD i 0 = 0
   ·have e0 : (zs.getD i 0 != 0) = false := by rw [hp];rfl
    rw [e0] at HS;have HPP := hid hp;clear hp e0;go_wp2_with fail;refine HS.out.mono ?_;rintro e w1 ⟨rfl,b⟩;have HN1 : Hid (zxH w g n ps zs k (n - (i + 1)) (.int .i64 ((i + 1 : Nat) : Int)) w1) := ⟨i + 1,rfl,by omega,rfl,fun j hj => by
     by_cases q : j < i
     ·exact HP.out j q
     ·obtain rfl : j = i := by omega
      exact HPP.out,AR.out.step b,ZR.out.now b,below_step G.out b⟩
    have HMM : Hid (n - (i + 1) < gk) := by unfold Hid;rw [HG.out];omega
    clear HS HPP AR ZR G HG HP k0 k1 b;go_wp2_with fail;go_roundg (n - (i + 1))
    case rel => exact HN1.out
    case measure => exact HMM.out
   ·have e0 : (zs.getD i 0 != 0) = true := by simp only [bne_iff_ne];exact hp
    rw [e0] at HS;have HPP := hid hp;clear hp e0;go_wp2_with fail;refine HS.out.mono ?_;rintro e w1 ⟨rfl,b⟩;have FIN : Hid (zzH w n zs (.returned (.int .i64 (i : Int))) w1) := ⟨(i : Int),rfl,.inr ⟨i,rfl,hlt,HP.out,HPP.out⟩,below_step G.out b⟩
    clear HS HPP AR ZR G HG HP k0 k1 b;go_wp2;go_ret;exact FIN.out
  ·have hlt' : ¬ (i : Int) < (n : Int) := by omega
   have FIN : Hid (zzH w n zs (.returned (.int .i64 (-1))) wr) := ⟨-1,rfl,.inl ⟨rfl,fun j hj => HP.out j (by omega)⟩,G.out⟩
   clear AR ZR G HG HP;go_wp2;go_ret;exact FIN.out
end Go.Proofs.YtfeofdpnhhiclaaGreat
