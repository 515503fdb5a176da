/-
 QSn12ToStk12: Sn12, Mk12, Stk12, joined.
-/
import Derived.Test.YtkklldokdnfkgaaGreatQSv12ToSb12
import Derived.Test.YtkklldokdnfkgaaGreatQCf12ToRf12
import Derived.Test.YtkklldokdnfkgaaGreatQSr12
import Derived.Test.YtkklldokdnfkgaaGreatQVm12
import Derived.Test.YtkklldokdnfkgaaGreatQDv12ToZFloor

set_option maxRecDepth 100000
set_option maxHeartbeats 6400000
set_option linter.unusedVariables false
set_option linter.unusedSimpArgs false
namespace Go.Proofs.YtkklldokdnfkgaaGreat
open Go.RowKit
theorem zeE {w : World} {v : Value} {ps : List (Value × Value)} {zs : List Int} {k t : Nat} (h : Prs 0 w v ps) (hz : Zcs w ps zs k) (ht : t < zs.length) (h0 : zs.getD t 0 = 0) : ∃ b off cap a q,v = .slice (some ⟨b,off,none⟩) zs.length cap ∧ w.cell? ⟨b,off + t * 2 + 1,none⟩ = some (.slice a 0 q) := by
 obtain ⟨a,c,e1,-,-,-,h4⟩ := h;have hl := hz.1;have hp : ps[t]? = some (ps[t]'(by omega)) := List.getElem?_eq_getElem (by omega);have hq : zs[t]? = some zs[t] := List.getElem?_eq_getElem ht;have zc := hz.2 t _ _ hp hq;have e0 : zs[t] = 0 := by rw [List.getD_eq_getElem?_getD,hq] at h0;exact h0
 rw [e0] at zc;rcases h4 with rfl | ⟨b,off,rfl,-,-,h7⟩
 ·simp at hl;omega
 ·obtain ⟨-,q2⟩ := h7 t _ hp
  have zc' := zc;obtain ⟨n,xs,a',c',e,-⟩ := zc;obtain ⟨e2,e3⟩ : (ps[t]'(by omega)).1 = .bool n ∧ (ps[t]'(by omega)).2 = .slice a' xs.length c' := by simpa using e
  rw [e2,e3] at zc';have hx := zc'.nil12.2 rfl;rw [e3,hx] at q2;exact ⟨b,off,c,a',c',by rw [e1,hl],q2⟩
section
variable {p : Nat} [NeZero p]
theorem kp_at12 (hp : IsPr p) {r c : Nat} {zs : List Int} (hl : zs.length = r * c) {t : Nat} (ht : t < r - wkR p r c zs) : (((wkS p r c zs).pv.drop (wkR p r c zs)).map (· - c)).getD t 0 = (wkS p r c zs).pv.getD (wkR p r c zs + t) 0 - c := by
 have hf := zOB hp hl;simp [List.getD_eq_getElem?_getD,List.getElem?_drop,show wkR p r c zs + t < (wkS p r c zs).pv.length by omega]
theorem sx_piv12 (hp : IsPr p) {r c : Nat} {zs bs : List Int} (hl : zs.length = r * c) (hb : bs.length = c) {t : Nat} (ht : t < r - wkR p r c zs) : (slX p r c zs bs).getD ((((wkS p r c zs).pv.drop (wkR p r c zs)).map (· - c)).getD t 0) 0 = 0 := by
 rw [kp_at12 hp hl ht];exact slX_piv hp hl hb (by omega) (by omega)
end
def zbH (w : World) (e : Ending) (w' : World) : Prop := e = .returned (.bool true) ∧ Below w.heap.size w w'
theorem modpSolves_un {w : World} {r c : Int} {a : Option Addr} {l cap p : Nat} {vx : Value} {ax : Option Addr} {lx cx : Nat} (hvx : vx = .slice ax lx cx) (hl : l ≤ 1048576) (hs : ¬ Snd r c l) :
  Calls Tryz.prog 3 #[mrV r c a l cap,vx,.int .u64 (p : Int)] w (zbH w) := by
 subst hvx;have HSA : Hid (∀ w',Calls Tryz.prog 5 #[mrV r c a l cap] w' fun e w'' => e = .returned (.bool false) ∧ Below w'.heap.size w' w'') := fun w' => zXG (s := false) hl ⟨(fun h => by cases h),fun h => absurd h hs⟩
 obtain ⟨W0,hW⟩ : ∃ W0,w.alloc (mrO r c a l cap) = W0 := ⟨_,rfl⟩
 obtain ⟨b0,sz0⟩ := zVA w (mrO r c a l cap);rw [hW] at b0 sz0;have PA : Hid (Cel W0 w.heap.size 24 (mrC r c a l cap)) := by unfold Hid;rw [← hW];exact Cel.new w _ _
 have HW := hid (zuF W0);have G0 := hid b0;have EW := hid hW;clear b0 sz0 hW hs;go_enter Tryz.func3,Tryz.ntmps3;go_wp2_with fail;rw [EW.out];refine HW.out.mono ?_;rintro e w1 ⟨rfl,b1⟩;replace PA := hid (PA.out.step b1);have G := hid (below_step G0.out b1);clear HW EW b1 G0;have x0 := PA.out.at (i := 0) rfl;have x1 := PA.out.at (i := 1) rfl;have x2 := PA.out.at (i := 2) rfl;go_wp2_with fail;refine (HSA.out w1).mono ?_;rintro e w2 ⟨rfl,b⟩;have G2 := hid (below_step G.out b);clear b x0 x1 x2 HSA PA G;go_wp2;go_ret;exact ⟨rfl,G2.out⟩
theorem modpSolves_no {w : World} {r c : Int} {a : Option Addr} {l cap p : Nat} {vx : Value} {ax : Option Addr} {lx cx : Nat} (hvx : vx = .slice ax lx cx) (hl : l ≤ 1048576) (hs : Snd r c l) (hg : gdB p = false) :
  Calls Tryz.prog 3 #[mrV r c a l cap,vx,.int .u64 (p : Int)] w (zbH w) := by
 subst hvx;have HSA : Hid (∀ w',Calls Tryz.prog 5 #[mrV r c a l cap] w' fun e w'' => e = .returned (.bool true) ∧ Below w'.heap.size w' w'') := fun w' => zXG (s := true) hl ⟨fun _ => hs,fun _ => rfl⟩
 have HLP : Hid (∀ w',Calls Tryz.prog 6 #[.int .u64 (p : Int)] w' fun e w'' => e = .returned (.bool false) ∧ w'' = w') := fun w' => by have := zdF (w := w') (p := p);rw [hg] at this;exact this
 obtain ⟨W0,hW⟩ : ∃ W0,w.alloc (mrO r c a l cap) = W0 := ⟨_,rfl⟩
 obtain ⟨b0,sz0⟩ := zVA w (mrO r c a l cap);rw [hW] at b0 sz0;have PA : Hid (Cel W0 w.heap.size 24 (mrC r c a l cap)) := by unfold Hid;rw [← hW];exact Cel.new w _ _
 have HW := hid (zuF W0);have G0 := hid b0;have EW := hid hW;clear b0 sz0 hW hs hg;go_enter Tryz.func3,Tryz.ntmps3;go_wp2_with fail;rw [EW.out];refine HW.out.mono ?_;rintro e w1 ⟨rfl,b1⟩;replace PA := hid (PA.out.step b1);have G := hid (below_step G0.out b1);clear HW EW b1 G0;have x0 := PA.out.at (i := 0) rfl;have x1 := PA.out.at (i := 1) rfl;have x2 := PA.out.at (i := 2) rfl;go_wp2_with fail;refine (HSA.out w1).mono ?_;rintro e w2 ⟨rfl,b⟩;have G2 := hid (below_step G.out b);clear b x0 x1 x2 HSA PA G;go_wp2_with fail;refine (HLP.out w2).mono ?_;rintro e w4 ⟨rfl,rfl⟩;go_wp2;go_ret;exact ⟨rfl,G2.out⟩
theorem mix_step12 {zs : List Int} {N i : Nat} (h : zs.length = N) (hi : i < N) : (mix zs (List.replicate N 0) i).set i (zs.getD i 0) = mix zs (List.replicate N 0) (i + 1) := by
 have h0 : i < zs.length := by omega
 have := zAF (ys := zs) (xs := List.replicate N 0) (by simp [h]) (i := i) (by simpa using hi);rw [← this]
 congr 1
 rw [List.getD_eq_getElem?_getD,List.getElem?_eq_getElem h0]
 rfl
theorem mix_end12 {zs : List Int} {N : Nat} (h : zs.length = N) : mix zs (List.replicate N 0) N = zs := by
 have := zBF (ys := zs) (xs := List.replicate N 0) (by simp [h]);rw [List.length_replicate] at this;exact this
theorem zcE {w : World} {n : Nat} (h : n ≤ 64) : Calls Tryz.prog 49 #[.int .i64 (n : Int)] w fun e w' => e = .returned (.bool false) ∧ w' = w := by
 have g1 : ¬ (n : Int) < 0 := by omega
 have g2 : ¬ (64 : Int) < (n : Int) := by omega
 go_enter Tryz.func49,Tryz.ntmps49;go_wp2;go_ret;exact ⟨rfl,rfl⟩
def MBK (w wx : World) (bm : Nat) (M0 : List Value) : Prop := Cel wx w.heap.size 24 [.int .i64 0,.int .i64 0,.slice none 0 0] ∧ Cel wx bm 24 M0 ∧ Below w.heap.size w wx
theorem MBK.step {w x y : World} {bm : Nat} {M0 : List Value} (h : MBK w x bm M0) (hb : Below x.heap.size x y) : MBK w y bm M0 := ⟨h.1.step hb,h.2.1.step hb,below_step h.2.2 hb⟩
theorem MBK.ty {w x y : World} {bm : Nat} {M0 : List Value} (h : MBK w x bm M0) (ht : Ty 44 x y) (hb : Below w.heap.size w y) : MBK w y bm M0 := ⟨h.1.ty12 ht (by decide),h.2.1.ty12 ht (by decide),hb⟩
def MkH (w : World) (bm g N : Nat) (zs : List Int) (k : Nat) (M0 : List Value) (gk : Nat) (s : Value) (wx : World) : Prop :=
 ∃ i : Nat,s = .int .i64 (i : Int) ∧ i ≤ N ∧ gk = N - i ∧ ArZ wx g (mix zs (List.replicate N 0) i) k ∧ MBK w wx bm M0
theorem rmake12 {w : World} {v : Value} {pv : List (Value × Value)} {r c ka : Nat} {zs : List Int} (hv : Prs 0 w v pv) (hvz : Zis w pv zs ka) (hvl : zs.length = r * c) (hr : r ≤ 64) (hc : c ≤ 64) (hk : ka ≤ 1099511627776) :
  Calls Tryz.prog 32 #[.int .i64 (r : Int),.int .i64 (c : Int),v] w (zRC w r c zs ka) := by
 have hrc : r * c ≤ 64 * 64 := Nat.mul_le_mul hr hc;obtain ⟨N,hN⟩ : ∃ N,r * c = N := ⟨_,rfl⟩
 have HBL : Hid (∀ w',Calls Tryz.prog 50 #[.int .i64 (r : Int),.int .i64 (c : Int)] w' (zPG w' r c N)) := fun w' => rblank12 hr hc hN
 have HNN := hid hN;have hm0 := zGC (i := r) (c := c) hr hc;rw [hN] at hrc hvl hm0;have hm2 := hm0;rw [IntKind.wrap_i64] at hm2;have HVV : Hid (∀ wx,Below w.heap.size w wx → ∀ t,t < N → ∃ b off cap n a l c,v = .slice (some ⟨b,off,none⟩) N cap ∧ wx.cell? ⟨b,off + t * 2,none⟩ = some (.bool n) ∧ wx.cell? ⟨b,off + t * 2 + 1,none⟩ = some (.slice a l c) ∧ Zi wx (.agg #[.bool n,.slice a l c]) (zs.getD t 0) ka) := fun wx h t ht => by
  have := (hv.now h).isI12 (hvz.now h) (t := t) (by rw [hvl];exact ht);rw [hvl] at this;exact this
 obtain ⟨av,cv,rfl,-,-,-,-⟩ := hv.form;have hvp : pv.length = N := by rw [hvz.1,hvl]
 rw [hvp] at HVV ⊢;obtain ⟨W0,hW⟩ : ∃ W0,w.alloc mbox = W0 := ⟨_,rfl⟩
 obtain ⟨b0,sz0⟩ := alo1 w mbox;rw [hW] at b0 sz0;have PR := hid (zCF hW);have G0 := hid b0;have SZ := hid sz0;have HK := hid hk;have EW := hid hW;have MIX : Hid (∀ i,i < N → (mix zs (List.replicate N 0) i).set i (zs.getD i 0) = mix zs (List.replicate N 0) (i + 1)) := fun i hi => mix_step12 hvl hi
 have MIXL : Hid (∀ i,(mix zs (List.replicate N 0) i).length = N) := fun i => by rw [zRB];simp
 have MIXA : Hid (mix zs (List.replicate N 0) N = zs) := mix_end12 hvl;have HVL := hid hvl;clear hv hvz hvl hvp b0 sz0 hW hk hN;have q0 : ((N : Int) != (N : Int)) = false := by simp
 go_enter Tryz.func32,Tryz.ntmps32;go_wp2_with fail;rw [EW.out];refine (zcE hr).mono ?_;rintro e w3 ⟨rfl,rfl⟩;go_wp2_with fail;refine (zcE hc).mono ?_;rintro e w4 ⟨rfl,rfl⟩;go_wp2_with fail;refine (HBL.out _).mono ?_;rintro e w2 ⟨g,rfl,hge,harr,b2⟩;clear q0 HBL hm0 hm2 EW;obtain ⟨V1,hV⟩ : ∃ V1,w2.alloc (matO r c (.slice (some ⟨g,0,none⟩) N N)) = V1 := ⟨_,rfl⟩
 obtain ⟨b3,sz3⟩ := alo1 w2 (matO r c (.slice (some ⟨g,0,none⟩) N N));rw [hV] at b3 sz3;have PM : Hid (Cel V1 w2.heap.size 24 (matc r c (.slice (some ⟨g,0,none⟩) N N))) := by unfold Hid;rw [← hV];exact Cel.new w2 _ _
 have HGW : Hid (w.heap.size < g) := by unfold Hid;have h1 := SZ.out;omega
 have H0 : Hid (MkH w w2.heap.size g N zs ka (matc r c (.slice (some ⟨g,0,none⟩) N N)) N (.int .i64 0) V1) :=
  ⟨0,rfl,Nat.zero_le _,by omega,by rw [zhD];exact (ArZ.start harr ka).step b3,(PR.out.step b2).step b3,PM.out,below_step (below_step G0.out b2) b3⟩
 have EV := hid hV;clear PR G0 harr b2 b3 sz3 PM hV hge SZ;go_wp2_with fail;rw [EV.out];clear EV;obtain ⟨bm,hbm⟩ : ∃ bm,w2.heap.size = bm := ⟨_,rfl⟩
 rw [hbm] at H0 ⊢;clear hbm
 go_loopg [9] N (fun gk s9 wx => MkH w bm g N zs ka (matc r c (.slice (some ⟨g,0,none⟩) N N)) gk s9 wx)
 case atStart => exact H0.out
 case round =>
  clear H0;obtain ⟨i,rfl,hin,hg,hfil,hmb⟩ := hrel;have FI := hid hfil;have MBx := hid hmb;have HG := hid hg;clear hfil hmb hg
  by_cases hlt : i < N
  ·have hlt' : (i : Int) < (N : Int) := by omega
   have hw := zkA (i := i) (by omega);have HMM : Hid (N - (i + 1) < gk) := by unfold Hid;rw [HG.out];omega
   obtain ⟨b1,o1,c1,n1,a1,l1,d1,e7,u0,u1,z1⟩ := HVV.out wr MBx.out.2.2 i hlt;simp only [Value.slice.injEq] at e7;obtain ⟨rfl,-,rfl⟩ := e7;have HS : Hid (∀ w',Below wr.heap.size wr w' → Calls Tryz.prog 51 #[.agg #[.bool n1,.slice a1 l1 d1]] w' (zZA w' (zs.getD i 0) ka)) := fun w' h => zeG (z1.now h) HK.out
   have TP := hid (MIX.out i hlt);have TL := hid (MIXL.out i);have m2 := MBx.out.2.1.at (i := 2) rfl;clear z1 HG;go_wp2_with fail;have KB : Hid (∀ w',Below wr.heap.size wr w' → w'.cell? ⟨bm,2,none⟩ = some (.slice (some ⟨g,0,none⟩) N N) ∧ w'.cell? ⟨b1,o1 + i * 2,none⟩ = some (.bool n1) ∧ w'.cell? ⟨b1,o1 + i * 2 + 1,none⟩ = some (.slice a1 l1 d1)) := fun w' h => ⟨cnow h m2,cnow h u0,cnow h u1⟩
   refine zDA (fun w' => w'.cell? ⟨bm,2,none⟩ = some (.slice (some ⟨g,0,none⟩) N N) ∧ w'.cell? ⟨b1,o1 + i * 2,none⟩ = some (.bool n1) ∧ w'.cell? ⟨b1,o1 + i * 2 + 1,none⟩ = some (.slice a1 l1 d1)) 9 (by kernel_rfl) ?_;obtain ⟨D1,hD⟩ : ∃ D1,wr.drew = D1 := ⟨_,rfl⟩
   have GB : Hid (Below wr.heap.size wr D1) := by unfold Hid;rw [← hD];exact (Below.refl _ _).drew
   rw [hD];clear hD;have GBs := GB;refine ziA [(0,(.pointer (some ⟨bm,2,none⟩))),(1,(.slice (some ⟨g,0,none⟩) N N)),(2,(.int .i64 (i : Int))),(3,(.slice (some ⟨b1,o1,none⟩) N cv)),(4,(.int .i64 (i : Int))),(5,(.pointer (some ⟨b1,o1 + i * 2,none⟩))),(6,(.agg #[.bool n1,.slice a1 l1 d1]))] 7 ?_ (KB.out _ GB.out) ?_
   ·simp only [zpB,gA9,g09,g19,Act.put,sI9,s09,s19]
    (repeat' (first | exact trivial | refine And.intro (Or.inl ⟨by rfl,?_⟩) ?_)) <;> (intro w hSw;(try dsimp only at hSw);go_simp)
   simp only [actV,gA9,g09,g19,Act.put,sI9,s09,s19];refine zCA (i := 7) (o := ⟨some 40,.call { callee := .value (.func 51),args := #[.tmp 39],argTypes := #[44] },44, "ref.go:37",#[⟨6,.data⟩],none⟩) (by kernel_rfl) rfl (fun K hK => ?_);go_simp;go_at_call 51;refine (HS.out _ GB.out).mono ?_;rintro e w2 ⟨rr,rfl,m1,b⟩;have lz2 := (show Below _ _ _ from b).size;replace GB := hid (below_step GB.out b);have FI1 := hid (FI.out.step (below_step (w0 := wr) GBs.out b));have MB2 := hid (MBx.out.step (below_step (w0 := wr) GBs.out b));have M1 := hid (m1.mono (Nat.zero_le _));obtain ⟨nr,xr,ar,cr,rfl⟩ := m1.parts;clear m1;clear b;refine hK.out _ _ (fun _ => KB.out _ GB.out) ?_;clear hK;refine ziA [(8,(.pointer (some ⟨g,i * 2,none⟩)))] 1 ?_ (KB.out _ GB.out) ?_
   ·simp only [zpB,gA9,g09,g19,Act.put,sI9,s09,s19]
    (repeat' (first | exact trivial | refine And.intro (Or.inl ⟨by rfl,?_⟩) ?_)) <;> (intro w hSw;(try dsimp only at hSw);go_simp)
   simp only [actV,gA9,g09,g19,Act.put,sI9,s09,s19];refine zCA (i := 9) (o := ⟨none,.store 44 (.tmp 41) (.tmp 40),0, "ref.go:37",#[⟨8,.data⟩,⟨7,.data⟩,⟨7,.chain⟩,⟨0,.phase⟩,⟨1,.phase⟩,⟨2,.phase⟩,⟨3,.phase⟩,⟨4,.phase⟩,⟨5,.phase⟩,⟨6,.phase⟩,⟨7,.phase⟩],none⟩) (by kernel_rfl) rfl (fun K hK => ?_);obtain ⟨m0,am,lm,cm,e0,e1,e2,e3,-⟩ := FI1.out.cells (j := i) (by rw [TL.out];exact hlt);go_simp;clear e0 e1 e2 e3;obtain ⟨V3,hW⟩ : ∃ V3,((w2.setCell ⟨g,i * 2,none⟩ (.bool nr)).setCell ⟨g,i * 2 + 1,none⟩ (.slice ar xr.length cr)) = V3 := ⟨_,rfl⟩
   have HN1 : Hid (MkH w bm g N zs ka (matc r c (.slice (some ⟨g,0,none⟩) N N)) (N - (i + 1)) (.int .i64 ((i + 1 : Nat) : Int)) V3) := by
    unfold Hid;rw [← hW];refine ⟨i + 1,rfl,by omega,rfl,?_,MB2.out.ty (FI1.out.ty12 _ _) (bset (bset MB2.out.2.2 (by have := HGW.out;omega)) (by have := HGW.out;omega))⟩;have := FI1.out.put (t := i) (by rw [TL.out];exact hlt) M1.out;rw [TP.out] at this;exact this
   rw [hW];clear hW;refine hK.out _ _ (fun h => absurd h (by decide)) ?_;clear hK
   try simp only [Act.put]
   refine zFA (by kernel_rfl) ?_ _;clear HS FI MBx FI1 MB2 M1 GBs GB KB;go_wp2_with fail;go_roundg (N - (i + 1))
   case rel => exact HN1.out
   case measure => exact HMM.out
  ·have hlt' : ¬ (i : Int) < (N : Int) := by omega
   obtain rfl : i = N := by omega
   have m0 := MBx.out.2.1.at (i := 0) rfl;have m1 := MBx.out.2.1.at (i := 1) rfl;have m2 := MBx.out.2.1.at (i := 2) rfl;have r0 := MBx.out.1.at (i := 0) rfl;have r1 := MBx.out.1.at (i := 1) rfl;have r2 := MBx.out.1.at (i := 2) rfl;have f0 := MBx.out.1.fz 0;have f1 := MBx.out.1.fz 1;have f2 := MBx.out.1.fz 2;have h1 := FI.out;rw [MIXA.out] at h1;obtain ⟨ps,p1,p2⟩ := h1.done (by rw [HVL.out];omega);rw [HVL.out] at p1;have FIN : Hid (zRC w r c zs ka (.returned (.tuple #[.agg #[.int .i64 (r : Int),.int .i64 (c : Int),.slice (some ⟨g,0,none⟩) i i],.int .i64 0])) (put3 wr w.heap.size (.int .i64 (r : Int)) (.int .i64 (c : Int)) (.slice (some ⟨g,0,none⟩) i i))) := by
    have t1 : Ty 24 wr (put3 wr w.heap.size (.int .i64 (r : Int)) (.int .i64 (c : Int)) (.slice (some ⟨g,0,none⟩) i i)) := ((Ty.set MBx.out.1).trans (Ty.set (MBx.out.1.set 0 _))).trans (Ty.set ((MBx.out.1.set 0 _).set 1 _));exact ⟨_,rfl,⟨_,ps,rfl,(p1.ty t1 (by decide)).1,(p2.ty t1 (by decide)).zcs,by rw [HVL.out,HNN.out],hr,hc⟩,zgA MBx.out.2.2 (by omega) _ _ _⟩
   have PG := hid (MBx.out.1.put3 (.int .i64 (r : Int)) (.int .i64 (c : Int)) (.slice (some ⟨g,0,none⟩) i i));clear FI MBx HG p1 p2 h1;go_wp2;exact bodyPost_ret (zeH Tryz.results32 PG.out _ (by rfl) (by rfl)) rfl FIN.out
def SkA (W : World) (gk : Nat) (s : Value) (wx : World) : Prop := ∃ i : Nat,s = .int .i64 (i : Int) ∧ i ≤ 2 ∧ gk = 2 - i ∧ Below W.heap.size W wx
def SkB (W : World) (c gk : Nat) (s7 s9 : Value) (wx : World) : Prop := ∃ i k : Nat,s7 = .int .i64 (k : Int) ∧ s9 = .int .i64 (i : Int) ∧ i ≤ 2 ∧ (i = 0 ∨ k = c) ∧ (i = 2 → k = c) ∧ gk = 2 - i ∧ Below W.heap.size W wx
def skP (pa pb : List (Value × Value)) (i : Nat) : List (Value × Value) := if i = 0 then [] else if i = 1 then pa else pa ++ pb
def SkC (W : World) (r gk : Nat) (pa pb : List (Value × Value)) (s6 s8 s10 : Value) (wx : World) : Prop :=
 ∃ i k : Nat,s6 = .int .i64 (k : Int) ∧ s10 = .int .i64 (i : Int) ∧ i ≤ 2 ∧ k = (if i = 0 then 0 else if i = 1 then r else r + 1) ∧ gk = 2 - i ∧ OwnP W.heap.size wx s8 (skP pa pb i) ∧ Below W.heap.size W wx
def SkE (w : World) (bl r c : Nat) (pa pb : List (Value × Value)) (i : Nat) : Prop :=
 ∃ (ri : Nat) (ai : Option Addr) (li qi : Nat) (pi : List (Value × Value)),(∀ wx,Below w.heap.size w wx → wx.cell? ⟨bl,i * 3,none⟩ = some (.int .i64 (ri : Int)) ∧ wx.cell? ⟨bl,i * 3 + 1,none⟩ = some (.int .i64 (c : Int)) ∧ wx.cell? ⟨bl,i * 3 + 2,none⟩ = some (.slice ai li qi)) ∧
  Prs 0 w (.slice ai li qi) pi ∧ (∀ p ∈ pi,IsI p) ∧ ri ≤ 64 ∧ li = ri * c ∧ pi.length = li ∧ Hid ((i = 0 ∧ ri = r ∧ pi = pa) ∨ (i = 1 ∧ ri = 1 ∧ pi = pb))
theorem skE_all {w : World} {bl r c ka cap1 cap2 : Nat} {a1 a2 : Option Addr} {zs bs : List Int} {pa pb : List (Value × Value)} (hm : Cel w bl 24 [.int .i64 (r : Int),.int .i64 (c : Int),.slice a1 (r * c) cap1,.int .i64 1,.int .i64 (c : Int),.slice a2 c cap2])
  (ha : Prs 0 w (.slice a1 (r * c) cap1) pa) (hza : Zis w pa zs ka) (hzl : zs.length = r * c) (hb : Prs 0 w (.slice a2 c cap2) pb) (hzb : Zis w pb bs ka) (hbl : bs.length = c) (hr : r ≤ 64) : ∀ i,i < 2 → SkE w bl r c pa pb i := fun i hi => by
 have isi : ∀ {ps : List (Value × Value)} {ys : List Int},Zis w ps ys ka → ∀ p ∈ ps,IsI p := fun {ps ys} h p hp => by
  obtain ⟨j,hj,rfl⟩ := List.mem_iff_getElem.1 hp;exact (h.2 j _ (ys[j]'(by rw [← h.1];exact hj)) (List.getElem?_eq_getElem hj) (List.getElem?_eq_getElem _)).isI
 rcases (show i = 0 ∨ i = 1 by omega) with rfl | rfl
 ·refine ⟨r,a1,r * c,cap1,pa,fun wx h => ?_,ha,isi hza,hr,rfl,by rw [hza.1,hzl],.inl ⟨rfl,rfl,rfl⟩⟩
  exact ⟨(hm.step h).at (i := 0) rfl,(hm.step h).at (i := 1) rfl,(hm.step h).at (i := 2) rfl⟩
 ·refine ⟨1,a2,c,cap2,pb,fun wx h => ?_,hb,isi hzb,by omega,by omega,by rw [hzb.1,hbl],.inr ⟨rfl,rfl,rfl⟩⟩
  exact ⟨(hm.step h).at (i := 3) rfl,(hm.step h).at (i := 4) rfl,(hm.step h).at (i := 5) rfl⟩
theorem rstack12 {w : World} {bl r c ka cap1 cap2 : Nat} {a1 a2 : Option Addr} {zs bs : List Int} {pa pb : List (Value × Value)} (hm : Cel w bl 24 [.int .i64 (r : Int),.int .i64 (c : Int),.slice a1 (r * c) cap1,.int .i64 1,.int .i64 (c : Int),.slice a2 c cap2])
  (ha : Prs 0 w (.slice a1 (r * c) cap1) pa) (hza : Zis w pa zs ka) (hzl : zs.length = r * c) (hb : Prs 0 w (.slice a2 c cap2) pb) (hzb : Zis w pb bs ka) (hbl : bs.length = c) (hr : r < 64) (hc : c ≤ 64) (hk : ka ≤ 1099511627776) :
  Calls Tryz.prog 11 #[.slice (some ⟨bl,0,none⟩) 2 2] w (zRC w (r + 1) c (zs ++ bs) ka) := by
 have EL := hid (skE_all hm ha hza hzl hb hzb hbl (by omega));have HZ : Hid (Zis w (pa ++ pb) (zs ++ bs) ka) := by
  refine ⟨by rw [List.length_append,List.length_append,hza.1,hzb.1],fun j p z hp hz => ?_⟩;rcases Nat.lt_or_ge j pa.length with q | q
  ·rw [List.getElem?_append_left q] at hp
   rw [List.getElem?_append_left (by rw [← hza.1];exact q)] at hz;exact hza.2 j p z hp hz
  ·rw [List.getElem?_append_right q] at hp
   rw [List.getElem?_append_right (by rw [← hza.1];exact q),← hza.1] at hz;exact hzb.2 _ p z hp hz
 have hrc : (r + 1) * c ≤ 64 * 64 := Nat.mul_le_mul (by omega) hc;have HLA : Hid (pa.length = r * c ∧ pb.length = c ∧ (r + 1) * c = r * c + c ∧ (zs ++ bs).length = (r + 1) * c) := ⟨by rw [hza.1,hzl],by rw [hzb.1,hbl],by rw [Nat.add_mul,Nat.one_mul],by rw [List.length_append,hzl,hbl,Nat.add_mul,Nat.one_mul]⟩
 obtain ⟨W0,hW⟩ : ∃ W0,w.alloc mbox = W0 := ⟨_,rfl⟩
 obtain ⟨b0,sz0⟩ := alo1 w mbox;rw [hW] at b0 sz0;have PR := hid (zCF hW);have G0 := hid b0;have SZ := hid sz0;have HK := hid hk;have HRC := hid hrc;have HR := hid hr;have EW := hid hW;clear hm ha hza hzl hb hzb hbl b0 sz0 hW hk hrc hr;have H0 : Hid (SkA W0 2 (.int .i64 0) W0) := ⟨0,rfl,by omega,rfl,Below.refl _ _⟩
 go_enter Tryz.func11,Tryz.ntmps11;go_wp2_with fail;rw [EW.out];clear EW
 go_loopg [4] 2 (fun gk s4 wx => SkA W0 gk s4 wx)
 case atStart => exact H0.out
 case round =>
  clear H0;obtain ⟨i,rfl,hi,hg,hbx⟩ := hrel;have GX := hid hbx;have HG := hid hg;clear hbx hg
  by_cases hlt : i < 2
  ·have hlt' : (i : Int) < 2 := by omega
   have hw := zkA (i := i) (by omega);have HMM : Hid (2 - (i + 1) < gk) := by unfold Hid;rw [HG.out];omega
   obtain ⟨ri,ai,li,qi,pi,E1,E2,E3,E4,E5,E6,E7⟩ := EL.out i hlt;obtain ⟨x0,x1,x2⟩ := E1 wr (below_step G0.out GX.out);have HCK := hid (zgG (w := wr) (a := ai) (cap := qi) E4 hc E5);clear E1 E2 E3 E4 E5 E6 E7 HG;go_wp2_with fail;refine HCK.out.mono ?_;rintro e w1 ⟨rfl,b⟩;have HN1 : Hid (SkA W0 (2 - (i + 1)) (.int .i64 ((i + 1 : Nat) : Int)) w1) := ⟨i + 1,rfl,by omega,rfl,below_step GX.out b⟩
   clear x0 x1 x2 HCK GX b;go_wp2_with fail;go_roundg (2 - (i + 1))
   case rel => exact HN1.out
   case measure => exact HMM.out
  ·have hlt' : ¬ (i : Int) < 2 := by omega
   obtain ⟨Wb,hWb⟩ : ∃ Wb,wr = Wb := ⟨_,rfl⟩
   rw [hWb] at GX ⊢;have H1 : Hid (SkB Wb c 2 (.int .i64 0) (.int .i64 0) Wb) := ⟨0,0,rfl,rfl,by omega,.inl rfl,(fun q => by omega),rfl,Below.refl _ _⟩
   clear HG hWb hi;go_wp2_with fail
   go_loopg [7,9] 2 (fun gk s7 s9 wx => SkB Wb c gk s7 s9 wx)
   case atStart => exact H1.out
   case round =>
    clear H1 hlt hlt';obtain ⟨j,k,rfl,rfl,hj,hjk,hj2,hg,hbx⟩ := hrel;have GY := hid (below_step GX.out hbx);have GB := hid hbx;have HG := hid hg;have HJK := hid hjk;have HJ2 := hid hj2;clear hbx hg hjk hj2
    by_cases hlt : j < 2
    ·have hlt' : (j : Int) < 2 := by omega
     have hw := zkA (i := j) (by omega);have HMM : Hid (2 - (j + 1) < gk) := by unfold Hid;rw [HG.out];omega
     obtain ⟨ri,ai,li,qi,pi,E1,E2,E3,E4,E5,E6,E7⟩ := EL.out j hlt;obtain ⟨x0,x1,x2⟩ := E1 wr (below_step G0.out GY.out);have HN1 : Hid (SkB Wb c (2 - (j + 1)) (.int .i64 (c : Int)) (.int .i64 ((j + 1 : Nat) : Int)) wr) := ⟨j + 1,c,rfl,rfl,by omega,.inr rfl,(fun _ => rfl),rfl,GB.out⟩
     clear E1 E2 E3 E4 E5 E6 E7 HG
     by_cases h0 : j = 0
     ·have h0' : ¬ (0 : Int) < (j : Int) := by omega
      clear h0;go_wp2_with fail;go_roundg (2 - (j + 1))
      case rel => exact HN1.out
      case measure => exact HMM.out
     ·have h0' : (0 : Int) < (j : Int) := by omega
      obtain rfl : k = c := by rcases HJK.out with q | q;exact absurd q h0;exact q
      have hq : ((k : Int) != (k : Int)) = false := by simp
      clear h0;go_wp2_with fail;go_roundg (2 - (j + 1))
      case rel => exact HN1.out
      case measure => exact HMM.out
    ·have hlt' : ¬ (j : Int) < 2 := by omega
     obtain rfl : k = c := HJ2.out (by omega);obtain ⟨Wc,hWc⟩ : ∃ Wc,wr = Wc := ⟨_,rfl⟩
     rw [hWc] at GY ⊢;have H2 : Hid (SkC Wc r 2 pa pb (.int .i64 0) (.slice none 0 0) (.int .i64 0) Wc) := ⟨0,0,rfl,rfl,by omega,rfl,rfl,by simp [OwnP,skP,flat];exact World.ownsRow_nil _ _ _ _,Below.refl _ _⟩
     clear HG hWc hj GB GX HJK HJ2;go_wp2_with fail
     go_loopg [6,8,10] 2 (fun gk s6 s8 s10 wx => SkC Wc r gk pa pb s6 s8 s10 wx)
     case atStart => exact H2.out
     case round =>
      clear H2 hlt hlt';obtain ⟨h5,m,rfl,rfl,hh,hm,hg,ho,hbx⟩ := hrel;have GZ := hid (below_step GY.out hbx);have GB := hid hbx;have HG := hid hg;have HM := hid hm;have OW := hid ho;clear hbx hg hm ho
      by_cases hlt : h5 < 2
      ·have hlt' : (h5 : Int) < 2 := by omega
       have hw := zkA (i := h5) (by omega);have HMM : Hid (2 - (h5 + 1) < gk) := by unfold Hid;rw [HG.out];omega
       obtain ⟨ri,ai,li,qi,pi,E1,E2,E3,E4,E5,E6,E7⟩ := EL.out h5 hlt;obtain ⟨x0,x1,x2⟩ := E1 wr (below_step G0.out GZ.out);have PU := hid (E2.now (below_step G0.out GZ.out));have PI := hid E3;obtain ⟨m2,hm2⟩ : ∃ m2,m + ri = m2 := ⟨_,rfl⟩
       have HML : Hid (m2 = (if h5 + 1 = 0 then 0 else if h5 + 1 = 1 then r else r + 1) ∧ m2 ≤ 64 ∧ skP pa pb h5 ++ pi = skP pa pb (h5 + 1) ∧ (skP pa pb h5).length + pi.length ≤ 1048576) := by
        unfold Hid;have h1 := HM.out;obtain ⟨q1,q2,q3,-⟩ := HLA.out;have := HRC.out;have := HR.out;rcases E7.out with ⟨rfl,rfl,rfl⟩ | ⟨rfl,rfl,rfl⟩
        ·simp at h1
         subst h1;simp [skP] at hm2 ⊢;omega
        ·simp at h1
         subst h1;simp [skP] at hm2 ⊢;omega
       have hs : IntKind.i64.wrap ((m : Int) + (ri : Int)) = (m2 : Int) := by rw [zRA] <;> (have := HML.out;omega)
       have hs64 : ¬ (64 : Int) < (m2 : Int) := by have := HML.out;omega
       have HOB := GB;clear E1 E2 E3 E4 E5 E6 E7 HG HM hm2;go_wp2_with (at_builtin;refine wpList_append_pairs _ rfl (.tmp 65) (.tmp 70) rfl Wc.heap.size _ _ (skP pa pb h5) pi rfl OW.out rfl 0 PU.out PI.out HML.out.2.2.2 GB.out.size ?_)
       intro v2 w2 ho2 hg2;rw [HML.out.2.2.1] at ho2;have HN1 : Hid (SkC Wc r (2 - (h5 + 1)) pa pb (.int .i64 (m2 : Int)) v2 (.int .i64 ((h5 + 1 : Nat) : Int)) w2) := ⟨h5 + 1,m2,rfl,rfl,by omega,HML.out.1,rfl,ho2,grown_below (B := 0) GB.out OW.out hg2.out⟩
       clear OW GB HOB PU PI ho2 hg2 x0 x1 x2;go_wp2_with fail;go_roundg (2 - (h5 + 1))
       case rel => exact HN1.out
       case measure => exact HMM.out
      ·have hlt' : ¬ (h5 : Int) < 2 := by omega
       obtain rfl : h5 = 2 := by omega
       obtain rfl : m = r + 1 := by simpa using HM.out
       have hsk : skP pa pb 2 = pa ++ pb := by simp [skP]
       rw [hsk] at OW;have GZ2 := hid (below_step G0.out GZ.out);have hpl : (pa ++ pb).length ≤ 1048576 := by have := HLA.out;have := HRC.out;rw [List.length_append];omega
       have HMK := hid (rmake12 ((owns_prs OW.out hpl).mono (Nat.zero_le _)) (HZ.out.now GZ2.out) HLA.out.2.2.2 (by have := HR.out;omega) hc HK.out);have PRZ := hid (PR.out.step GZ.out);clear OW GB HG HM GZ hsk hpl PR;go_wp2_with fail;refine HMK.out.mono ?_;rintro e w3 ⟨v3,rfl,hm3,b3⟩;obtain ⟨a3,q3,rfl,-,-⟩ := hm3.mx.form;obtain ⟨l3,hl3⟩ : ∃ l3,(r + 1) * k = l3 := ⟨_,rfl⟩
       rw [hl3] at hm3 ⊢;obtain ⟨r3,hr3⟩ : ∃ r3,r + 1 = r3 := ⟨_,rfl⟩
       rw [hr3] at hm3 ⊢;have PR3 := hid (PRZ.out.step b3);have r0 := PR3.out.at (i := 0) rfl;have r1 := PR3.out.at (i := 1) rfl;have r2 := PR3.out.at (i := 2) rfl;have f0 := PR3.out.fz 0;have f1 := PR3.out.fz 1;have f2 := PR3.out.fz 2;have FIN : Hid (zRC w (r + 1) k (zs ++ bs) ka (.returned (.tuple #[.agg #[.int .i64 (r3 : Int),.int .i64 (k : Int),.slice a3 l3 q3],.int .i64 0])) (put3 w3 w.heap.size (.int .i64 (r3 : Int)) (.int .i64 (k : Int)) (.slice a3 l3 q3))) :=
        by
         unfold Hid;rw [hr3];exact ⟨_,rfl,hm3.wk PR3.out _ _ _,zgA (below_step GZ2.out b3) (Nat.le_refl _) _ _ _⟩
       have PF := hid (PR3.out.put3 (.int .i64 (r3 : Int)) (.int .i64 (k : Int)) (.slice a3 l3 q3));clear HMK hm3 b3 PRZ PR3 GZ2;go_wp2;exact bodyPost_ret (zeH Tryz.results11 PF.out _ (by rfl) (by rfl)) rfl FIN.out
end Go.Proofs.YtkklldokdnfkgaaGreat
