import Derived.Test.YtffkmeocmjohmaaGreatQLo17ToOn17
import Derived.Test.YtffkmeocmjohmaaGreatQFo17
import Derived.Test.YtffkmeocmjohmaaGreatQDim17ToCf8
set_option maxRecDepth 100000
set_option maxHeartbeats 6400000
set_option linter.unusedVariables false
set_option linter.unusedSimpArgs false
namespace Go.Proofs.YtffkmeocmjohmaaGreat
open Go.RowKit
open Q17 (Rref dlt)
structure EcJ (w : World) (bq r c : Nat) (a : Option Addr) (l cap : Nat) (R : Nat → Rat) (k B : Nat) (va : Option Addr) (pl vc : Nat) (pv : List Nat) (wx : World) : Prop where
 q : Cel wx bq 24 [.int .i64 (r : Int),.int .i64 (c : Int),.slice a l cap]
 v : Qc wx (.slice a l cap) l R k
 p : Ivs B wx (.slice va pl vc) pv
 b : Below w.heap.size w wx
theorem EcJ.now {w : World} {bq r c : Nat} {a : Option Addr} {l cap : Nat} {R : Nat → Rat} {k B : Nat} {va : Option Addr} {pl vc : Nat} {pv : List Nat} {wx wy : World} (h : EcJ w bq r c a l cap R k B va pl vc pv wx) (hb : Below wx.heap.size wx wy) : EcJ w bq r c a l cap R k B va pl vc pv wy :=
 ⟨h.q.step hb,h.v.now hb,h.p.now hb,zAA h.b hb⟩
theorem Q17.Rref.first {r c : Nat} {M : Nat → Nat → Rat} {pv : List Nat} (h : Rref r c M pv) {i : Nat} (hi : i < r) : ∃ F,F ≤ c ∧ (∀ j,j < F → M i j = 0) ∧ ((F = c ∧ pv.length ≤ i) ∨ (F < c ∧ i < pv.length ∧ pv.getD i 0 = F ∧ M i F = 1 ∧ (∀ t,t < r → t ≠ i → M t F = 0) ∧ (0 < i → pv.getD (i - 1) 0 < F))) := by
 by_cases q : i < pv.length
 ·have e : pv[i]? = some (pv.getD i 0) := by simp [q]
  have hlt := h.lt i _ e;refine ⟨pv.getD i 0,Nat.le_of_lt hlt,fun j hj => h.low i _ j e hj,.inr ⟨hlt,q,rfl,?_,fun t ht hne => ?_,fun h0 => ?_⟩⟩
  ·rw [h.one i _ i e hi];unfold dlt;rw [if_pos rfl]
  ·rw [h.one i _ t e ht];unfold dlt;rw [if_neg hne]
  ·have e' : pv[i - 1]? = some (pv.getD (i - 1) 0) := by simp [show i - 1 < pv.length by omega]
   exact h.inc (i - 1) i _ _ (by omega) e' e
 ·exact ⟨c,Nat.le_refl _,fun j hj => h.zer i j (by omega) hi hj,.inl ⟨rfl,by omega⟩⟩
theorem echelon17 {w : World} {r c : Nat} {a : Option Addr} {l cap k B : Nat} {R : Nat → Rat} {va : Option Addr} {pl vc : Nat} {pv : List Nat} (hv : Qc w (.slice a l cap) l R k) (hl : l = r * c) (hr : r ≤ 64) (hc : c ≤ 64) (hk : k ≤ 68719476736) (hR : Rref r c (fun i j => R (i * c + j)) pv) (hI : Ivs B w (.slice va pl vc) pv) (hp : pv.length = pl) :
  Calls Tryz.prog 8 #[qmv r c (.slice a l cap),.slice va pl vc] w fun e w' => e = .returned (.bool true) ∧ Below w.heap.size w w' := by
 show Calls Tryz.prog 8 #[.agg #[.int .i64 (r : Int),.int .i64 (c : Int),.slice a l cap],.slice va pl vc] w _
 obtain ⟨W0,hW⟩ : ∃ W0,w.alloc (.cells #[.int .i64 (r : Int),.int .i64 (c : Int),.slice a l cap] 24) = W0 := ⟨_,rfl⟩
 obtain ⟨b0,sz0⟩ := alo1 w (.cells #[.int .i64 (r : Int),.int .i64 (c : Int),.slice a l cap] 24);rw [hW] at b0 sz0;have CQ : Cel W0 w.heap.size 24 [.int .i64 (r : Int),.int .i64 (c : Int),.slice a l cap] := by rw [← hW];exact Cel.new w _ _
 have J0 : Hid (EcJ w w.heap.size r c a l cap R k B va pl vc pv W0) := ⟨CQ,hv.now b0,hI.now b0,b0⟩
 have HLO := hid (lowest17 (hv.now b0) hk);have x0 := CQ.at (i := 0) rfl;have x1 := CQ.at (i := 1) rfl;have x2 := CQ.at (i := 2) rfl;rw [← hW] at x0 x1 x2;have EW := hid hW;have HRR := hid hR;have HPL := hid hp;have HL := hid hl;have hpr : pl ≤ r := by have := hR.len;omega
 have hr0 : ¬ (r : Int) < 0 := by omega
 have hc0 : ¬ (c : Int) < 0 := by omega
 have hr1 : ¬ (64 : Int) < (r : Int) := by omega
 have hc1 : ¬ (64 : Int) < (c : Int) := by omega
 have hm : IntKind.i64.wrap ((r : Int) * (c : Int)) = (l : Int) := by
  have h1 : l ≤ 64 * 64 := by rw [hl];exact Nat.mul_le_mul hr hc
  rw [← Int.natCast_mul,← hl,zmA] <;> omega
 have hpg : ¬ r < pl := by omega
 clear hv hl hR hI hp b0 sz0 hW CQ;go_enter Tryz.func8,Tryz.ntmps8;go_wp2_with fail;rw [EW.out];refine HLO.out.mono ?_;rintro e w1 ⟨rfl,b1⟩;obtain ⟨bq,hbq⟩ : ∃ bq,w.heap.size = bq := ⟨_,rfl⟩
 rw [hbq] at J0 x0 x1 x2 ⊢;have J1 := hid (J0.out.now b1);have EQ := hid hbq;have y0 := J1.out.q.at (i := 0) rfl;have H0 : Hid (∃ i : Nat,Value.int .i64 0 = .int .i64 (i : Int) ∧ i ≤ r ∧ r = r - i ∧ EcJ w bq r c a l cap R k B va pl vc pv w1) := ⟨0,rfl,Nat.zero_le _,rfl,J1.out⟩
 clear HLO b1 J0 EW x0 x1 x2 hm hbq J1;go_wp2_with fail;clear y0
 go_loopg [5] r (fun gk s5 wx => ∃ i : Nat,s5 = .int .i64 (i : Int) ∧ i ≤ r ∧ gk = r - i ∧ EcJ w bq r c a l cap R k B va pl vc pv wx)
 case atStart => exact H0.out
 case round =>
  clear H0;obtain ⟨i,rfl,hir,rfl,hJ⟩ := hrel;have J := hid hJ;have y0 := hJ.q.at (i := 0) rfl;clear hJ
  by_cases hlt : i < r
  ·have hlt' : (i : Int) < (r : Int) := by omega
   have hwi := zVA (i := i) (by omega);obtain ⟨F,hFc,hZ,hF⟩ := HRR.out.first hlt;have HZ := hid hZ;have HF := hid hF;have HMO : Hid (r - (i + 1) < r - i) := by unfold Hid;omega
   have H0 : Hid (∃ f : Nat,Value.int .i64 0 = .int .i64 (f : Int) ∧ f ≤ F ∧ F = F - f ∧ EcJ w bq r c a l cap R k B va pl vc pv wr) := ⟨0,rfl,Nat.zero_le _,rfl,J.out⟩
   clear hZ hF J;go_wp2_with fail;clear y0
   go_loopg [6] F (fun gk s6 wx => ∃ f : Nat,s6 = .int .i64 (f : Int) ∧ f ≤ F ∧ gk = F - f ∧ EcJ w bq r c a l cap R k B va pl vc pv wx)
   case atStart => exact H0.out
   case round =>
    clear H0;obtain ⟨f,rfl,hfF,rfl,hJ⟩ := hrel;have J := hid hJ;have y0 := hJ.q.at (i := 0) rfl;have y1 := hJ.q.at (i := 1) rfl;have y2 := hJ.q.at (i := 2) rfl;clear hJ
    by_cases hff : f < F
    ·have hfc : f < c := by omega
     have hfc' : (f : Int) < (c : Int) := by omega
     have hwf := zVA (i := f) (by omega);have hix : i * c + f < l := by rw [HL.out];exact zeA hlt hfc
     have HAT := hid (at17 (r := (r : Int)) J.out.v.qs (i := i) (j := f) (by omega) hc hix (by omega));have HN0 : Hid ((R (i * c + f)).num = 0) := by unfold Hid;rw [HZ.out f hff];rfl
     have HMM : Hid (F - (f + 1) < F - f) := by unfold Hid;omega
     clear hix;go_wp2_with fail;refine HAT.out.mono ?_;rintro e w2 ⟨n1,a1,l1,c1,n2,a2,l2,c2,rfl,hz1,hz2,b2⟩;have J2 := hid (J.out.now b2);have HZE := hid (ztF (n2 := n2) (a2 := a2) (l2 := l2) (c2 := c2) hz1);clear hz1 hz2 b2 HAT J y0 y1 y2;go_wp2_with fail;refine HZE.out.mono ?_;rintro e w3 ⟨bb,rfl,hbb,b3⟩;obtain rfl : bb = true := hbb.2 HN0.out;have HN1 : Hid (∃ f' : Nat,Value.int .i64 ((f + 1 : Nat) : Int) = .int .i64 (f' : Int) ∧ f' ≤ F ∧ F - (f + 1) = F - f' ∧ EcJ w bq r c a l cap R k B va pl vc pv w3) := ⟨f + 1,rfl,by omega,rfl,J2.out.now b3⟩
     clear hbb b3 HZE J2 HN0;go_wp2_with fail;go_roundg (F - (f + 1))
     case rel => exact HN1.out
     case measure => exact HMM.out
    ·obtain rfl : f = F := by omega
     rcases HF.out with ⟨hE,hpi⟩ | ⟨hE,hpi,hpv,h1v,hzs,hprev⟩
     ·have hfc' : ¬ (f : Int) < (c : Int) := by omega
      have hge : (pl : Int) ≤ (i : Int) := by have := HPL.out;omega
      have HN1 : Hid (∃ i' : Nat,Value.int .i64 ((i + 1 : Nat) : Int) = .int .i64 (i' : Int) ∧ i' ≤ r ∧ r - (i + 1) = r - i' ∧ EcJ w bq r c a l cap R k B va pl vc pv wr) := ⟨i + 1,rfl,by omega,rfl,J.out⟩
      clear J HZ HF hE hpi;go_wp2_with fail;go_roundg (r - (i + 1))
      case rel => exact HN1.out
      case measure => exact HMO.out
     ·have hfc' : (f : Int) < (c : Int) := by omega
      have hix : i * c + f < l := by rw [HL.out];exact zeA hlt hE
      have HAT := hid (at17 (r := (r : Int)) J.out.v.qs (i := i) (j := f) (by omega) hc hix (by omega));have HN0 : Hid (R (i * c + f) = 1) := h1v;have HZS := hid hzs;have hge : ¬ (pl : Int) ≤ (i : Int) := by have := HPL.out;omega
      have hipl : i < pl := by have := HPL.out;omega
      obtain ⟨vb,rfl⟩ : ∃ vb,va = some ⟨vb,0,none⟩ := by
       obtain ⟨a',cap',e1,e2,e3⟩ := J.out.p.form;obtain ⟨g',e4⟩ := e3 (by omega);simp only [Value.slice.injEq] at e1;exact ⟨g',by rw [e1.1,e4]⟩
      have HPV := hid hpv;have HPR := hid hprev;have HIX := hid hix;clear hix h1v hzs hpi hpv hprev HF HZ;go_wp2_with fail;refine HAT.out.mono ?_;rintro e w2 ⟨n1,a1,l1,c1,n2,a2,l2,c2,rfl,hz1,hz2,b2⟩;have J2 := hid (J.out.now b2);have HZE := hid (ztF (n2 := n2) (a2 := a2) (l2 := l2) (c2 := c2) hz1);clear hz1 hz2 b2 HAT J y0 y1 y2;go_wp2_with fail;refine HZE.out.mono ?_;rintro e w3 ⟨bb,rfl,hbb,b3⟩;obtain rfl : bb = false := by
       cases bb
       ·rfl
       ·have := hbb.1 rfl
        rw [HN0.out] at this;exact absurd this (by decide)
      have J3 := hid (J2.out.now b3);have y1 := J3.out.q.at (i := 1) rfl;clear hbb b3 HZE J2;go_wp2_with fail;have y0 := J3.out.q.at (i := 0) rfl;have y2 := J3.out.q.at (i := 2) rfl;have v0 := J3.out.p.at (i := i) (by rw [HPL.out];exact hipl);rw [HPV.out] at v0;have hne : ((f : Int) == (c : Int)) = false := by simp;omega
      have hne' : ¬ (f : Int) = (c : Int) := by omega
      have HA2 : Hid (∀ {w' : World},Below w3.heap.size w3 w' → Calls Tryz.prog 30 #[(.agg #[.int .i64 (r : Int),.int .i64 (c : Int),.slice a l cap]),.int .i64 (i : Int),.int .i64 (f : Int)] w' (Atd w' (R (i * c + f)).num ((R (i * c + f)).den : Int) k)) := fun h => at17 (r := (r : Int)) (J3.out.v.now h).qs (i := i) (j := f) (by omega) hc HIX.out (by omega)
      by_cases hi0 : i = 0
      ·have HI0 := hid hi0
       have hgt : ¬ (0 : Int) < (i : Int) := by omega
       have hgn : (0 < i) = False := by simp [hi0]
       clear hi0;have KB : Hid (∀ w',Below w3.heap.size w3 w' → w'.cell? ⟨bq,0,none⟩ = some (.int .i64 (r : Int)) ∧ w'.cell? ⟨bq,1,none⟩ = some (.int .i64 (c : Int)) ∧ w'.cell? ⟨bq,2,none⟩ = some (.slice a l cap) ∧ w'.cell? ⟨vb,i,none⟩ = some (.int .i64 (f : Int))) := fun w' h => ⟨cnow h y0,cnow h y1,cnow h y2,cnow h v0⟩
       refine zFA (fun w' => w'.cell? ⟨bq,0,none⟩ = some (.int .i64 (r : Int)) ∧ w'.cell? ⟨bq,1,none⟩ = some (.int .i64 (c : Int)) ∧ w'.cell? ⟨bq,2,none⟩ = some (.slice a l cap) ∧ w'.cell? ⟨vb,i,none⟩ = some (.int .i64 (f : Int))) 35 (by kernel_rfl) ?_;obtain ⟨D81,hD⟩ : ∃ D81,w3.drew = D81 := ⟨_,rfl⟩
       have GB : Hid (Below w3.heap.size w3 D81) := by unfold Hid;rw [← hD];exact (Below.refl _ _).drew
       rw [hD];clear hD;refine zDA [(0,(.int .i64 (f : Int))),(1,(.pointer (some ⟨bq,1,none⟩))),(2,(.int .i64 (c : Int))),(3,(.bool false)),(4,(.bool false)),(5,(.int .i64 (f : Int))),(6,(.slice (some ⟨vb,0,none⟩) pl vc)),(7,(.int .i64 (i : Int))),(8,(.pointer (some ⟨vb,i,none⟩))),(9,(.int .i64 (f : Int))),(10,(.bool false)),(11,(.bool false)),(12,(.bool false)),(13,(.agg #[.int .i64 (r : Int),.int .i64 (c : Int),.slice a l cap])),(14,(.int .i64 (i : Int))),(15,(.int .i64 (f : Int)))] 16 ?_ (KB.out _ GB.out) ?_
       ·simp only [zJA,gA9,g09,g19,Act.put,sI9,s09,s19];(repeat' (first | exact trivial | refine And.intro (Or.inl ⟨by rfl,?_⟩) ?_)) <;> (intro w hSw;(try dsimp only at hSw);go_simp)
       simp only [actV,gA9,g09,g19,Act.put,sI9,s09,s19];refine zBA (i := 16) (o := ⟨some 93,.call { callee := .value (.func 30),args := #[.tmp 90,.tmp 91,.tmp 92],argTypes := #[24,3,3] },47, "outright.go:57",#[⟨13,.data⟩,⟨14,.data⟩,⟨15,.data⟩,⟨12,.chain⟩,⟨12,.guard⟩],some (12,false)⟩) (by kernel_rfl) rfl (fun K hK => ?_);go_simp;go_at_call 30;refine (HA2.out GB.out).mono ?_;rintro e w82 ⟨n3,a3,l3,c3,n4,a4,l4,c4,rfl,hz1,hz2,b⟩;have lz82 := (show Below _ _ _ from b).size;replace GB := hid (zAA GB.out b);have ZA := hid (And.intro hz1 hz2);clear hz1 hz2;clear b;refine hK.out _ _ (fun _ => KB.out _ GB.out) ?_;clear hK;refine zBA (i := 17) (o := ⟨some 94,.call { callee := .value (.func 31),args := #[.tmp 93],argTypes := #[47] },4, "outright.go:57",#[⟨16,.data⟩,⟨16,.chain⟩,⟨12,.guard⟩],some (12,false)⟩) (by kernel_rfl) rfl (fun K hK => ?_);go_simp;go_at_call 31;refine (zhI (by have h := ZA.out.1;rw [HN0.out] at h;exact h) (by have h := ZA.out.2;rw [HN0.out] at h;exact h)).mono ?_;rintro e w83 ⟨rfl,b⟩;have lz83 := (show Below _ _ _ from b).size;replace GB := hid (zAA GB.out b);clear ZA;clear b;refine hK.out _ _ (fun _ => KB.out _ GB.out) ?_;clear hK;refine zDA [(18,(.bool false)),(19,(.bool false)),(20,(.bool false)),(21,(.int .i64 (i : Int))),(22,(.bool false)),(23,(.bool false))] 6 ?_ (KB.out _ GB.out) ?_
       ·simp only [zJA,gA9,g09,g19,Act.put,sI9,s09,s19];(repeat' (first | exact trivial | refine And.intro (Or.inl ⟨by rfl,?_⟩) ?_)) <;> (intro w hSw;(try dsimp only at hSw);go_simp)
       simp only [actV,gA9,g09,g19,Act.put,sI9,s09,s19];refine zCA (i := 24) (oi := ⟨some 101,.move (.tmp 1),26, "outright.go:57",#[⟨23,.guard⟩],some (23,true)⟩) (v := undef) rfl (by kernel_rfl) (fun _ _ _ h => h) (Or.inr ⟨by rfl,rfl⟩) (KB.out _ GB.out) ?_;simp only [Act.put,sIb,sC0,sC1];refine zCA (i := 25) (oi := ⟨some 102,.move (.tmp 5),3, "outright.go:57",#[⟨23,.guard⟩],some (23,true)⟩) (v := undef) rfl (by kernel_rfl) (fun _ _ _ h => h) (Or.inr ⟨by rfl,rfl⟩) (KB.out _ GB.out) ?_;simp only [Act.put,sIb,sC0,sC1];refine zCA (i := 26) (oi := ⟨some 103,.indexAddr 26 (.tmp 101) (.tmp 102),0, "outright.go:57",#[⟨24,.data⟩,⟨25,.data⟩,⟨23,.guard⟩],some (23,true)⟩) (v := undef) rfl (by kernel_rfl) (fun _ _ _ h => h) (Or.inr ⟨by rfl,rfl⟩) (KB.out _ GB.out) ?_;simp only [Act.put,sIb,sC0,sC1];refine zCA (i := 27) (oi := ⟨some 104,.load 3 (.tmp 103),3, "outright.go:57",#[⟨26,.data⟩,⟨23,.guard⟩],some (23,true)⟩) (v := undef) rfl (by kernel_rfl) (fun _ _ _ h => h) (Or.inr ⟨by rfl,rfl⟩) (KB.out _ GB.out) ?_;simp only [Act.put,sIb,sC0,sC1];refine zCA (i := 28) (oi := ⟨some 105,.move (.tmp 1),26, "outright.go:57",#[⟨23,.guard⟩],some (23,true)⟩) (v := undef) rfl (by kernel_rfl) (fun _ _ _ h => h) (Or.inr ⟨by rfl,rfl⟩) (KB.out _ GB.out) ?_;simp only [Act.put,sIb,sC0,sC1];refine zCA (i := 29) (oi := ⟨some 106,.move (.tmp 5),3, "outright.go:57",#[⟨23,.guard⟩],some (23,true)⟩) (v := undef) rfl (by kernel_rfl) (fun _ _ _ h => h) (Or.inr ⟨by rfl,rfl⟩) (KB.out _ GB.out) ?_;simp only [Act.put,sIb,sC0,sC1];refine zCA (i := 30) (oi := ⟨some 107,.binOp .sub 3 (.tmp 106) (.const (.int .i64 1)) 3,3, "outright.go:57",#[⟨29,.data⟩,⟨23,.guard⟩],some (23,true)⟩) (v := undef) rfl (by kernel_rfl) (fun _ _ _ h => h) (Or.inr ⟨by rfl,rfl⟩) (KB.out _ GB.out) ?_;simp only [Act.put,sIb,sC0,sC1];refine zCA (i := 31) (oi := ⟨some 108,.indexAddr 26 (.tmp 105) (.tmp 107),0, "outright.go:57",#[⟨28,.data⟩,⟨30,.data⟩,⟨23,.guard⟩],some (23,true)⟩) (v := undef) rfl (by kernel_rfl) (fun _ _ _ h => h) (Or.inr ⟨by rfl,rfl⟩) (KB.out _ GB.out) ?_;simp only [Act.put,sIb,sC0,sC1];refine zCA (i := 32) (oi := ⟨some 109,.load 3 (.tmp 108),3, "outright.go:57",#[⟨31,.data⟩,⟨23,.guard⟩],some (23,true)⟩) (v := undef) rfl (by kernel_rfl) (fun _ _ _ h => h) (Or.inr ⟨by rfl,rfl⟩) (KB.out _ GB.out) ?_;simp only [Act.put,sIb,sC0,sC1];refine zCA (i := 33) (oi := ⟨some 110,.binOp .leq 3 (.tmp 104) (.tmp 109) 3,4, "outright.go:57",#[⟨27,.data⟩,⟨32,.data⟩,⟨23,.guard⟩],some (23,true)⟩) (v := undef) rfl (by kernel_rfl) (fun _ _ _ h => h) (Or.inr ⟨by rfl,rfl⟩) (KB.out _ GB.out) ?_;simp only [Act.put,sIb,sC0,sC1];refine zDA [(34,(.bool false))] 1 ?_ (KB.out _ GB.out) ?_
       ·simp only [zJA,gA9,g09,g19,Act.put,sI9,s09,s19];(repeat' (first | exact trivial | refine And.intro (Or.inl ⟨by rfl,?_⟩) ?_)) <;> (intro w hSw;(try dsimp only at hSw);go_simp)
       simp only [actV,gA9,g09,g19,Act.put,sI9,s09,s19];refine zBA (i := 35) (o := ⟨some 112,.pick (.tmp 97) (.const (.bool true)) (.tmp 111),4, "outright.go:57",#[⟨20,.data⟩,⟨34,.data⟩],none⟩) (by kernel_rfl) rfl (fun K hK => ?_);go_simp;refine hK.out _ _ (fun h => absurd h (by decide)) ?_;clear hK
       try simp only [Act.put]
       refine zEA (by kernel_rfl) ?_ _;have J4 := hid (J3.out.now GB.out);have y0' := J4.out.q.at (i := 0) rfl;have H0 : Hid (∃ t : Nat,Value.int .i64 0 = .int .i64 (t : Int) ∧ t ≤ r ∧ r = r - t ∧ EcJ w bq r c a l cap R k B (some ⟨vb,0,none⟩) pl vc pv w83) := ⟨0,rfl,Nat.zero_le _,rfl,J4.out⟩
       clear GB KB J3 J4 y0 y1 y2 v0 HA2 ;go_wp2_with fail;clear y0'
       go_loopg [7] r (fun gk s7 wx => ∃ t : Nat,s7 = .int .i64 (t : Int) ∧ t ≤ r ∧ gk = r - t ∧ EcJ w bq r c a l cap R k B (some ⟨vb,0,none⟩) pl vc pv wx)
       case atStart => exact H0.out
       case round =>
        clear H0;obtain ⟨t,rfl,htr,rfl,hJ⟩ := hrel;have J := hid hJ;have y0 := hJ.q.at (i := 0) rfl;have y1 := hJ.q.at (i := 1) rfl;have y2 := hJ.q.at (i := 2) rfl;clear hJ
        by_cases htl : t < r
        ·have htl' : (t : Int) < (r : Int) := by omega
         have hwt := zVA (i := t) (by omega);have HMM : Hid (r - (t + 1) < r - t) := by unfold Hid;omega
         by_cases hti : t = i
         ·subst hti
          have HN1 : Hid (∃ t' : Nat,Value.int .i64 ((t + 1 : Nat) : Int) = .int .i64 (t' : Int) ∧ t' ≤ r ∧ r - (t + 1) = r - t' ∧ EcJ w bq r c a l cap R k B (some ⟨vb,0,none⟩) pl vc pv wr) := ⟨t + 1,rfl,by omega,rfl,J.out⟩
          clear J;go_wp2_with fail;go_roundg (r - (t + 1))
          case rel => exact HN1.out
          case measure => exact HMM.out
         ·have hte : ¬ (t : Int) = (i : Int) := by omega
          have htb : ((t : Int) != (i : Int)) = true := by simp;omega
          have hix : t * c + f < l := by rw [HL.out];exact zeA htl hE
          have HAT := hid (at17 (r := (r : Int)) J.out.v.qs (i := t) (j := f) (by omega) hc hix (by omega));have HN2 : Hid ((R (t * c + f)).num = 0) := by unfold Hid;rw [HZS.out t htl hti];rfl
          clear hix hti;go_wp2_with fail;refine HAT.out.mono ?_;rintro e w7 ⟨m1,o1,p1,q1,m2,o2,p2,q2,rfl,hz1,hz2,b2⟩;have J2 := hid (J.out.now b2);have HZE := hid (ztF (n2 := m2) (a2 := o2) (l2 := p2) (c2 := q2) hz1);clear hz1 hz2 b2 HAT J y0 y1 y2;go_wp2_with fail;refine HZE.out.mono ?_;rintro e w8 ⟨bb,rfl,hbb,b3⟩;obtain rfl : bb = true := hbb.2 HN2.out;have HN1 : Hid (∃ t' : Nat,Value.int .i64 ((t + 1 : Nat) : Int) = .int .i64 (t' : Int) ∧ t' ≤ r ∧ r - (t + 1) = r - t' ∧ EcJ w bq r c a l cap R k B (some ⟨vb,0,none⟩) pl vc pv w8) := ⟨t + 1,rfl,by omega,rfl,J2.out.now b3⟩
          clear hbb b3 HZE J2 HN2;go_wp2_with fail;go_roundg (r - (t + 1))
          case rel => exact HN1.out
          case measure => exact HMM.out
        ·have htl' : ¬ (t : Int) < (r : Int) := by omega
         have HN1 : Hid (∃ i' : Nat,Value.int .i64 ((i + 1 : Nat) : Int) = .int .i64 (i' : Int) ∧ i' ≤ r ∧ r - (i + 1) = r - i' ∧ EcJ w bq r c a l cap R k B (some ⟨vb,0,none⟩) pl vc pv wr) := ⟨i + 1,rfl,by omega,rfl,J.out⟩
         clear J HZS;go_wp2_with fail;go_roundg (r - (i + 1))
         case rel => exact HN1.out
         case measure => exact HMO.out
      ·obtain ⟨s,hs⟩ : ∃ s,i - 1 = s := ⟨_,rfl⟩
       have hgt : (0 : Int) < (i : Int) := by omega
       have hgn : 0 < i := by omega
       have hws : IntKind.i64.wrap ((i : Int) - 1) = (s : Int) := by rw [zmA] <;> omega
       have v1 := J3.out.p.at (i := s) (by rw [HPL.out];omega);obtain ⟨g,hg⟩ : ∃ g,pv.getD s 0 = g := ⟨_,rfl⟩
       rw [hg] at v1;have hgf : ¬ (f : Int) ≤ (g : Int) := by have := HPR.out (by omega);rw [hs,hg] at this;omega
       have hspl : s < pl := by omega
       have HS := hid hs;clear hs hg hi0;have KB : Hid (∀ w',Below w3.heap.size w3 w' → w'.cell? ⟨bq,0,none⟩ = some (.int .i64 (r : Int)) ∧ w'.cell? ⟨bq,1,none⟩ = some (.int .i64 (c : Int)) ∧ w'.cell? ⟨bq,2,none⟩ = some (.slice a l cap) ∧ w'.cell? ⟨vb,i,none⟩ = some (.int .i64 (f : Int)) ∧ w'.cell? ⟨vb,s,none⟩ = some (.int .i64 (g : Int))) := fun w' h => ⟨cnow h y0,cnow h y1,cnow h y2,cnow h v0,cnow h v1⟩
       refine zFA (fun w' => w'.cell? ⟨bq,0,none⟩ = some (.int .i64 (r : Int)) ∧ w'.cell? ⟨bq,1,none⟩ = some (.int .i64 (c : Int)) ∧ w'.cell? ⟨bq,2,none⟩ = some (.slice a l cap) ∧ w'.cell? ⟨vb,i,none⟩ = some (.int .i64 (f : Int)) ∧ w'.cell? ⟨vb,s,none⟩ = some (.int .i64 (g : Int))) 35 (by kernel_rfl) ?_;obtain ⟨D61,hD⟩ : ∃ D61,w3.drew = D61 := ⟨_,rfl⟩
       have GB : Hid (Below w3.heap.size w3 D61) := by unfold Hid;rw [← hD];exact (Below.refl _ _).drew
       rw [hD];clear hD;refine zDA [(0,(.int .i64 (f : Int))),(1,(.pointer (some ⟨bq,1,none⟩))),(2,(.int .i64 (c : Int))),(3,(.bool false)),(4,(.bool false)),(5,(.int .i64 (f : Int))),(6,(.slice (some ⟨vb,0,none⟩) pl vc)),(7,(.int .i64 (i : Int))),(8,(.pointer (some ⟨vb,i,none⟩))),(9,(.int .i64 (f : Int))),(10,(.bool false)),(11,(.bool false)),(12,(.bool false)),(13,(.agg #[.int .i64 (r : Int),.int .i64 (c : Int),.slice a l cap])),(14,(.int .i64 (i : Int))),(15,(.int .i64 (f : Int)))] 16 ?_ (KB.out _ GB.out) ?_
       ·simp only [zJA,gA9,g09,g19,Act.put,sI9,s09,s19]
        (repeat' (first | exact trivial | refine And.intro (Or.inl ⟨by rfl,?_⟩) ?_)) <;> (intro w hSw;(try dsimp only at hSw);go_simp)
       simp only [actV,gA9,g09,g19,Act.put,sI9,s09,s19];refine zBA (i := 16) (o := ⟨some 93,.call { callee := .value (.func 30),args := #[.tmp 90,.tmp 91,.tmp 92],argTypes := #[24,3,3] },47, "outright.go:57",#[⟨13,.data⟩,⟨14,.data⟩,⟨15,.data⟩,⟨12,.chain⟩,⟨12,.guard⟩],some (12,false)⟩) (by kernel_rfl) rfl (fun K hK => ?_);go_simp;go_at_call 30;refine (HA2.out GB.out).mono ?_;rintro e w62 ⟨n3,a3,l3,c3,n4,a4,l4,c4,rfl,hz1,hz2,b⟩;have lz62 := (show Below _ _ _ from b).size;replace GB := hid (zAA GB.out b);have ZA := hid (And.intro hz1 hz2);clear hz1 hz2;clear b;refine hK.out _ _ (fun _ => KB.out _ GB.out) ?_;clear hK;refine zBA (i := 17) (o := ⟨some 94,.call { callee := .value (.func 31),args := #[.tmp 93],argTypes := #[47] },4, "outright.go:57",#[⟨16,.data⟩,⟨16,.chain⟩,⟨12,.guard⟩],some (12,false)⟩) (by kernel_rfl) rfl (fun K hK => ?_);go_simp;go_at_call 31;refine (zhI (by have h := ZA.out.1;rw [HN0.out] at h;exact h) (by have h := ZA.out.2;rw [HN0.out] at h;exact h)).mono ?_;rintro e w63 ⟨rfl,b⟩;have lz63 := (show Below _ _ _ from b).size;replace GB := hid (zAA GB.out b);clear ZA;clear b;refine hK.out _ _ (fun _ => KB.out _ GB.out) ?_;clear hK;refine zDA [(18,(.bool false)),(19,(.bool false)),(20,(.bool false)),(21,(.int .i64 (i : Int))),(22,(.bool true)),(23,(.bool true)),(24,(.slice (some ⟨vb,0,none⟩) pl vc)),(25,(.int .i64 (i : Int))),(26,(.pointer (some ⟨vb,i,none⟩))),(27,(.int .i64 (f : Int))),(28,(.slice (some ⟨vb,0,none⟩) pl vc)),(29,(.int .i64 (i : Int))),(30,(.int .i64 (s : Int))),(31,(.pointer (some ⟨vb,s,none⟩))),(32,(.int .i64 (g : Int))),(33,(.bool false)),(34,(.bool false))] 17 ?_ (KB.out _ GB.out) ?_
       ·simp only [zJA,gA9,g09,g19,Act.put,sI9,s09,s19]
        (repeat' (first | exact trivial | refine And.intro (Or.inl ⟨by rfl,?_⟩) ?_)) <;> (intro w hSw;(try dsimp only at hSw);go_simp)
       simp only [actV,gA9,g09,g19,Act.put,sI9,s09,s19];refine zBA (i := 35) (o := ⟨some 112,.pick (.tmp 97) (.const (.bool true)) (.tmp 111),4, "outright.go:57",#[⟨20,.data⟩,⟨34,.data⟩],none⟩) (by kernel_rfl) rfl (fun K hK => ?_);go_simp;refine hK.out _ _ (fun h => absurd h (by decide)) ?_;clear hK
       try simp only [Act.put]
       refine zEA (by kernel_rfl) ?_ _;have J4 := hid (J3.out.now GB.out);have y0' := J4.out.q.at (i := 0) rfl;have H0 : Hid (∃ t : Nat,Value.int .i64 0 = .int .i64 (t : Int) ∧ t ≤ r ∧ r = r - t ∧ EcJ w bq r c a l cap R k B (some ⟨vb,0,none⟩) pl vc pv w63) := ⟨0,rfl,Nat.zero_le _,rfl,J4.out⟩
       clear GB KB J3 J4 y0 y1 y2 v0 HA2 v1;go_wp2_with fail;clear y0'
       go_loopg [7] r (fun gk s7 wx => ∃ t : Nat,s7 = .int .i64 (t : Int) ∧ t ≤ r ∧ gk = r - t ∧ EcJ w bq r c a l cap R k B (some ⟨vb,0,none⟩) pl vc pv wx)
       case atStart => exact H0.out
       case round =>
        clear H0;obtain ⟨t,rfl,htr,rfl,hJ⟩ := hrel;have J := hid hJ;have y0 := hJ.q.at (i := 0) rfl;have y1 := hJ.q.at (i := 1) rfl;have y2 := hJ.q.at (i := 2) rfl;clear hJ
        by_cases htl : t < r
        ·have htl' : (t : Int) < (r : Int) := by omega
         have hwt := zVA (i := t) (by omega);have HMM : Hid (r - (t + 1) < r - t) := by unfold Hid;omega
         by_cases hti : t = i
         ·subst hti
          have HN1 : Hid (∃ t' : Nat,Value.int .i64 ((t + 1 : Nat) : Int) = .int .i64 (t' : Int) ∧ t' ≤ r ∧ r - (t + 1) = r - t' ∧ EcJ w bq r c a l cap R k B (some ⟨vb,0,none⟩) pl vc pv wr) := ⟨t + 1,rfl,by omega,rfl,J.out⟩
          clear J;go_wp2_with fail;go_roundg (r - (t + 1))
          case rel => exact HN1.out
          case measure => exact HMM.out
         ·have hte : ¬ (t : Int) = (i : Int) := by omega
          have htb : ((t : Int) != (i : Int)) = true := by simp;omega
          have hix : t * c + f < l := by rw [HL.out];exact zeA htl hE
          have HAT := hid (at17 (r := (r : Int)) J.out.v.qs (i := t) (j := f) (by omega) hc hix (by omega));have HN2 : Hid ((R (t * c + f)).num = 0) := by unfold Hid;rw [HZS.out t htl hti];rfl
          clear hix hti;go_wp2_with fail;refine HAT.out.mono ?_;rintro e w7 ⟨m1,o1,p1,q1,m2,o2,p2,q2,rfl,hz1,hz2,b2⟩;have J2 := hid (J.out.now b2);have HZE := hid (ztF (n2 := m2) (a2 := o2) (l2 := p2) (c2 := q2) hz1);clear hz1 hz2 b2 HAT J y0 y1 y2;go_wp2_with fail;refine HZE.out.mono ?_;rintro e w8 ⟨bb,rfl,hbb,b3⟩;obtain rfl : bb = true := hbb.2 HN2.out;have HN1 : Hid (∃ t' : Nat,Value.int .i64 ((t + 1 : Nat) : Int) = .int .i64 (t' : Int) ∧ t' ≤ r ∧ r - (t + 1) = r - t' ∧ EcJ w bq r c a l cap R k B (some ⟨vb,0,none⟩) pl vc pv w8) := ⟨t + 1,rfl,by omega,rfl,J2.out.now b3⟩
          clear hbb b3 HZE J2 HN2;go_wp2_with fail;go_roundg (r - (t + 1))
          case rel => exact HN1.out
          case measure => exact HMM.out
        ·have htl' : ¬ (t : Int) < (r : Int) := by omega
         have HN1 : Hid (∃ i' : Nat,Value.int .i64 ((i + 1 : Nat) : Int) = .int .i64 (i' : Int) ∧ i' ≤ r ∧ r - (i + 1) = r - i' ∧ EcJ w bq r c a l cap R k B (some ⟨vb,0,none⟩) pl vc pv wr) := ⟨i + 1,rfl,by omega,rfl,J.out⟩
         clear J HZS;go_wp2_with fail;go_roundg (r - (i + 1))
         case rel => exact HN1.out
         case measure => exact HMO.out
  ·have hlt' : ¬ (i : Int) < (r : Int) := by omega
   have G := hid J.out.b;clear J;go_wp2;go_ret;exact ⟨rfl,G.out⟩
end Go.Proofs.YtffkmeocmjohmaaGreat
