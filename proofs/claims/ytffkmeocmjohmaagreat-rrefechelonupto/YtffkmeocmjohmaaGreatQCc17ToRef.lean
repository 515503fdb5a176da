/-
 QCc17ToRef: Cc17, Bu17, Bs17, Iv17, Sz17, Aw17, DWords, SlInts, Ref, joined.
-/
import Derived.Test.YtffkmeocmjohmaaGreatQFb17ToLk17
import Derived.Test.YtffkmeocmjohmaaGreatQEm17ToOv17
import Derived.Test.YtffkmeocmjohmaaGreatQGather8ToWz17
import Derived.Test.YtffkmeocmjohmaaGreatQFo17
import Derived.Test.YtffkmeocmjohmaaGreatQNu17ToTk17
import Derived.Test.YtffkmeocmjohmaaGreatQWordsToCarry
import Derived.Test.YtffkmeocmjohmaaGreatQCmpToMul
import Derived.Test.YtffkmeocmjohmaaGreatQProdToByWord

set_option maxRecDepth 100000
set_option maxHeartbeats 6400000
set_option linter.unusedVariables false
set_option linter.unusedSimpArgs false
namespace Go.Proofs.YtffkmeocmjohmaaGreat
open Go.RowKit


open Q17 (Rref Eqv Comb)
attribute [local go_sem] zjC
end Go.Proofs.YtffkmeocmjohmaaGreat
namespace Go.Proofs.YtffkmeocmjohmaaGreat
open Go.RowKit
def sn : Nat → (Nat → Nat) → Nat
 | 0,_ => 0
 | n + 1,f => sn n f + f n
theorem zYF : ∀ (n : Nat) (f : Nat → Nat),sn (n + 1) f = f 0 + sn n fun j => f (j + 1)
 | 0,f => by show sn 0 f + f 0 = f 0 + 0;show 0 + f 0 = f 0 + 0;omega
 | n + 1,f => by
  show sn (n + 1) f + f (n + 1) = f 0 + (sn n (fun j => f (j + 1)) + f (n + 1))
  rw [zYF n f];omega
theorem zmE : ∀ (n : Nat) (f g : Nat → Nat),sn n (fun j => f j + g j) = sn n f + sn n g
 | 0,_,_ => rfl
 | n + 1,f,g => by
  show sn n (fun j => f j + g j) + (f n + g n) = sn n f + f n + (sn n g + g n)
  rw [zmE n f g];omega
theorem zWC : ∀ (n c : Nat),sn n (fun _ => c) = n * c
 | 0,c => by rw [Nat.zero_mul];rfl
 | n + 1,c => by
  show sn n (fun _ => c) + c = (n + 1) * c
  rw [zWC n c,Nat.succ_mul]
theorem zvG : ∀ {n : Nat} {f g : Nat → Nat},(∀ j,j < n → f j ≤ g j) → sn n f ≤ sn n g
 | 0,_,_,_ => Nat.le_refl _
 | n + 1,f,g,h => Nat.add_le_add (zvG fun j hj => h j (by omega)) (h n (by omega))
theorem zuG : ∀ {n : Nat} {f : Nat → Nat} {j : Nat},j < n → f j ≤ sn n f
 | n + 1,f,j,h => by
  show f j ≤ sn n f + f n
  by_cases q : j = n
  ·subst q;omega
  ·have := zuG (n := n) (f := f) (j := j) (by omega);omega
theorem zxG (c : Nat) (f : Nat → Nat) : ∀ a b,sn (a + b) f = sn a f + sn b fun j => f (a + j)
 | a,0 => rfl
 | a,b + 1 => by
  show sn (a + b) f + f (a + b) = sn a f + (sn b (fun j => f (a + j)) + f (a + b))
  rw [zxG c f a b];omega
theorem zXF (c : Nat) (f : Nat → Nat) : ∀ r,sn r (fun i => sn c fun j => f (i * c + j)) = sn (r * c) f
 | 0 => by rw [Nat.zero_mul];rfl
 | r + 1 => by
  show sn r (fun i => sn c fun j => f (i * c + j)) + sn c (fun j => f (r * c + j)) = _
  rw [zXF c f r,Nat.succ_mul,zxG c]
theorem pw_ge1 (k : Nat) : (1 : Int) ≤ pw k := by have := zbA k;omega
theorem zMI : ∀ {n : Nat} {A : Nat → Nat → Int} {K : Nat → Nat},n ≤ 64 → (∀ i j,i < n → j < n → ((A i j).natAbs : Int) ≤ pw (K j)) → ((det n A).natAbs : Int) ≤ pw (sn n fun j => K j + 1)
 | 0,_,_,_,_ => by simp [det,sn,pw]
 | n + 1,A,K,hn,h => by
  obtain ⟨S,hS⟩ : ∃ S,sn n (fun j => K (j + 1) + 1) = S := ⟨_,rfl⟩
  have hX : (((pw (K 0 + S)).toNat : Nat) : Int) = pw (K 0 + S) := Int.toNat_of_nonneg (by have := zbA (K 0 + S);omega);have h1 : (su (n + 1) fun i => sgd i * A i 0 * det n (fun r c => A (skd i r) (c + 1))).natAbs ≤ (n + 1) * (pw (K 0 + S)).toNat := zsG fun i hi => by
   have h2 := zMI (n := n) (A := fun r c => A (skd i r) (c + 1)) (K := fun j => K (j + 1)) (by omega) fun a b ha hb => h (skd i a) (b + 1) (by unfold skd;split <;> omega) (by omega)
   rw [hS] at h2;rw [Int.natAbs_mul,Int.natAbs_mul,zZF,Nat.one_mul];have h3 := h i 0 hi (by omega);refine Int.ofNat_le.1 ?_;rw [hX,Int.natCast_mul,zFB];exact Int.mul_le_mul h3 h2 (Int.natCast_nonneg _) (by have := zbA (K 0);omega)
  have h4 : (((su (n + 1) fun i => sgd i * A i 0 * det n (fun r c => A (skd i r) (c + 1))).natAbs : Nat) : Int) ≤ ((n + 1 : Nat) : Int) * pw (K 0 + S) := by
   rw [← hX,← Int.natCast_mul];exact Int.ofNat_le.2 h1
  show (((su (n + 1) fun i => sgd i * A i 0 * det n (fun r c => A (skd i r) (c + 1))).natAbs : Nat) : Int) ≤ _
  refine Int.le_trans h4 ?_;rw [zYF,hS,show K 0 + 1 + S = 1 + (K 0 + S) by omega,zFB 1];refine Int.mul_le_mul_of_nonneg_right ?_ (by have := zbA (K 0 + S);omega);have : pw 1 = 18446744073709551616 := by decide
  rw [this];omega
theorem zNI {A : Nat → Nat → Int} {m n : Nat} {f : Nat → Nat} {K : Nat → Nat} (hm : m ≤ 64) (h : ∀ i j,i < m → j < n → ((A i j).natAbs : Int) ≤ pw (K i)) : ((dcl A m n f).natAbs : Int) ≤ pw (sn m fun j => K j + 1) := zMI hm fun i j hi hj => by
 unfold vcl
 split
 ·exact h _ _ hj (by assumption)
 ·have := pw_ge1 (K j)
  unfold dlz;split <;> simp <;> omega
theorem zGI {R : Nat → Rat} {b : Nat → Nat} : ∀ {n : Nat},(∀ j,j < n → ((R j).den : Int) ≤ pw (b j)) → (lcn R n : Int) ≤ pw (sn n b)
 | 0,_ => by show (1 : Int) ≤ pw 0;decide
 | n + 1,h => by
  have h1 := zGI (R := R) (b := b) (n := n) fun j hj => h j (by omega)
  have h2 := h n (by omega);have h3 : (lcn R (n + 1) : Int) ≤ (lcn R n : Int) * ((R n).den : Int) := by
   rw [← Int.natCast_mul];refine Int.ofNat_le.2 (Nat.le_of_dvd (Nat.mul_pos (zRE R n) (R n).den_pos) ?_);exact Nat.lcm_dvd (Nat.dvd_mul_right _ _) (Nat.dvd_mul_left _ _)
  show _ ≤ pw (sn n b + b n)
  rw [zFB];exact Int.le_trans h3 (Int.mul_le_mul h1 h2 (Int.natCast_nonneg _) (by have := zbA (sn n b);omega))
theorem ztH {R : Nat → Rat} {a b : Nat → Nat} {n j : Nat} (h1 : ∀ j,j < n → ((R j).den : Int) ≤ pw (b j)) (h2 : ∀ j,j < n → (((R j).num).natAbs : Int) ≤ pw (a j)) (hj : j < n) : ((whl R n j).natAbs : Int) ≤ pw (sn n fun j => a j + b j) := by
 have h3 := zGI h1;have h4 : (((lcn R n : Int).tdiv ((R j).den : Int)).natAbs : Int) ≤ pw (sn n b) := by
  refine Int.le_trans ?_ h3;have := zGC (lcn R n : Int) ((R j).den : Int);rw [Int.natAbs_natCast] at this;exact Int.ofNat_le.2 this
 unfold whl;rw [Int.natAbs_mul,Int.natCast_mul,zmE,zFB];have h5 := Int.le_trans (h2 j hj) (zMC (zuG (f := a) hj));exact Int.mul_le_mul h5 h4 (Int.natCast_nonneg _) (by have := zbA (sn n a);omega)
theorem zIB {p q : Int} (hq : q ≠ 0) : (Rat.divInt p q).num.natAbs ≤ p.natAbs ∧ (Rat.divInt p q).den ≤ q.natAbs := by
 by_cases h0 : p = 0
 ·subst h0
  rw [Rat.zero_divInt];exact ⟨Nat.le_refl _,by show 1 ≤ q.natAbs;omega⟩
 have h : (Rat.divInt p q).num * q = p * (Rat.divInt p q).den := by
  have e : Rat.divInt p q = Rat.divInt (Rat.divInt p q).num ((Rat.divInt p q).den : Int) := (Rat.num_divInt_den _).symm;have e2 := (Rat.divInt_eq_divInt_iff hq (by have := (Rat.divInt p q).den_pos;omega)).1 e;exact e2.symm
 have h' : (Rat.divInt p q).num.natAbs * q.natAbs = p.natAbs * (Rat.divInt p q).den := by
  have := congrArg Int.natAbs h
  rwa [Int.natAbs_mul,Int.natAbs_mul,Int.natAbs_natCast] at this
 have hc := (Rat.divInt p q).reduced;have d1 : (Rat.divInt p q).num.natAbs ∣ p.natAbs := hc.dvd_of_dvd_mul_right (by rw [← h'];exact Nat.dvd_mul_right _ _);have d2 : (Rat.divInt p q).den ∣ q.natAbs := hc.symm.dvd_of_dvd_mul_left (by rw [h'];exact Nat.dvd_mul_left _ _);exact ⟨Nat.le_of_dvd (by omega) d1,Nat.le_of_dvd (by omega) d2⟩
structure Wd17 (n : Nat) (P Q : Nat → Int) (u : Nat → Nat) (S : Nat) : Prop where
 nz : ∀ t,t < n → Q t ≠ 0
 le : ∀ t,t < n → ∃ a b,((P t).natAbs : Int) ≤ pw a ∧ ((Q t).natAbs : Int) ≤ pw b ∧ a + b ≤ u t
 sum : sn n u ≤ S
theorem zwF {n : Nat} {P Q : Nat → Int} {u : Nat → Nat} {S : Nat} (h : Wd17 n P Q u S) : ∃ a b : Nat → Nat,∀ t,t < n → ((P t).natAbs : Int) ≤ pw (a t) ∧ ((Q t).natAbs : Int) ≤ pw (b t) ∧ a t + b t ≤ u t :=
 ⟨fun t => if ht : t < n then Classical.choose (h.le t ht) else 0,fun t => if ht : t < n then Classical.choose (Classical.choose_spec (h.le t ht)) else 0,fun t ht => by
  have := Classical.choose_spec (Classical.choose_spec (h.le t ht));simp only [dif_pos ht];exact this⟩
theorem zDF {r c : Nat} {P Q : Nat → Int} {u : Nat → Nat} {S : Nat} (h : Wd17 (r * c) P Q u S) (hr : r ≤ 64) (f : Nat → Nat) : ((dcl (wha c (rwP c P) (rwP c Q)) r c f).natAbs : Int) < pw (S + r + 1) := by
 obtain ⟨a,b,hab⟩ := zwF h;have h1 : ((dcl (wha c (rwP c P) (rwP c Q)) r c f).natAbs : Int) ≤ pw (sn r fun i => (sn c fun j => a (i * c + j) + b (i * c + j)) + 1) := zNI hr fun i j hi hj => by
  refine ztH (R := fun j => Rat.divInt (rwP c P i j) (rwP c Q i j)) (a := fun j => a (i * c + j)) (b := fun j => b (i * c + j)) (fun j hj => ?_) (fun j hj => ?_) hj
  ·have := (hab _ (zeA hi hj)).2.1
   have hs := (zIB (p := P (i * c + j)) (h.nz _ (zeA hi hj))).2;exact Int.le_trans (Int.ofNat_le.2 hs) this
  ·have := (hab _ (zeA hi hj)).1
   have hs := (zIB (p := P (i * c + j)) (h.nz _ (zeA hi hj))).1;exact Int.le_trans (Int.ofNat_le.2 hs) this
 refine Int.lt_of_le_of_lt h1 ?_;rw [zmE r _ (fun _ => 1),zWC,Nat.mul_one,zXF c (fun t => a t + b t) r];have h2 : sn (r * c) (fun t => a t + b t) ≤ S := Nat.le_trans (zvG fun t ht => (hab t ht).2.2) h.sum;refine Int.lt_of_le_of_lt (zMC (show _ ≤ S + r by omega)) ?_;rw [zFB (S + r) 1];have h3 := zbA (S + r);have h4 : pw 1 = 18446744073709551616 := by decide
 rw [h4];omega
theorem zVF {n K : Nat} {P Q : Nat → Int} (nz : ∀ t,t < n → Q t ≠ 0) (h : ∀ t,t < n → ((P t).natAbs : Int) ≤ pw K ∧ ((Q t).natAbs : Int) ≤ pw K) : Wd17 n P Q (fun _ => 2 * K) (n * (2 * K)) :=
 ⟨nz,fun t ht => ⟨K,K,(h t ht).1,(h t ht).2,by omega⟩,by rw [zWC];exact Nat.le_refl _⟩
open Q17 (Rref Eqv)
abbrev fr8 (a1 : Option Addr) (l1 c1 : Nat) (a2 : Option Addr) (l2 c2 : Nat) (b1 : Option Addr) (m1 d1 : Nat) (b2 : Option Addr) (m2 d2 : Nat) : List Value := [.bool false,.slice a1 l1 c1,.bool false,.slice a2 l2 c2,.bool false,.slice b1 m1 d1,.bool false,.slice b2 m2 d2]
theorem qs_two {w : World} {g : Nat} {a1 a2 b1 b2 : Option Addr} {l1 c1 l2 c2 m1 d1 m2 d2 : Nat} {P Q : Nat → Int} (C : Cel w g 47 (fr8 a1 l1 c1 a2 l2 c2 b1 m1 d1 b2 m2 d2)) (z1 : Zi w (.agg #[.bool false,.slice a1 l1 c1]) (P 0) 1) (z2 : Zi w (.agg #[.bool false,.slice a2 l2 c2]) (Q 0) 1) (z3 : Zi w (.agg #[.bool false,.slice b1 m1 d1]) (P 1) 1) (z4 : Zi w (.agg #[.bool false,.slice b2 m2 d2]) (Q 1) 1) : Qs w (.slice (some ⟨g,0,none⟩) 2 2) 2 P Q 1 := by
 refine ⟨_,_,rfl,Nat.le_refl _,⟨by omega,fun q => by cases q⟩,.inr ⟨g,0,rfl,C.blk,fun j hj => ?_⟩⟩;rcases (show j = 0 ∨ j = 1 by omega) with rfl | rfl
 ·exact ⟨_,_,_,_,_,_,_,_,C.at (i := 0) rfl,C.at (i := 1) rfl,C.at (i := 2) rfl,C.at (i := 3) rfl,z1,z2⟩
 ·exact ⟨_,_,_,_,_,_,_,_,C.at (i := 4) rfl,C.at (i := 5) rfl,C.at (i := 6) rfl,C.at (i := 7) rfl,z3,z4⟩
theorem qc_two {w : World} {g : Nat} {a1 a2 b1 b2 : Option Addr} {l1 c1 l2 c2 m1 d1 m2 d2 : Nat} {R : Nat → Rat} (C : Cel w g 47 (fr8 a1 l1 c1 a2 l2 c2 b1 m1 d1 b2 m2 d2)) (z1 : Zc w (.agg #[.bool false,.slice a1 l1 c1]) (R 0).num 1) (z2 : Zc w (.agg #[.bool false,.slice a2 l2 c2]) ((R 0).den : Int) 1) (z3 : Zc w (.agg #[.bool false,.slice b1 m1 d1]) (R 1).num 1) (z4 : Zc w (.agg #[.bool false,.slice b2 m2 d2]) ((R 1).den : Int) 1) : Qc w (.slice (some ⟨g,0,none⟩) 2 2) 2 R 1 := by
 refine ⟨_,_,rfl,Nat.le_refl _,⟨by omega,fun q => by cases q⟩,.inr ⟨g,0,rfl,C.blk,fun j hj => ?_⟩⟩;rcases (show j = 0 ∨ j = 1 by omega) with rfl | rfl
 ·exact ⟨_,_,_,_,_,_,_,_,C.at (i := 0) rfl,C.at (i := 1) rfl,C.at (i := 2) rfl,C.at (i := 3) rfl,z1,z2⟩
 ·exact ⟨_,_,_,_,_,_,_,_,C.at (i := 4) rfl,C.at (i := 5) rfl,C.at (i := 6) rfl,C.at (i := 7) rfl,z3,z4⟩
def awP (_ : Nat) : Int := 1
def awQ (t : Nat) : Int := if t = 0 then 2 else 3
def awR (t : Nat) : Rat := if t = 0 then 1 else Rat.divInt 2 3
theorem awR0 : (awR 0).num = 1 ∧ ((awR 0).den : Int) = 1 := ⟨by decide +kernel,by decide +kernel⟩
theorem awR1 : (awR 1).num = 2 ∧ ((awR 1).den : Int) = 3 := ⟨by decide +kernel,by decide +kernel⟩
theorem zkI : Wd17 (1 * 2) awP awQ (fun _ => 2 * 1) ((1 * 2) * (2 * 1)) := by
 refine zVF (fun t ht => ?_) fun t ht => ?_
 ·unfold awQ;split <;> decide
 ·rw [show pw 1 = 18446744073709551616 by decide]
  unfold awP awQ
  split <;> decide
theorem aw_form {E : Nat → Nat → Rat} {pv : List Nat} (h : Rref 1 2 E pv) (he : Eqv 2 1 E (qfr 2 awP awQ)) : pv = [0] ∧ ∀ t,t < 1 * 2 → E (t / 2) (t % 2) = awR t := by
 have e1 : Eqv 2 1 (fun i j => (2 : Rat) * qfr 2 awP awQ i j) (qfr 2 awP awQ) := Q17.eqv_scale (d := fun _ => 2) (fun _ _ => by decide) fun _ _ _ _ => rfl
 have v0 : (2 : Rat) * qfr 2 awP awQ 0 0 = 1 := by decide +kernel
 have v1 : (2 : Rat) * qfr 2 awP awQ 0 1 = Rat.divInt 2 3 := by decide +kernel
 have hN : Rref 1 2 (fun i j => (2 : Rat) * qfr 2 awP awQ i j) [0] := by
  have g : ∀ {t a : Nat},[0][t]? = some a → t = 0 ∧ a = 0 := fun {t a} h => by
   match t,h with
   | 0,h => exact ⟨rfl,by simpa using h.symm⟩
   | t + 1,h => simp at h
  refine ⟨by simp,fun s t a b hst h1 h2 => ?_,fun t a h1 => ?_,fun t a i h1 hi => ?_,fun t a j h1 hj => ?_,fun i j h1 h2 h3 => ?_⟩
  ·have := g h1;have := g h2;omega
  ·have := g h1;omega
  ·obtain ⟨rfl,rfl⟩ := g h1
   obtain rfl : i = 0 := by omega
   exact v0
  ·have := g h1;omega
  ·simp at h1;omega
 obtain ⟨u1,u2⟩ := Q17.Rref.unique Q17.fld17 h hN (he.trans e1.symm);refine ⟨u1,fun t ht => ?_⟩;rcases (show t = 0 ∨ t = 1 by omega) with rfl | rfl
 ·exact (u2 0 0 (by omega) (by omega)).trans v0
 ·exact (u2 0 1 (by omega) (by omega)).trans v1
theorem zXH {w : World} : Calls Tryz.prog 5 #[] w fun e w' => e = .returned (.bool true) ∧ Below w.heap.size w w' := by
 have H1 := hid (zCF (w := w) (p := 1) (q := 2) (fun _ => zbD) (fun _ => zFH));go_enter Tryz.func5,Tryz.ntmps5;go_wp2_with fail;refine H1.out.mono ?_;rintro e w1 ⟨a1,l1,c1,a2,l2,c2,rfl,z1,z2,b1⟩;have Z1 := hid z1;have Z2 := hid z2;have G1 := hid b1;have H2 := hid (zCF (w := w1) (p := 1) (q := 3) (fun _ => zbD) (fun _ => zEH));clear H1 z1 z2 b1;go_wp2_with fail;refine H2.out.mono ?_;rintro e w2 ⟨d1,m1,k1,d2,m2,k2,rfl,z3,z4,b2⟩;obtain ⟨W,hW⟩ : ∃ W,w2.alloc (.cells #[.bool false,.slice a1 l1 c1,.bool false,.slice a2 l2 c2,.bool false,.slice d1 m1 k1,.bool false,.slice d2 m2 k2] 47) = W := ⟨_,rfl⟩
 obtain ⟨b3,sz3⟩ := alo1 w2 (.cells #[.bool false,.slice a1 l1 c1,.bool false,.slice a2 l2 c2,.bool false,.slice d1 m1 k1,.bool false,.slice d2 m2 k2] 47);rw [hW] at b3 sz3;have CF : Cel W w2.heap.size 47 (fr8 a1 l1 c1 a2 l2 c2 d1 m1 k1 d2 m2 k2) := by rw [← hW];exact Cel.new w2 _ _
 have HFM : Hid (Calls Tryz.prog 6 #[.agg #[.int .i64 1,.int .i64 2,.slice (some ⟨w2.heap.size,0,none⟩) 2 2]] W (zqF W 1 2 awP awQ 6)) :=
  zND (rn := 1) (cn := 2) (qs_two (P := awP) (Q := awQ) CF ((Z1.out.now b2).now b3).zi ((Z2.out.now b2).now b3).zi (z3.now b3).zi (z4.now b3).zi) rfl (by omega) (by omega) (fun t ht => zkI.nz t ht) (by omega) (Nat.le_refl _) (fun f => zDF zkI (by omega) f) (by omega) (by omega)
 have G3 := hid (zAA (zAA G1.out b2) b3);have EW := hid hW;clear H2 z3 z4 b2 b3 hW sz3 CF G1 Z1 Z2;go_wp2_with fail;rw [EW.out];refine HFM.out.mono ?_;rintro e w4 ⟨g,va,pl,vc,E,pv,rfl,hpl,hF,hI,hR,hE,b4⟩;obtain ⟨rfl,hv⟩ := aw_form hR hE;obtain rfl : pl = 1 := by rw [← hpl];rfl
 obtain ⟨a',cap',e',-,hg⟩ := hI.form;obtain ⟨gv,rfl⟩ := hg (by simp);simp only [List.length_cons,List.length_nil,Value.slice.injEq] at e';obtain ⟨rfl,-,rfl⟩ := e';have y3 := hI.at (i := 0) (by simp);have QC := hid ((hF.qc (by omega)).congr hv);have G4 := hid (zAA G3.out b4);obtain ⟨W1,hW1⟩ : ∃ W1,w4.alloc (.cells #[.int .i64 1,.int .i64 2,.slice (some ⟨g,0,none⟩) 2 2] 24) = W1 := ⟨_,rfl⟩
 obtain ⟨b5,sz5⟩ := alo1 w4 (.cells #[.int .i64 1,.int .i64 2,.slice (some ⟨g,0,none⟩) 2 2] 24);rw [hW1] at b5 sz5;have CQ : Cel W1 w4.heap.size 24 [.int .i64 1,.int .i64 2,.slice (some ⟨g,0,none⟩) 2 2] := by rw [← hW1];exact Cel.new w4 _ _
 have y0 := CQ.at (i := 0) rfl;have y1 := CQ.at (i := 1) rfl;have y2 := CQ.at (i := 2) rfl;replace y3 := cnow b5 y3;replace y3 : W1.cell? ⟨gv,0,none⟩ = some (.int .i64 0) := y3;replace QC := hid (QC.out.now b5);replace G4 := hid (zAA G4.out b5);have EW1 := hid hW1;clear HFM hF hI hR hE b4 hpl hv b5 sz5 hW1 CQ EW G3;go_wp2_with fail;rw [EW1.out];clear EW1;have KB : Hid (∀ w',Below W1.heap.size W1 w' → w'.cell? ⟨w4.heap.size,0,none⟩ = some (.int .i64 1) ∧ w'.cell? ⟨w4.heap.size,1,none⟩ = some (.int .i64 2) ∧ w'.cell? ⟨w4.heap.size,2,none⟩ = some (.slice (some ⟨g,0,none⟩) 2 2) ∧ w'.cell? ⟨gv,0,none⟩ = some (.int .i64 0)) := fun w' h => ⟨cnow h y0,cnow h y1,cnow h y2,cnow h y3⟩
 refine zFA (fun w' => w'.cell? ⟨w4.heap.size,0,none⟩ = some (.int .i64 1) ∧ w'.cell? ⟨w4.heap.size,1,none⟩ = some (.int .i64 2) ∧ w'.cell? ⟨w4.heap.size,2,none⟩ = some (.slice (some ⟨g,0,none⟩) 2 2) ∧ w'.cell? ⟨gv,0,none⟩ = some (.int .i64 0)) 21 (by kernel_rfl) ?_;obtain ⟨D21,hD⟩ : ∃ D21,W1.drew = D21 := ⟨_,rfl⟩
 have GB : Hid (Below W1.heap.size W1 D21) := by unfold Hid;rw [← hD];exact (Below.refl _ _).drew
 rw [hD];clear hD
 skip
 refine zDA [(0,(.int .i64 0)),(1,(.bool true)),(2,(.bool true)),(3,(.slice (some ⟨gv,0,none⟩) 1 vc)),(4,(.int .i64 1)),(5,(.bool true)),(6,(.bool true)),(7,(.bool true)),(8,(.slice (some ⟨gv,0,none⟩) 1 vc)),(9,(.pointer (some ⟨gv,0,none⟩))),(10,(.int .i64 0)),(11,(.bool true)),(12,(.bool true)),(13,(.bool true)),(14,(.agg #[.int .i64 1,.int .i64 2,.slice (some ⟨g,0,none⟩) 2 2]))] 15 ?_ (KB.out _ GB.out) ?_
 ·simp only [zJA,gA9,g09,g19,Act.put,sI9,s09,s19]
  (repeat' (first | exact trivial | refine And.intro (Or.inl ⟨by rfl,?_⟩) ?_)) <;> (intro w hSw;(try dsimp only at hSw);go_simp)
 simp only [actV,gA9,g09,g19,Act.put,sI9,s09,s19];refine zBA (i := 15) (o := ⟨some 28,.call { callee := .value (.func 20),args := #[.const (.int .i64 1),.const (.int .i64 1)],argTypes := #[2,2] },47, "law.go:31",#[⟨13,.chain⟩,⟨13,.guard⟩],some (13,true)⟩) (by kernel_rfl) rfl (fun K hK => ?_);go_simp;go_at_call 20;refine (zCF (fun _ => zbD) (fun _ => zbD)).mono ?_;rintro e w22 ⟨e1,n1,o1,e2,n2,o2,rfl,z1,z2,b⟩;have lz22 := (show Below _ _ _ from b).size;replace GB := hid (zAA GB.out b);have Z1 := hid z1;have Z2 := hid z2;clear z1 z2;clear b;refine hK.out _ _ (fun _ => KB.out _ GB.out) ?_;clear hK;refine zBA (i := 16) (o := ⟨some 29,.call { callee := .value (.func 20),args := #[.const (.int .i64 2),.const (.int .i64 3)],argTypes := #[2,2] },47, "law.go:31",#[⟨15,.chain⟩,⟨13,.guard⟩],some (13,true)⟩) (by kernel_rfl) rfl (fun K hK => ?_);go_simp;go_at_call 20;refine (zCF (fun _ => zFH) (fun _ => zEH)).mono ?_;rintro e w23 ⟨e3,n3,o3,e4,n4,o4,rfl,z3,z4,b⟩;have lz23 := (show Below _ _ _ from b).size;replace GB := hid (zAA GB.out b);replace Z1 := hid (Z1.out.now b);replace Z2 := hid (Z2.out.now b);have Z3 := hid z3;have Z4 := hid z4;clear z3 z4;clear b;refine hK.out _ _ (fun _ => KB.out _ GB.out) ?_;clear hK;refine zBA (i := 17) (o := ⟨some 30,.buildSlice 22 2 #[(0,.tmp 28),(1,.tmp 29)],22, "law.go:31",#[⟨15,.data⟩,⟨16,.data⟩,⟨13,.guard⟩],some (13,true)⟩) (by kernel_rfl) rfl (fun K hK => ?_);go_simp;obtain ⟨V24,hW⟩ : ∃ V24,w23.alloc (.cells #[.bool false,.slice e1 n1 o1,.bool false,.slice e2 n2 o2,.bool false,.slice e3 n3 o3,.bool false,.slice e4 n4 o4] 47) = V24 := ⟨_,rfl⟩
 obtain ⟨b,sz24⟩ := alo1 w23 (.cells #[.bool false,.slice e1 n1 o1,.bool false,.slice e2 n2 o2,.bool false,.slice e3 n3 o3,.bool false,.slice e4 n4 o4] 47);rw [hW] at b sz24;replace GB := hid (zAA GB.out b);have CF : Cel V24 w23.heap.size 47 (fr8 e1 n1 o1 e2 n2 o2 e3 n3 o3 e4 n4 o4) := by rw [← hW];exact Cel.new w23 _ _
 have QD : Hid (Qc V24 (.slice (some ⟨w23.heap.size,0,none⟩) 2 2) 2 awR 1) := qc_two CF (by rw [awR0.1];exact (Z1.out.now b).zc) (by rw [awR0.2];exact (Z2.out.now b).zc) (by rw [awR1.1];exact (Z3.out.now b).zc) (by rw [awR1.2];exact (Z4.out.now b).zc);clear Z1 Z2 Z3 Z4 CF;rw [hW];clear hW b;refine hK.out _ _ (fun _ => KB.out _ GB.out) ?_;clear hK
 try simp only [Act.put]
 refine zDA [(18,(.agg #[.int .i64 1,.int .i64 2,.slice (some ⟨w23.heap.size,0,none⟩) 2 2]))] 1 ?_ (KB.out _ GB.out) ?_
 ·simp only [zJA,gA9,g09,g19,Act.put,sI9,s09,s19]
  (repeat' (first | exact trivial | refine And.intro (Or.inl ⟨by rfl,?_⟩) ?_)) <;> (intro w hSw;(try dsimp only at hSw);go_simp)
 simp only [actV,gA9,g09,g19,Act.put,sI9,s09,s19];refine zBA (i := 19) (o := ⟨some 32,.call { callee := .value (.func 12),args := #[.tmp 27,.tmp 31],argTypes := #[24,24] },4, "law.go:31",#[⟨14,.data⟩,⟨18,.data⟩,⟨16,.chain⟩,⟨13,.guard⟩],some (13,true)⟩) (by kernel_rfl) rfl (fun K hK => ?_);go_simp;go_at_call 12;refine ((show Calls Tryz.prog 12 #[.agg #[.int .i64 1,.int .i64 2,.slice (some ⟨g,0,none⟩) 2 2],.agg #[.int .i64 1,.int .i64 2,.slice (some ⟨w23.heap.size,0,none⟩) 2 2]] V24 _ from zdD (r := 1) (c := 2) (QC.out.now GB.out) QD.out fun _ _ => rfl)).mono ?_;rintro e w25 ⟨rfl,b⟩;have lz25 := (show Below _ _ _ from b).size;replace GB := hid (zAA GB.out b);clear b;refine hK.out _ _ (fun _ => KB.out _ GB.out) ?_;clear hK;refine zDA [(20,(.bool true))] 1 ?_ (KB.out _ GB.out) ?_
 ·simp only [zJA,gA9,g09,g19,Act.put,sI9,s09,s19]
  (repeat' (first | exact trivial | refine And.intro (Or.inl ⟨by rfl,?_⟩) ?_)) <;> (intro w hSw;(try dsimp only at hSw);go_simp)
 simp only [actV,gA9,g09,g19,Act.put,sI9,s09,s19];refine zBA (i := 21) (o := ⟨some 0,.assign (.tmp 33),4, "law.go:31",#[⟨20,.data⟩,⟨19,.chain⟩,⟨0,.phase⟩,⟨1,.phase⟩,⟨2,.phase⟩,⟨3,.phase⟩,⟨4,.phase⟩,⟨5,.phase⟩,⟨6,.phase⟩,⟨7,.phase⟩,⟨8,.phase⟩,⟨9,.phase⟩,⟨10,.phase⟩,⟨11,.phase⟩,⟨12,.phase⟩,⟨13,.phase⟩,⟨14,.phase⟩,⟨15,.phase⟩,⟨16,.phase⟩,⟨17,.phase⟩,⟨18,.phase⟩,⟨19,.phase⟩,⟨20,.phase⟩],none⟩) (by kernel_rfl) rfl (fun K hK => ?_);go_simp;refine hK.out _ _ (fun h => absurd h (by decide)) ?_;clear hK
 try simp only [Act.put]
 refine zEA (by kernel_rfl) ?_ _;have FIN := hid (zAA G4.out GB.out);clear GB KB QC QD G4 y0 y1 y2 y3;go_wp2;go_ret;exact ⟨rfl,FIN.out⟩
end Go.Proofs.YtffkmeocmjohmaaGreat
namespace Go.Proofs.YtffkmeocmjohmaaGreat
def dwB : Int := 65536
def IsD (x : Int) : Prop := 0 ≤ x ∧ x < dwB
def DF (xs : List Int) : Prop := ∀ x ∈ xs,IsD x
def dval : List Int → Int
 | [] => 0
 | x :: r => x + dwB * dval r
def dwid : List Int → Nat
 | [] => 0
 | x :: r => if dwid r = 0 then (if x = 0 then 0 else 1) else dwid r + 1
def dpw : Nat → Int
 | 0 => 1
 | n + 1 => dwB * dpw n
def zgG (xs : List Int) : Prop := DF xs ∧ dwid xs = xs.length
theorem DF.nil : DF [] := fun x h => by cases h
theorem DF.cons {x : Int} {r : List Int} (hx : IsD x) (hr : DF r) : DF (x :: r) := by
 intro y hy;rcases List.mem_cons.1 hy with rfl | h
 ·exact hx
 ·exact hr y h
theorem DF.head {x : Int} {r : List Int} (h : DF (x :: r)) : IsD x := h x (by simp)
theorem DF.tail {x : Int} {r : List Int} (h : DF (x :: r)) : DF r := fun y hy => h y (by simp [hy])
theorem DF.take {xs : List Int} (h : DF xs) (n : Nat) : DF (xs.take n) := fun x hx => h x (List.mem_of_mem_take hx)
theorem DF.append {xs ys : List Int} (h : DF xs) (k : DF ys) : DF (xs ++ ys) := by
 intro x hx;rcases List.mem_append.1 hx with q | q
 ·exact h x q
 ·exact k x q
theorem DF.get {xs : List Int} (h : DF xs) {i : Nat} (hi : i < xs.length) : IsD xs[i] := h _ (List.getElem_mem hi)
theorem zPC : ∀ {xs : List Int},DF xs → 0 ≤ dval xs
 | [],_ => by simp [dval]
 | x :: r,h => by
  have h1 := h.head;have h2 := zPC h.tail;unfold IsD dwB at h1;unfold dval dwB;omega
theorem ziD : ∀ xs : List Int,dwid xs ≤ xs.length
 | [] => by simp [dwid]
 | x :: r => by
  have := ziD r;unfold dwid;split
  ·split <;> simp
  ·simp;omega
theorem zcC : ∀ xs : List Int,dwid xs = 0 → dval xs = 0
 | [],_ => rfl
 | x :: r,h => by
  unfold dwid at h
  split at h
  ·rename_i h0
   have := zcC r h0
   split at h
   ·rename_i hx;simp [dval,hx,this]
   ·cases h
  ·cases h
def dlst (xs : List Int) : List Int := xs.take (dwid xs)
theorem zBB (xs : List Int) : (dlst xs).length = dwid xs := by unfold dlst;have := ziD xs;simp;omega
theorem zHF (x : Int) (r : List Int) : dlst (x :: r) = if dwid r = 0 then (if x = 0 then [] else [x]) else x :: dlst r := by
 have e : dwid (x :: r) = if dwid r = 0 then (if x = 0 then 0 else 1) else dwid r + 1 := by rw [dwid]
 unfold dlst;rw [e]
 split
 ·split <;> simp
 ·simp
theorem zXE : ∀ xs : List Int,dval (dlst xs) = dval xs
 | [] => rfl
 | x :: r => by
  rw [zHF]
  split
  ·rename_i h0
   have := zcC r h0
   split
   ·rename_i hx;simp [dval,hx,this]
   ·simp [dval,this]
  ·simp [dval,zXE r]
theorem zYG : ∀ xs : List Int,dwid (dlst xs) = dwid xs
 | [] => rfl
 | x :: r => by
  rw [zHF,dwid]
  split
  ·split
   ·rfl
   ·rename_i hx;simp [dwid,hx]
  ·rename_i h0
   rw [dwid,zYG r,if_neg h0]
theorem dcanon_lst {xs : List Int} (h : DF xs) : zgG (dlst xs) := ⟨h.take _,by rw [zYG,zBB]⟩
theorem zWE : ∀ {xs : List Int} {n : Nat},n ≤ xs.length → (∀ j (h : j < xs.length),n ≤ j → xs[j] = 0) → (0 < n → ∀ h' : n - 1 < xs.length,xs[n - 1] ≠ 0) → dwid xs = n
 | [],n,hn,_,_ => by simp at hn;simp [dwid,hn]
 | x :: r,0,_,hz,_ => by
  have h0 : dwid r = 0 := zWE (Nat.zero_le _) (fun j h _ => by have := hz (j + 1) (by simpa using h) (by omega);simpa using this) (fun h => by omega);have hx : x = 0 := hz 0 (by simp) (by omega);simp [dwid,h0,hx]
 | x :: r,1,_,hz,ht => by
  have h0 : dwid r = 0 := zWE (Nat.zero_le _) (fun j h _ => by have := hz (j + 1) (by simpa using h) (by omega);simpa using this) (fun h => by omega);have hx : x ≠ 0 := by simpa using ht (by omega) (by simp)
  simp [dwid,h0,hx]
 | x :: r,n + 2,hn,hz,ht => by
  have h0 : dwid r = n + 1 := by
   refine zWE (by simpa using hn) (fun j h hj => ?_) (fun _ h' => ?_)
   ·have := hz (j + 1) (by simpa using h) (by omega);simpa using this
   ·have := ht (by omega) (by simpa using h');simpa using this
  simp [dwid,h0]
theorem ziF : ∀ n,0 < dpw n
 | 0 => by simp [dpw]
 | n + 1 => by have := ziF n;unfold dpw dwB;omega
theorem zpB : ∀ (xs ys : List Int),dval (xs ++ ys) = dval xs + dpw xs.length * dval ys
 | [],ys => by simp [dval,dpw]
 | x :: r,ys => by
  simp only [List.cons_append,List.length_cons,dval,dpw,zpB r ys];rw [Int.mul_add,Int.mul_assoc];omega
theorem dlst_get {xs : List Int} {j : Nat} (h : j < dwid xs) : (dlst xs)[j]'(by rw [zBB];exact h) = xs[j]'(by have := ziD xs;omega) := by simp [dlst]
theorem zXG : ∀ {xs : List Int} {n : Nat},dwid xs = n + 1 → ∃ h : n < xs.length,xs[n] ≠ 0
 | [],n,h => by simp [dwid] at h
 | x :: r,n,h => by
  unfold dwid at h
  split at h
  ·split at h
   ·cases h
   ·have : n = 0 := by omega
    subst this;exact ⟨by simp,by simpa⟩
  ·rename_i hr
   obtain ⟨m,hm⟩ : ∃ m,dwid r = m + 1 := ⟨dwid r - 1,by omega⟩
   obtain ⟨h1,h2⟩ := zXG hm;have : n = m + 1 := by omega
   subst this;exact ⟨by simpa using h1,by simpa using h2⟩
open Go.RowKit
def SlI (B : Nat) (w : World) (v : Value) (ps : List Int) : Prop :=
 (∀ p ∈ ps,-9223372036854775808 ≤ p ∧ p ≤ 9223372036854775807) ∧ ∃ a cap,v = .slice a ps.length cap ∧ ps.length ≤ cap ∧ cap ≤ 35184372088832 ∧
  (ps = [] ∨ ∃ b off,a = some ⟨b,off,none⟩ ∧ b < B ∧ ∀ j (h : j < ps.length),w.cell? ⟨b,off + j,none⟩ = some (.int .i64 ps[j]))
theorem zBG {B : Nat} {w : World} {v : Value} {xs : List Int} (h : SlI B w v xs) :
  Calls Tryz.prog 169 #[v] w fun e w' => ∃ r,e = .returned r ∧ SlI B w r (dlst xs) ∧ w' = w := by
 have hs := h;obtain ⟨hw,a,cap,rfl,hlc,hcm,hm⟩ := h;have HW : Hid (∀ n : Nat,n ≤ xs.length → (∀ j (h : j < xs.length),n ≤ j → xs[j] = 0) → (0 < n → ∀ h' : n - 1 < xs.length,xs[n - 1] ≠ 0) → dwid xs = n) := fun n h1 h2 h3 => zWE h1 h2 h3
 have HF : Hid (∀ n,dwid xs = n → SlI B w (.slice a n cap) (dlst xs)) := fun n hn => by
  subst hn;have l := ziD xs;refine ⟨fun p hp => hw p (List.mem_of_mem_take hp),a,cap,by rw [zBB],by rw [zBB];omega,hcm,?_⟩;rcases hm with rfl | ⟨b,off,h1,h2,h3⟩
  ·exact .inl rfl
  ·refine .inr ⟨b,off,h1,h2,fun j hj => ?_⟩
   rw [zBB] at hj;rw [h3 j (by omega),dlst_get hj]
 have HM := hid hm;clear hs;go_enter Tryz.func169,Tryz.ntmps169;go_wp2
 go_loop [3] (fun i => ∃ n : Nat,n ≤ xs.length ∧ i = .int .i64 n ∧ ∀ j (h : j < xs.length),n ≤ j → xs[j] = 0) (fun i => (intOf i).toNat)
 case atStart => exact ⟨xs.length,Nat.le_refl _,rfl,fun j h h' => by omega⟩
 case round =>
  obtain ⟨n,hn,rfl,hz⟩ := hrel;have HZ := hid hz;clear hz hm
  by_cases h0 : n = 0
  ·subst h0
   go_wp2;go_ret;exact ⟨_,rfl,HF.out 0 (HW.out 0 (by omega) HZ.out (by omega)),rfl⟩
  ·obtain ⟨k,rfl⟩ : ∃ k,n = k + 1 := ⟨n - 1,by omega⟩
   rcases HM.out with rfl | ⟨b,off,rfl,hb,hc⟩
   ·simp at hn
   ·have hk : k < xs.length := by omega
    have hck := hc k hk;obtain ⟨x,hx⟩ : ∃ x,x = xs[k] := ⟨_,rfl⟩
    rw [← hx] at hck;have HX : Hid (x = xs[k]) := hx;clear hx hc h0
    by_cases hx0 : x = 0
    ·have ht : (x == 0) = true := by simp [hx0]
     go_wp2;go_round
     case rel =>
      refine ⟨k,by omega,rfl,fun j h hj => ?_⟩
      by_cases e : j = k
      ·subst e;rw [← HX.out];exact hx0
      ·exact HZ.out j h (by omega)
     case measure => simp [intOf]
    ·have ht : (x == 0) = false := by simp [hx0]
     go_wp2;go_ret;exact ⟨_,rfl,HF.out (k + 1) (HW.out (k + 1) hn HZ.out (fun _ h' => by have := HX.out;simp at h' ⊢;rw [← this];exact hx0)),rfl⟩
end Go.Proofs.YtffkmeocmjohmaaGreat
