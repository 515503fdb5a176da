/-
  QCc17ToAw17: Cc17, Bu17, Bs17, Iv17, Sz17, Aw17, joined.
-/
import Derived.Test.YtcceoildbnoliaaGreatQG417ToLk17
import Derived.Test.YtcceoildbnoliaaGreatQEm17ToOv17
import Derived.Test.YtcceoildbnoliaaGreatQGather8ToWz17
import Derived.Test.YtcceoildbnoliaaGreatQFo17
import Derived.Test.YtcceoildbnoliaaGreatQNu17ToTk17

/- Cc17 -/
namespace Go.Proofs.YtcceoildbnoliaaGreat
open Go.RowKit
set_option linter.unusedVariables false

end Go.Proofs.YtcceoildbnoliaaGreat

/- Bu17 -/
namespace Go.Proofs.YtcceoildbnoliaaGreat
open Go.RowKit
set_option linter.unusedVariables false

theorem FilQ.cellsD {w : World} {g n k : Nat} {R : Nat → Rat} (h : FilQ w g n n R k) : ∃ D : Nat → Nat → Value, (∀ j r, j < n → r < 4 → w.cell? ⟨g, 0 + j * 4 + r, none⟩ = some (D j r)) ∧ (∀ j, j < n → IsQ (D j)) ∧ ∀ j, j < n → Zm 0 w (.agg #[D j 0, D j 1]) (R j).num k ∧ Zm 0 w (.agg #[D j 2, D j 3]) ((R j).den : Int) k := by
  obtain ⟨C, c1, c2, c3⟩ := h
  exact ⟨C, fun j r hj hr => by rw [Nat.zero_add]; exact c1.at (cl4_at hj hr), c2, c3⟩
theorem FilS.keep17 {w w' : World} {g n i : Nat} {P : Nat → Value → Prop} (h : FilS w g n i P) (hk : w'.heap[g]? = w.heap[g]?) : FilS w' g n i P := by
  obtain ⟨vs, h1, h2, h3, h4⟩ := h
  exact ⟨vs, hk.trans h1, h2, h3, h4⟩
end Go.Proofs.YtcceoildbnoliaaGreat

/- Bs17 -/
namespace Go.Proofs.YtcceoildbnoliaaGreat
open Go.RowKit
set_option linter.unusedVariables false
set_option linter.unusedSimpArgs false

end Go.Proofs.YtcceoildbnoliaaGreat

/- Iv17 -/
namespace Go.Proofs.YtcceoildbnoliaaGreat
open Go.RowKit
open Q17 (Rref Eqv Comb)
set_option linter.unusedVariables false
set_option linter.unusedSimpArgs false
attribute [local go_sem] st_fn17

theorem FltIs.one {B N : Prop} {f : Bool} {c : Int} (h : FltIs (∃ j, j < 1 ∧ B) (∃ j, j < 1 ∧ N) f c) : FltIs B N f c := by
  have hB : (∃ j, j < 1 ∧ B) ↔ B := ⟨fun ⟨_, _, h⟩ => h, fun h => ⟨0, by omega, h⟩⟩
  have hN : (∃ j, j < 1 ∧ N) ↔ N := ⟨fun ⟨_, _, h⟩ => h, fun h => ⟨0, by omega, h⟩⟩
  unfold FltIs at *
  rw [hB, hN] at h
  exact h
end Go.Proofs.YtcceoildbnoliaaGreat

/- Sz17 -/
namespace Go.Proofs.YtcceoildbnoliaaGreat
open Go.RowKit
set_option linter.unusedVariables false

def sn : Nat → (Nat → Nat) → Nat
  | 0, _ => 0
  | n + 1, f => sn n f + f n
theorem sn_head : ∀ (n : Nat) (f : Nat → Nat), sn (n + 1) f = f 0 + sn n fun j => f (j + 1)
  | 0, f => by show sn 0 f + f 0 = f 0 + 0; show 0 + f 0 = f 0 + 0; omega
  | n + 1, f => by
    show sn (n + 1) f + f (n + 1) = f 0 + (sn n (fun j => f (j + 1)) + f (n + 1))
    rw [sn_head n f]; omega
theorem sn_add : ∀ (n : Nat) (f g : Nat → Nat), sn n (fun j => f j + g j) = sn n f + sn n g
  | 0, _, _ => rfl
  | n + 1, f, g => by
    show sn n (fun j => f j + g j) + (f n + g n) = sn n f + f n + (sn n g + g n)
    rw [sn_add n f g]; omega
theorem sn_const : ∀ (n c : Nat), sn n (fun _ => c) = n * c
  | 0, c => by rw [Nat.zero_mul]; rfl
  | n + 1, c => by
    show sn n (fun _ => c) + c = (n + 1) * c
    rw [sn_const n c, Nat.succ_mul]
theorem sn_le : ∀ {n : Nat} {f g : Nat → Nat}, (∀ j, j < n → f j ≤ g j) → sn n f ≤ sn n g
  | 0, _, _, _ => Nat.le_refl _
  | n + 1, f, g, h => Nat.add_le_add (sn_le fun j hj => h j (by omega)) (h n (by omega))
theorem sn_one : ∀ {n : Nat} {f : Nat → Nat} {j : Nat}, j < n → f j ≤ sn n f
  | n + 1, f, j, h => by
    show f j ≤ sn n f + f n
    by_cases q : j = n
    · subst q; omega
    · have := sn_one (n := n) (f := f) (j := j) (by omega); omega
theorem sn_join (c : Nat) (f : Nat → Nat) : ∀ a b, sn (a + b) f = sn a f + sn b fun j => f (a + j)
  | a, 0 => rfl
  | a, b + 1 => by
    show sn (a + b) f + f (a + b) = sn a f + (sn b (fun j => f (a + j)) + f (a + b))
    rw [sn_join c f a b]; omega
theorem sn_rows (c : Nat) (f : Nat → Nat) : ∀ r, sn r (fun i => sn c fun j => f (i * c + j)) = sn (r * c) f
  | 0 => by rw [Nat.zero_mul]; rfl
  | r + 1 => by
    show sn r (fun i => sn c fun j => f (i * c + j)) + sn c (fun j => f (r * c + j)) = _
    rw [sn_rows c f r, Nat.succ_mul, sn_join c]
theorem pw_ge1 (k : Nat) : (1 : Int) ≤ pw k := by have := pw_pos k; omega
theorem det_pw : ∀ {n : Nat} {A : Nat → Nat → Int} {K : Nat → Nat}, n ≤ 64 → (∀ i j, i < n → j < n → ((A i j).natAbs : Int) ≤ pw (K j)) → ((det n A).natAbs : Int) ≤ pw (sn n fun j => K j + 1)
  | 0, _, _, _, _ => by simp [det, sn, pw]
  | n + 1, A, K, hn, h => by
    obtain ⟨S, hS⟩ : ∃ S, sn n (fun j => K (j + 1) + 1) = S := ⟨_, rfl⟩
    have hX : (((pw (K 0 + S)).toNat : Nat) : Int) = pw (K 0 + S) := Int.toNat_of_nonneg (by have := pw_pos (K 0 + S); omega)
    have h1 : (su (n + 1) fun i => sgd i * A i 0 * det n (fun r c => A (skd i r) (c + 1))).natAbs ≤ (n + 1) * (pw (K 0 + S)).toNat := su_abs fun i hi => by
      have h2 := det_pw (n := n) (A := fun r c => A (skd i r) (c + 1)) (K := fun j => K (j + 1)) (by omega) fun a b ha hb => h (skd i a) (b + 1) (by unfold skd; split <;> omega) (by omega)
      rw [hS] at h2
      rw [Int.natAbs_mul, Int.natAbs_mul, sgd_abs, Nat.one_mul]
      have h3 := h i 0 hi (by omega)
      refine Int.ofNat_le.1 ?_
      rw [hX, Int.natCast_mul, pw_add]
      exact Int.mul_le_mul h3 h2 (Int.natCast_nonneg _) (by have := pw_pos (K 0); omega)
    have h4 : (((su (n + 1) fun i => sgd i * A i 0 * det n (fun r c => A (skd i r) (c + 1))).natAbs : Nat) : Int) ≤ ((n + 1 : Nat) : Int) * pw (K 0 + S) := by
      rw [← hX, ← Int.natCast_mul]; exact Int.ofNat_le.2 h1
    show (((su (n + 1) fun i => sgd i * A i 0 * det n (fun r c => A (skd i r) (c + 1))).natAbs : Nat) : Int) ≤ _
    refine Int.le_trans h4 ?_
    rw [sn_head, hS, show K 0 + 1 + S = 1 + (K 0 + S) by omega, pw_add 1]
    refine Int.mul_le_mul_of_nonneg_right ?_ (by have := pw_pos (K 0 + S); omega)
    have : pw 1 = 18446744073709551616 := by decide
    rw [this]; omega
theorem dcl_pw {A : Nat → Nat → Int} {m n : Nat} {f : Nat → Nat} {K : Nat → Nat} (hm : m ≤ 64) (h : ∀ i j, i < m → j < n → ((A i j).natAbs : Int) ≤ pw (K i)) : ((dcl A m n f).natAbs : Int) ≤ pw (sn m fun j => K j + 1) := det_pw hm fun i j hi hj => by
  unfold vcl
  split
  · exact h _ _ hj (by assumption)
  · have := pw_ge1 (K j)
    unfold dlz; split <;> simp <;> omega
theorem lcn_pw {R : Nat → Rat} {b : Nat → Nat} : ∀ {n : Nat}, (∀ j, j < n → ((R j).den : Int) ≤ pw (b j)) → (lcn R n : Int) ≤ pw (sn n b)
  | 0, _ => by show (1 : Int) ≤ pw 0; decide
  | n + 1, h => by
    have h1 := lcn_pw (R := R) (b := b) (n := n) fun j hj => h j (by omega)
    have h2 := h n (by omega)
    have h3 : (lcn R (n + 1) : Int) ≤ (lcn R n : Int) * ((R n).den : Int) := by
      rw [← Int.natCast_mul]
      refine Int.ofNat_le.2 (Nat.le_of_dvd (Nat.mul_pos (lcn_pos R n) (R n).den_pos) ?_)
      exact Nat.lcm_dvd (Nat.dvd_mul_right _ _) (Nat.dvd_mul_left _ _)
    show _ ≤ pw (sn n b + b n)
    rw [pw_add]
    exact Int.le_trans h3 (Int.mul_le_mul h1 h2 (Int.natCast_nonneg _) (by have := pw_pos (sn n b); omega))
theorem whl_pw {R : Nat → Rat} {a b : Nat → Nat} {n j : Nat} (h1 : ∀ j, j < n → ((R j).den : Int) ≤ pw (b j)) (h2 : ∀ j, j < n → (((R j).num).natAbs : Int) ≤ pw (a j)) (hj : j < n) : ((whl R n j).natAbs : Int) ≤ pw (sn n fun j => a j + b j) := by
  have h3 := lcn_pw h1
  have h4 : (((lcn R n : Int).tdiv ((R j).den : Int)).natAbs : Int) ≤ pw (sn n b) := by
    refine Int.le_trans ?_ h3
    have := tdiv_natAbs_le (lcn R n : Int) ((R j).den : Int)
    rw [Int.natAbs_natCast] at this
    exact Int.ofNat_le.2 this
  unfold whl
  rw [Int.natAbs_mul, Int.natCast_mul, sn_add, pw_add]
  have h5 := Int.le_trans (h2 j hj) (pw_le17 (sn_one (f := a) hj))
  exact Int.mul_le_mul h5 h4 (Int.natCast_nonneg _) (by have := pw_pos (sn n a); omega)
theorem divInt_small {p q : Int} (hq : q ≠ 0) : (Rat.divInt p q).num.natAbs ≤ p.natAbs ∧ (Rat.divInt p q).den ≤ q.natAbs := by
  by_cases h0 : p = 0
  · subst h0
    rw [Rat.zero_divInt]
    exact ⟨Nat.le_refl _, by show 1 ≤ q.natAbs; omega⟩
  have h : (Rat.divInt p q).num * q = p * (Rat.divInt p q).den := by
    have e : Rat.divInt p q = Rat.divInt (Rat.divInt p q).num ((Rat.divInt p q).den : Int) := (Rat.num_divInt_den _).symm
    have e2 := (Rat.divInt_eq_divInt_iff hq (by have := (Rat.divInt p q).den_pos; omega)).1 e
    exact e2.symm
  have h' : (Rat.divInt p q).num.natAbs * q.natAbs = p.natAbs * (Rat.divInt p q).den := by
    have := congrArg Int.natAbs h
    rwa [Int.natAbs_mul, Int.natAbs_mul, Int.natAbs_natCast] at this
  have hc := (Rat.divInt p q).reduced
  have d1 : (Rat.divInt p q).num.natAbs ∣ p.natAbs := hc.dvd_of_dvd_mul_right (by rw [← h']; exact Nat.dvd_mul_right _ _)
  have d2 : (Rat.divInt p q).den ∣ q.natAbs := hc.symm.dvd_of_dvd_mul_left (by rw [h']; exact Nat.dvd_mul_left _ _)
  exact ⟨Nat.le_of_dvd (by omega) d1, Nat.le_of_dvd (by omega) d2⟩
/-- The words of a matrix of fractions. -/
structure Wd17 (n : Nat) (P Q : Nat → Int) (u : Nat → Nat) (S : Nat) : Prop where
  nz : ∀ t, t < n → Q t ≠ 0
  le : ∀ t, t < n → ∃ a b, ((P t).natAbs : Int) ≤ pw a ∧ ((Q t).natAbs : Int) ≤ pw b ∧ a + b ≤ u t
  sum : sn n u ≤ S
theorem wd_split {n : Nat} {P Q : Nat → Int} {u : Nat → Nat} {S : Nat} (h : Wd17 n P Q u S) : ∃ a b : Nat → Nat, ∀ t, t < n → ((P t).natAbs : Int) ≤ pw (a t) ∧ ((Q t).natAbs : Int) ≤ pw (b t) ∧ a t + b t ≤ u t :=
  ⟨fun t => if ht : t < n then Classical.choose (h.le t ht) else 0, fun t => if ht : t < n then Classical.choose (Classical.choose_spec (h.le t ht)) else 0, fun t ht => by
    have := Classical.choose_spec (Classical.choose_spec (h.le t ht))
    simp only [dif_pos ht]
    exact this⟩
theorem form_size {r c : Nat} {P Q : Nat → Int} {u : Nat → Nat} {S : Nat} (h : Wd17 (r * c) P Q u S) (hr : r ≤ 64) (f : Nat → Nat) : ((dcl (wha c (rwP c P) (rwP c Q)) r c f).natAbs : Int) < pw (S + r + 1) := by
  obtain ⟨a, b, hab⟩ := wd_split h
  have h1 : ((dcl (wha c (rwP c P) (rwP c Q)) r c f).natAbs : Int) ≤ pw (sn r fun i => (sn c fun j => a (i * c + j) + b (i * c + j)) + 1) := dcl_pw hr fun i j hi hj => by
    refine whl_pw (R := fun j => Rat.divInt (rwP c P i j) (rwP c Q i j)) (a := fun j => a (i * c + j)) (b := fun j => b (i * c + j)) (fun j hj => ?_) (fun j hj => ?_) hj
    · have := (hab _ (zF_lt17 hi hj)).2.1
      have hs := (divInt_small (p := P (i * c + j)) (h.nz _ (zF_lt17 hi hj))).2
      exact Int.le_trans (Int.ofNat_le.2 hs) this
    · have := (hab _ (zF_lt17 hi hj)).1
      have hs := (divInt_small (p := P (i * c + j)) (h.nz _ (zF_lt17 hi hj))).1
      exact Int.le_trans (Int.ofNat_le.2 hs) this
  refine Int.lt_of_le_of_lt h1 ?_
  rw [sn_add r _ (fun _ => 1), sn_const, Nat.mul_one, sn_rows c (fun t => a t + b t) r]
  have h2 : sn (r * c) (fun t => a t + b t) ≤ S := Nat.le_trans (sn_le fun t ht => (hab t ht).2.2) h.sum
  refine Int.lt_of_le_of_lt (pw_le17 (show _ ≤ S + r by omega)) ?_
  rw [pw_add (S + r) 1]
  have h3 := pw_pos (S + r)
  have h4 : pw 1 = 18446744073709551616 := by decide
  rw [h4]; omega
/-- Alike sizes. -/
theorem wd_even {n K : Nat} {P Q : Nat → Int} (nz : ∀ t, t < n → Q t ≠ 0) (h : ∀ t, t < n → ((P t).natAbs : Int) ≤ pw K ∧ ((Q t).natAbs : Int) ≤ pw K) : Wd17 n P Q (fun _ => 2 * K) (n * (2 * K)) :=
  ⟨nz, fun t ht => ⟨K, K, (h t ht).1, (h t ht).2, by omega⟩, by rw [sn_const]; exact Nat.le_refl _⟩
end Go.Proofs.YtcceoildbnoliaaGreat

/- Aw17 -/
namespace Go.Proofs.YtcceoildbnoliaaGreat
open Go.RowKit
open Q17 (Rref Eqv)
set_option linter.unusedVariables false
set_option linter.unusedSimpArgs false

abbrev fr8 (a1 : Option Addr) (l1 c1 : Nat) (a2 : Option Addr) (l2 c2 : Nat) (b1 : Option Addr) (m1 d1 : Nat) (b2 : Option Addr) (m2 d2 : Nat) : List Value := [.bool false, .slice a1 l1 c1, .bool false, .slice a2 l2 c2, .bool false, .slice b1 m1 d1, .bool false, .slice b2 m2 d2]
theorem qs_two {w : World} {g : Nat} {a1 a2 b1 b2 : Option Addr} {l1 c1 l2 c2 m1 d1 m2 d2 : Nat} {P Q : Nat → Int} (C : Cel w g 47 (fr8 a1 l1 c1 a2 l2 c2 b1 m1 d1 b2 m2 d2)) (z1 : Zi w (.agg #[.bool false, .slice a1 l1 c1]) (P 0) 1) (z2 : Zi w (.agg #[.bool false, .slice a2 l2 c2]) (Q 0) 1) (z3 : Zi w (.agg #[.bool false, .slice b1 m1 d1]) (P 1) 1) (z4 : Zi w (.agg #[.bool false, .slice b2 m2 d2]) (Q 1) 1) : Qs w (.slice (some ⟨g, 0, none⟩) 2 2) 2 P Q 1 := by
  refine ⟨_, _, rfl, Nat.le_refl _, ⟨by omega, fun q => by cases q⟩, .inr ⟨g, 0, rfl, C.blk, fun j hj => ?_⟩⟩
  rcases (show j = 0 ∨ j = 1 by omega) with rfl | rfl
  · exact ⟨_, _, _, _, _, _, _, _, C.at (i := 0) rfl, C.at (i := 1) rfl, C.at (i := 2) rfl, C.at (i := 3) rfl, z1, z2⟩
  · exact ⟨_, _, _, _, _, _, _, _, C.at (i := 4) rfl, C.at (i := 5) rfl, C.at (i := 6) rfl, C.at (i := 7) rfl, z3, z4⟩
theorem qc_two {w : World} {g : Nat} {a1 a2 b1 b2 : Option Addr} {l1 c1 l2 c2 m1 d1 m2 d2 : Nat} {R : Nat → Rat} (C : Cel w g 47 (fr8 a1 l1 c1 a2 l2 c2 b1 m1 d1 b2 m2 d2)) (z1 : Zc w (.agg #[.bool false, .slice a1 l1 c1]) (R 0).num 1) (z2 : Zc w (.agg #[.bool false, .slice a2 l2 c2]) ((R 0).den : Int) 1) (z3 : Zc w (.agg #[.bool false, .slice b1 m1 d1]) (R 1).num 1) (z4 : Zc w (.agg #[.bool false, .slice b2 m2 d2]) ((R 1).den : Int) 1) : Qc w (.slice (some ⟨g, 0, none⟩) 2 2) 2 R 1 := by
  refine ⟨_, _, rfl, Nat.le_refl _, ⟨by omega, fun q => by cases q⟩, .inr ⟨g, 0, rfl, C.blk, fun j hj => ?_⟩⟩
  rcases (show j = 0 ∨ j = 1 by omega) with rfl | rfl
  · exact ⟨_, _, _, _, _, _, _, _, C.at (i := 0) rfl, C.at (i := 1) rfl, C.at (i := 2) rfl, C.at (i := 3) rfl, z1, z2⟩
  · exact ⟨_, _, _, _, _, _, _, _, C.at (i := 4) rfl, C.at (i := 5) rfl, C.at (i := 6) rfl, C.at (i := 7) rfl, z3, z4⟩
def awP (_ : Nat) : Int := 1
def awQ (t : Nat) : Int := if t = 0 then 2 else 3
def awR (t : Nat) : Rat := if t = 0 then 1 else Rat.divInt 2 3
theorem awR0 : (awR 0).num = 1 ∧ ((awR 0).den : Int) = 1 := ⟨by decide +kernel, by decide +kernel⟩
theorem awR1 : (awR 1).num = 2 ∧ ((awR 1).den : Int) = 3 := ⟨by decide +kernel, by decide +kernel⟩
theorem aw_wd : Wd17 (1 * 2) awP awQ (fun _ => 2 * 1) ((1 * 2) * (2 * 1)) := by
  refine wd_even (fun t ht => ?_) fun t ht => ?_
  · unfold awQ; split <;> decide
  · rw [show pw 1 = 18446744073709551616 by decide]
    unfold awP awQ
    split <;> decide
theorem aw_form {E : Nat → Nat → Rat} {pv : List Nat} (h : Rref 1 2 E pv) (he : Eqv 2 1 E (qfr 2 awP awQ)) : pv = [0] ∧ ∀ t, t < 1 * 2 → E (t / 2) (t % 2) = awR t := by
  have e1 : Eqv 2 1 (fun i j => (2 : Rat) * qfr 2 awP awQ i j) (qfr 2 awP awQ) := Q17.eqv_scale (d := fun _ => 2) (fun _ _ => by decide) fun _ _ _ _ => rfl
  have v0 : (2 : Rat) * qfr 2 awP awQ 0 0 = 1 := by decide +kernel
  have v1 : (2 : Rat) * qfr 2 awP awQ 0 1 = Rat.divInt 2 3 := by decide +kernel
  have hN : Rref 1 2 (fun i j => (2 : Rat) * qfr 2 awP awQ i j) [0] := by
    have g : ∀ {t a : Nat}, [0][t]? = some a → t = 0 ∧ a = 0 := fun {t a} h => by
      match t, h with
      | 0, h => exact ⟨rfl, by simpa using h.symm⟩
      | t + 1, h => simp at h
    refine ⟨by simp, fun s t a b hst h1 h2 => ?_, fun t a h1 => ?_, fun t a i h1 hi => ?_, fun t a j h1 hj => ?_, fun i j h1 h2 h3 => ?_⟩
    · have := g h1; have := g h2; omega
    · have := g h1; omega
    · obtain ⟨rfl, rfl⟩ := g h1
      obtain rfl : i = 0 := by omega
      exact v0
    · have := g h1; omega
    · simp at h1; omega
  obtain ⟨u1, u2⟩ := Q17.Rref.unique Q17.fld17 h hN (he.trans e1.symm)
  refine ⟨u1, fun t ht => ?_⟩
  rcases (show t = 0 ∨ t = 1 by omega) with rfl | rfl
  · exact (u2 0 0 (by omega) (by omega)).trans v0
  · exact (u2 0 1 (by omega) (by omega)).trans v1
set_option maxHeartbeats 3200000 in
set_option maxRecDepth 100000 in
theorem awake17 {w : World} : Calls Tryz.prog 7 #[] w fun e w' => e = .returned (.bool true) ∧ Below w.heap.size w w' := by
  have H1 := hid (frac17 (w := w) (p := 1) (q := 2) (fun _ => num17_1) (fun _ => num17_2))
  go_enter Tryz.func7, Tryz.ntmps7
  go_wp2_with fail
  refine H1.out.mono ?_
  rintro e w1 ⟨a1, l1, c1, a2, l2, c2, rfl, z1, z2, b1⟩
  have Z1 := hid z1
  have Z2 := hid z2
  have G1 := hid b1
  have H2 := hid (frac17 (w := w1) (p := 1) (q := 3) (fun _ => num17_1) (fun _ => num17_3))
  clear H1 z1 z2 b1
  go_wp2_with fail
  refine H2.out.mono ?_
  rintro e w2 ⟨d1, m1, k1, d2, m2, k2, rfl, z3, z4, b2⟩
  obtain ⟨W, hW⟩ : ∃ W, w2.alloc (.cells #[.bool false, .slice a1 l1 c1, .bool false, .slice a2 l2 c2, .bool false, .slice d1 m1 k1, .bool false, .slice d2 m2 k2] 47) = W := ⟨_, rfl⟩
  obtain ⟨b3, sz3⟩ := alo1 w2 (.cells #[.bool false, .slice a1 l1 c1, .bool false, .slice a2 l2 c2, .bool false, .slice d1 m1 k1, .bool false, .slice d2 m2 k2] 47)
  rw [hW] at b3 sz3
  have CF : Cel W w2.heap.size 47 (fr8 a1 l1 c1 a2 l2 c2 d1 m1 k1 d2 m2 k2) := by rw [← hW]; exact Cel.new w2 _ _
  have HFM : Hid (Calls Tryz.prog 8 #[.agg #[.int .i64 1, .int .i64 2, .slice (some ⟨w2.heap.size, 0, none⟩) 2 2]] W (Formd17 W 1 2 awP awQ 6)) :=
    form_yes (rn := 1) (cn := 2) (qs_two (P := awP) (Q := awQ) CF ((Z1.out.now b2).now b3).zi ((Z2.out.now b2).now b3).zi (z3.now b3).zi (z4.now b3).zi) rfl (by omega) (by omega) (fun t ht => aw_wd.nz t ht) (by omega) (Nat.le_refl _) (fun f => form_size aw_wd (by omega) f) (by omega) (by omega)
  have G3 := hid (below_step (below_step G1.out b2) b3)
  have EW := hid hW
  clear H2 z3 z4 b2 b3 hW sz3 CF G1 Z1 Z2
  go_wp2_with fail
  rw [EW.out]
  refine HFM.out.mono ?_
  rintro e w4 ⟨g, va, pl, vc, E, pv, rfl, hpl, hF, hI, hR, hE, b4⟩
  obtain ⟨rfl, hv⟩ := aw_form hR hE
  obtain rfl : pl = 1 := by rw [← hpl]; rfl
  obtain ⟨a', cap', e', -, hg⟩ := hI.form
  obtain ⟨gv, rfl⟩ := hg (by simp)
  simp only [List.length_cons, List.length_nil, Value.slice.injEq] at e'
  obtain ⟨rfl, -, rfl⟩ := e'
  have y3 := hI.at (i := 0) (by simp)
  have QC := hid ((hF.qc (by omega)).congr hv)
  have G4 := hid (below_step G3.out b4)
  obtain ⟨W1, hW1⟩ : ∃ W1, w4.alloc (.cells #[.int .i64 1, .int .i64 2, .slice (some ⟨g, 0, none⟩) 2 2] 24) = W1 := ⟨_, rfl⟩
  obtain ⟨b5, sz5⟩ := alo1 w4 (.cells #[.int .i64 1, .int .i64 2, .slice (some ⟨g, 0, none⟩) 2 2] 24)
  rw [hW1] at b5 sz5
  have CQ : Cel W1 w4.heap.size 24 [.int .i64 1, .int .i64 2, .slice (some ⟨g, 0, none⟩) 2 2] := by rw [← hW1]; exact Cel.new w4 _ _
  have y0 := CQ.at (i := 0) rfl
  have y1 := CQ.at (i := 1) rfl
  have y2 := CQ.at (i := 2) rfl
  replace y3 := cnow b5 y3
  replace y3 : W1.cell? ⟨gv, 0, none⟩ = some (.int .i64 0) := y3
  replace QC := hid (QC.out.now b5)
  replace G4 := hid (below_step G4.out b5)
  have EW1 := hid hW1
  clear HFM hF hI hR hE b4 hpl hv b5 sz5 hW1 CQ EW G3
  go_wp2_with fail
  rw [EW1.out]
  clear EW1
  have KB : Hid (∀ w', Below W1.heap.size W1 w' → w'.cell? ⟨w4.heap.size, 0, none⟩ = some (.int .i64 1) ∧ w'.cell? ⟨w4.heap.size, 1, none⟩ = some (.int .i64 2) ∧ w'.cell? ⟨w4.heap.size, 2, none⟩ = some (.slice (some ⟨g, 0, none⟩) 2 2) ∧ w'.cell? ⟨gv, 0, none⟩ = some (.int .i64 0)) := fun w' h => ⟨cnow h y0, cnow h y1, cnow h y2, cnow h y3⟩
  refine wp_region_tail (fun w' => w'.cell? ⟨w4.heap.size, 0, none⟩ = some (.int .i64 1) ∧ w'.cell? ⟨w4.heap.size, 1, none⟩ = some (.int .i64 2) ∧ w'.cell? ⟨w4.heap.size, 2, none⟩ = some (.slice (some ⟨g, 0, none⟩) 2 2) ∧ w'.cell? ⟨gv, 0, none⟩ = some (.int .i64 0)) 21 (by kernel_rfl) ?_
  obtain ⟨D21, hD⟩ : ∃ D21, W1.drew = D21 := ⟨_, rfl⟩
  have GB : Hid (Below W1.heap.size W1 D21) := by unfold Hid; rw [← hD]; exact (Below.refl _ _).drew
  rw [hD]
  clear hD
  skip
  refine wpAnyT_list [(0, (.int .i64 0)), (1, (.bool true)), (2, (.bool true)), (3, (.slice (some ⟨gv, 0, none⟩) 1 vc)), (4, (.int .i64 1)), (5, (.bool true)), (6, (.bool true)), (7, (.bool true)), (8, (.slice (some ⟨gv, 0, none⟩) 1 vc)), (9, (.pointer (some ⟨gv, 0, none⟩))), (10, (.int .i64 0)), (11, (.bool true)), (12, (.bool true)), (13, (.bool true)), (14, (.agg #[.int .i64 1, .int .i64 2, .slice (some ⟨g, 0, none⟩) 2 2]))] 15 ?_ (KB.out _ GB.out) ?_
  · simp only [TakesV, gA9, g09, g19, Act.put, sI9, s09, s19]
    (repeat' (first | exact trivial | refine And.intro (Or.inl ⟨by rfl, ?_⟩) ?_)) <;> (intro w hSw; (try dsimp only at hSw); go_simp)
  simp only [actV, gA9, g09, g19, Act.put, sI9, s09, s19]
  refine wpAnyT_one (i := 15) (o := { dst := some 28, op := Op.call { callee := Callee.value (Operand.func 27), args := #[Operand.const (Value.int IntKind.i64 1), Operand.const (Value.int IntKind.i64 1)], argTypes := #[2, 2] }, type := 47, pos := "law.go:31", after := #[{ on := 13, ground := Ground.chain }, { on := 13, ground := Ground.guard }], guard := some (13, true) }) (by kernel_rfl) rfl (fun K hK => ?_)
  go_simp
  go_at_call 27
  refine (frac17 (fun _ => num17_1) (fun _ => num17_1)).mono ?_
  rintro e w22 ⟨e1, n1, o1, e2, n2, o2, rfl, z1, z2, b⟩
  have lz22 := (show Below _ _ _ from b).size
  replace GB := hid (below_step GB.out b)
  have Z1 := hid z1
  have Z2 := hid z2
  clear z1 z2
  clear b
  refine hK.out _ _ (fun _ => KB.out _ GB.out) ?_
  clear hK
  refine wpAnyT_one (i := 16) (o := { dst := some 29, op := Op.call { callee := Callee.value (Operand.func 27), args := #[Operand.const (Value.int IntKind.i64 2), Operand.const (Value.int IntKind.i64 3)], argTypes := #[2, 2] }, type := 47, pos := "law.go:31", after := #[{ on := 15, ground := Ground.chain }, { on := 13, ground := Ground.guard }], guard := some (13, true) }) (by kernel_rfl) rfl (fun K hK => ?_)
  go_simp
  go_at_call 27
  refine (frac17 (fun _ => num17_2) (fun _ => num17_3)).mono ?_
  rintro e w23 ⟨e3, n3, o3, e4, n4, o4, rfl, z3, z4, b⟩
  have lz23 := (show Below _ _ _ from b).size
  replace GB := hid (below_step GB.out b)
  replace Z1 := hid (Z1.out.now b)
  replace Z2 := hid (Z2.out.now b)
  have Z3 := hid z3
  have Z4 := hid z4
  clear z3 z4
  clear b
  refine hK.out _ _ (fun _ => KB.out _ GB.out) ?_
  clear hK
  refine wpAnyT_one (i := 17) (o := { dst := some 30, op := Op.buildSlice 22 2 #[(0, Operand.tmp 28), (1, Operand.tmp 29)], type := 22, pos := "law.go:31", after := #[{ on := 15, ground := Ground.data }, { on := 16, ground := Ground.data }, { on := 13, ground := Ground.guard }], guard := some (13, true) }) (by kernel_rfl) rfl (fun K hK => ?_)
  go_simp
  obtain ⟨V24, hW⟩ : ∃ V24, w23.alloc (.cells #[.bool false, .slice e1 n1 o1, .bool false, .slice e2 n2 o2, .bool false, .slice e3 n3 o3, .bool false, .slice e4 n4 o4] 47) = V24 := ⟨_, rfl⟩
  obtain ⟨b, sz24⟩ := alo1 w23 (.cells #[.bool false, .slice e1 n1 o1, .bool false, .slice e2 n2 o2, .bool false, .slice e3 n3 o3, .bool false, .slice e4 n4 o4] 47)
  rw [hW] at b sz24
  replace GB := hid (below_step GB.out b)
  have CF : Cel V24 w23.heap.size 47 (fr8 e1 n1 o1 e2 n2 o2 e3 n3 o3 e4 n4 o4) := by rw [← hW]; exact Cel.new w23 _ _
  have QD : Hid (Qc V24 (.slice (some ⟨w23.heap.size, 0, none⟩) 2 2) 2 awR 1) := qc_two CF (by rw [awR0.1]; exact (Z1.out.now b).zc) (by rw [awR0.2]; exact (Z2.out.now b).zc) (by rw [awR1.1]; exact (Z3.out.now b).zc) (by rw [awR1.2]; exact (Z4.out.now b).zc)
  clear Z1 Z2 Z3 Z4 CF
  rw [hW]
  clear hW b
  refine hK.out _ _ (fun _ => KB.out _ GB.out) ?_
  clear hK
  try simp only [Act.put]
  refine wpAnyT_list [(18, (.agg #[.int .i64 1, .int .i64 2, .slice (some ⟨w23.heap.size, 0, none⟩) 2 2]))] 1 ?_ (KB.out _ GB.out) ?_
  · simp only [TakesV, gA9, g09, g19, Act.put, sI9, s09, s19]
    (repeat' (first | exact trivial | refine And.intro (Or.inl ⟨by rfl, ?_⟩) ?_)) <;> (intro w hSw; (try dsimp only at hSw); go_simp)
  simp only [actV, gA9, g09, g19, Act.put, sI9, s09, s19]
  refine wpAnyT_one (i := 19) (o := { dst := some 32, op := Op.call { callee := Callee.value (Operand.func 14), args := #[Operand.tmp 27, Operand.tmp 31], argTypes := #[24, 24] }, type := 4, pos := "law.go:31", after := #[{ on := 14, ground := Ground.data }, { on := 18, ground := Ground.data }, { on := 16, ground := Ground.chain }, { on := 13, ground := Ground.guard }], guard := some (13, true) }) (by kernel_rfl) rfl (fun K hK => ?_)
  go_simp
  go_at_call 14
  refine ((show Calls Tryz.prog 14 #[.agg #[.int .i64 1, .int .i64 2, .slice (some ⟨g, 0, none⟩) 2 2], .agg #[.int .i64 1, .int .i64 2, .slice (some ⟨w23.heap.size, 0, none⟩) 2 2]] V24 _ from likeMat17 (r := 1) (c := 2) (QC.out.now GB.out) QD.out fun _ _ => rfl)).mono ?_
  rintro e w25 ⟨rfl, b⟩
  have lz25 := (show Below _ _ _ from b).size
  replace GB := hid (below_step GB.out b)
  clear b
  refine hK.out _ _ (fun _ => KB.out _ GB.out) ?_
  clear hK
  refine wpAnyT_list [(20, (.bool true))] 1 ?_ (KB.out _ GB.out) ?_
  · simp only [TakesV, gA9, g09, g19, Act.put, sI9, s09, s19]
    (repeat' (first | exact trivial | refine And.intro (Or.inl ⟨by rfl, ?_⟩) ?_)) <;> (intro w hSw; (try dsimp only at hSw); go_simp)
  simp only [actV, gA9, g09, g19, Act.put, sI9, s09, s19]
  refine wpAnyT_one (i := 21) (o := { dst := some 0, op := Op.assign (Operand.tmp 33), type := 4, pos := "law.go:31", after := #[{ on := 20, ground := Ground.data }, { on := 19, ground := Ground.chain }, { on := 0, ground := Ground.phase }, { on := 1, ground := Ground.phase }, { on := 2, ground := Ground.phase }, { on := 3, ground := Ground.phase }, { on := 4, ground := Ground.phase }, { on := 5, ground := Ground.phase }, { on := 6, ground := Ground.phase }, { on := 7, ground := Ground.phase }, { on := 8, ground := Ground.phase }, { on := 9, ground := Ground.phase }, { on := 10, ground := Ground.phase }, { on := 11, ground := Ground.phase }, { on := 12, ground := Ground.phase }, { on := 13, ground := Ground.phase }, { on := 14, ground := Ground.phase }, { on := 15, ground := Ground.phase }, { on := 16, ground := Ground.phase }, { on := 17, ground := Ground.phase }, { on := 18, ground := Ground.phase }, { on := 19, ground := Ground.phase }, { on := 20, ground := Ground.phase }], guard := none }) (by kernel_rfl) rfl (fun K hK => ?_)
  go_simp
  refine hK.out _ _ (fun h => absurd h (by decide)) ?_
  clear hK
  try simp only [Act.put]
  refine wpAnyT_done (by kernel_rfl) ?_ _
  have FIN := hid (below_step G4.out GB.out)
  clear GB KB QC QD G4 y0 y1 y2 y3
  go_wp2
  go_ret
  exact ⟨rfl, FIN.out⟩
end Go.Proofs.YtcceoildbnoliaaGreat
