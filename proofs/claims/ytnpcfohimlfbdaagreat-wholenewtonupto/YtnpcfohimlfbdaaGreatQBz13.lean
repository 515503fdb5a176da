/-
 Bz13: elimination without fractions, in numbers: bordered determinants, the step from one to the next, rows that depend on others. Plain mathematics: nothing of the program.
-/
import Derived.Test.YtnpcfohimlfbdaaGreatQDz12ToDu12
set_option maxRecDepth 100000
set_option maxHeartbeats 6400000
set_option linter.unusedVariables false
set_option linter.unusedSimpArgs false
namespace Go.Proofs.YtnpcfohimlfbdaaGreat

/-- With the last row of the unit matrix. -/
theorem det_corner : ∀ (n : Nat) (A : Nat → Nat → Int), det (n + 1) (stR A n (dlz n)) = det n A
 | 0, A => by
  show su 1 _ = 1
  rw [su_one (i := 0) (by omega) fun k _ hk => by omega]
  rw [stR_at]; simp [sgd, dlz, det]
 | n + 1, A => by
  show su (n + 2) _ = su (n + 1) _
  show su (n + 1) _ + sgd (n + 1) * stR A (n + 1) (dlz (n + 1)) (n + 1) 0 * _ = _
  have h0 : stR A (n + 1) (dlz (n + 1)) (n + 1) 0 = 0 := by rw [stR_at]; simp [dlz]
  rw [h0, Int.mul_zero, Int.zero_mul, Int.add_zero]
  refine su_congr fun i hi => ?_
  have e : det (n + 1) (fun r c => stR A (n + 1) (dlz (n + 1)) (skd i r) (c + 1)) = det (n + 1) (stR (fun r c => A (skd i r) (c + 1)) n (dlz n)) := det_congr fun r c hr hc => by
   by_cases q : r = n
   ·subst q
    have e1 : skd i r = r + 1 := by unfold skd; rw [if_neg (by omega)]
    rw [stR_at, e1, stR_at]; simp [dlz]
   ·rw [stR_off _ q, stR_off _ (by unfold skd; split <;> omega)]
  rw [e, det_corner n, stR_off _ (by omega)]

/-- A combination of the rows in place of one of them. -/
theorem det_comb {n r : Nat} (A : Nat → Nat → Int) (hr : r < n) (x : Nat → Int) : det n (stR A r fun j => su n fun k => x k * A k j) = x r * det n A := by
 rw [(det_alt n).sum hr x A n, su_one hr fun k hk hne => ?_, stR_self]
 rw [(det_alt n).same (A := stR A r (A k)) hr hk (Ne.symm hne) fun j _ => by rw [stR_at, stR_off _ hne]]
 simp
/-- Rows that give 0 with factors of which one is not 0. -/
theorem det_dep {n r : Nat} (A : Nat → Nat → Int) (hr : r < n) (x : Nat → Int) (hx : x r ≠ 0) (h : ∀ j, j < n → su n (fun k => x k * A k j) = 0) : det n A = 0 := by
 have h1 := det_comb A hr x
 rw [(det_alt n).nul (A := stR A r fun j => su n fun k => x k * A k j) hr fun j hj => by rw [stR_at]; exact h j hj] at h1
 rcases Int.mul_eq_zero.1 h1.symm with h2 | h2
 ·exact absurd h2 hx
 ·exact h2
theorem det_samecol {n a b : Nat} (A : Nat → Nat → Int) (ha : a < n) (hb : b < n) (hab : a ≠ b) (h : ∀ i, i < n → A i a = A i b) : det n A = 0 := by
 rw [← det_turn]
 exact (det_alt n).same ha hb hab fun j hj => h j hj

/-- The first k of R, then r. -/
def bor (k : Nat) (R : Nat → Nat) (r : Nat) : Nat → Nat := fun a => if a < k then R a else r
/-- The determinant at the rows R 0, .., R (k - 1), r and the columns C 0, .., C (k - 1), j. -/
def mi (A : Nat → Nat → Int) (R C : Nat → Nat) (k r j : Nat) : Int := det (k + 1) fun a b => A (bor k R r a) (bor k C j b)
/-- The determinant at the rows R and the columns C, k of them. -/
def dd (A : Nat → Nat → Int) (R C : Nat → Nat) (k : Nat) : Int := det k fun a b => A (R a) (C b)
theorem bor_lt {k a r : Nat} {R : Nat → Nat} (h : a < k) : bor k R r a = R a := if_pos h
theorem bor_eq {k r : Nat} {R : Nat → Nat} : bor k R r k = r := if_neg (by omega)
theorem mi_dd (A : Nat → Nat → Int) (R C : Nat → Nat) (k : Nat) : mi A R C k (R k) (C k) = dd A R C (k + 1) := det_congr fun i j hi hj => by
 have e : ∀ (X : Nat → Nat) a, a < k + 1 → bor k X (X k) a = X a := fun X a ha => by
  by_cases q : a < k
  ·exact bor_lt q
  ·obtain rfl : a = k := by omega
   exact bor_eq
 rw [e R i hi, e C j hj]
theorem mi_zero (A : Nat → Nat → Int) (R C : Nat → Nat) (r j : Nat) : mi A R C 0 r j = A r j := by
 show su 1 _ = _
 rw [su_one (i := 0) (by omega) fun k _ hk => by omega]
 simp [sgd, det, bor]
theorem mi_old (A : Nat → Nat → Int) (R C : Nat → Nat) {k b : Nat} (r : Nat) (hb : b < k) : mi A R C k r (C b) = 0 :=
 det_samecol _ (show b < k + 1 by omega) (show k < k + 1 by omega) (by omega) fun i _ => by rw [bor_lt hb, bor_eq]
/-- By the last column: the factors hang on the row alone. -/
theorem mi_lin (A : Nat → Nat → Int) (R C : Nat → Nat) (k r : Nat) : ∃ e : Nat → Int, e k = dd A R C k ∧ ∀ j, mi A R C k r j = su (k + 1) fun a => e a * A (bor k R r a) j := by
 refine ⟨fun a => det (k + 1) (stR (fun b a => A (bor k R r a) (C b)) k (dlz a)), ?_, fun j => ?_⟩
 ·show det (k + 1) (stR (fun b a => A (bor k R r a) (C b)) k (dlz k)) = _
  rw [det_corner]
  show _ = det k _
  rw [← det_turn]
  exact det_congr fun i j hi hj => by rw [bor_lt hi]
 ·have e1 : mi A R C k r j = det (k + 1) (stR (fun b a => A (bor k R r a) (C b)) k fun a => su (k + 1) fun i => A (bor k R r i) j * dlz i a) := by
   unfold mi
   rw [← det_turn]
   refine det_congr fun b a hb ha => ?_
   by_cases q : b = k
   ·subst q
    rw [stR_at, bor_eq, su_one (i := a) ha fun i _ hi => by unfold dlz; rw [if_neg hi]; simp]
    unfold dlz; simp
   ·rw [stR_off _ q, bor_lt (R := C) (by omega)]
  rw [e1, (det_alt (k + 1)).sum (by omega)]
  exact su_congr fun a _ => Int.mul_comm _ _
/-- Two last rows that begin at the last two columns. -/
theorem det_two (k : Nat) (B : Nat → Nat → Int) (u v : Nat → Int) (hu : ∀ j, j < k → u j = 0) (hv : ∀ j, j < k → v j = 0) :
  det (k + 2) (stR (stR B k u) (k + 1) v) = (u k * v (k + 1) - u (k + 1) * v k) * det k B := by
 have H := det_alt (k + 2)
 have D1 : det (k + 2) (stR (stR B k (dlz k)) (k + 1) (dlz (k + 1))) = det k B := by
  rw [det_corner (k + 1), det_corner k]
 have D2 : det (k + 2) (stR (stR B k (dlz (k + 1))) (k + 1) (dlz k)) = - det k B := by
  rw [← D1]
  have := H.swap (A := stR (stR B k (dlz k)) (k + 1) (dlz (k + 1))) (i := k) (k := k + 1) (by omega) (by omega) (by omega)
  rw [← this]
  refine det_congr fun i j _ _ => ?_
  by_cases q : i = k + 1
  ·subst q; rw [stR_at, stR_at, stR_off _ (by omega), stR_at]
  ·rw [stR_off _ q, stR_off _ q]
   by_cases q2 : i = k
   ·subst q2; rw [stR_at, stR_at, stR_at]
   ·rw [stR_off _ q2, stR_off _ q2, stR_off _ q, stR_off _ q2]
 have D3 : ∀ x : Nat → Int, det (k + 2) (stR (stR B k x) (k + 1) x) = 0 := fun x => H.same (i := k) (k := k + 1) (by omega) (by omega) (by omega) fun j _ => by rw [stR_off _ (by omega), stR_at, stR_at]
 have eu : ∀ (B : Nat → Nat → Int) (i : Nat) (u : Nat → Int), i < k + 2 → (∀ j, j < k → u j = 0) → ∀ B', (∀ a, a ≠ i → B' a = B a) → B' i = u → det (k + 2) B' = u k * det (k + 2) (stR B i (dlz k)) + u (k + 1) * det (k + 2) (stR B i (dlz (k + 1))) := fun B i u hi hu B' h1 h2 => by
  rw [← H.lin B i (dlz k) (dlz (k + 1)) (u k) (u (k + 1)) hi]
  refine det_congr fun a j ha hj => ?_
  by_cases q : a = i
  ·subst q
   rw [stR_at, h2]
   by_cases q1 : j = k
   ·subst q1; simp [dlz]
   ·by_cases q2 : j = k + 1
    ·subst q2; simp [dlz]
    ·rw [hu j (by omega)]; simp [dlz, Ne.symm q1, Ne.symm q2]
  ·rw [stR_off _ q, h1 a q]
 rw [eu (stR B k u) (k + 1) v (by omega) hv _ (fun a ha => stR_off _ ha _) (stR_at _ _ _)]
 have f : ∀ x : Nat → Int, det (k + 2) (stR (stR B k u) (k + 1) x) = u k * det (k + 2) (stR (stR B k (dlz k)) (k + 1) x) + u (k + 1) * det (k + 2) (stR (stR B k (dlz (k + 1))) (k + 1) x) := fun x => by
  rw [stR_two (by omega : k ≠ k + 1), stR_two (by omega : k ≠ k + 1), stR_two (by omega : k ≠ k + 1)]
  exact eu (stR B (k + 1) x) k u (by omega) hu _ (fun a ha => stR_off _ ha _) (stR_at _ _ _)
 rw [f, f, D1, D2, D3, D3]
 grind
/-- A row of the matrix times p, and multiples of the k first rows. -/
theorem det_more {n k i : Nat} (B : Nat → Nat → Int) (hi : i < n) (hk : k ≤ i) (e : Nat → Int) (p : Int) :
  det n (stR B i fun j => (su k fun a => e a * B a j) + p * B i j) = p * det n B := by
 have H := det_alt n
 rw [H.add hi, H.sum hi e B k, H.mul hi, stR_self, su_zero fun a ha => ?_, Int.zero_add]
 rw [H.same (A := stR B i (B a)) hi (show a < n by omega) (by omega) fun j _ => by rw [stR_at, stR_off _ (by omega)]]
 simp
/-- The step of the elimination. -/
theorem mi_step (A : Nat → Nat → Int) (R C : Nat → Nat) (k r j : Nat) (hp : dd A R C k ≠ 0) :
  dd A R C (k + 1) * mi A R C k r j - mi A R C k r (C k) * mi A R C k (R k) j = dd A R C k * mi A R C (k + 1) r j := by
 obtain ⟨e, e0, he⟩ := mi_lin A R C k r
 obtain ⟨f, f0, hf⟩ := mi_lin A R C k (R k)
 have HB : ∃ B : Nat → Nat → Int, B = fun a b => A (bor (k + 1) R r a) (bor (k + 1) C j b) := ⟨_, rfl⟩
 obtain ⟨B, hB⟩ := HB
 have HG : ∃ G : Nat → Nat, G = bor (k + 1) C j := ⟨_, rfl⟩
 obtain ⟨G, hG⟩ := HG
 have Glt : ∀ b, b < k → G b = C b := fun b hb => by rw [hG]; exact bor_lt (by omega)
 have Gk : G k = C k := by rw [hG]; exact bor_lt (by omega)
 have Gk1 : G (k + 1) = j := by rw [hG]; exact bor_eq
 have Bat : ∀ a b, B a b = A (bor (k + 1) R r a) (G b) := fun a b => by rw [hB, hG]
 have row1 : ∀ b, (su k fun a => f a * B a b) + dd A R C k * B k b = mi A R C k (R k) (G b) := fun b => by
  rw [hf]
  show _ = (su k _) + f k * A (bor k R (R k) k) (G b)
  rw [f0, bor_eq, Bat, bor_lt (by omega : k < k + 1)]
  congr 1
  exact su_congr fun a ha => by rw [Bat, bor_lt (by omega), bor_lt ha]
 have row2 : ∀ b, (su k fun a => e a * B a b) + dd A R C k * B (k + 1) b = mi A R C k r (G b) := fun b => by
  rw [he]
  show _ = (su k _) + e k * A (bor k R r k) (G b)
  rw [e0, bor_eq, Bat, bor_eq]
  congr 1
  exact su_congr fun a ha => by rw [Bat, bor_lt (by omega), bor_lt ha]
 have h1 := det_more (n := k + 2) (k := k) (i := k + 1) B (by omega) (by omega) e (dd A R C k)
 have h2 := det_more (n := k + 2) (k := k) (i := k) (stR B (k + 1) fun b => (su k fun a => e a * B a b) + dd A R C k * B (k + 1) b) (by omega) (by omega) f (dd A R C k)
 have h3 := det_two k B (fun b => mi A R C k (R k) (G b)) (fun b => mi A R C k r (G b)) (fun b hb => by rw [Glt b hb]; exact mi_old A R C _ hb) (fun b hb => by rw [Glt b hb]; exact mi_old A R C _ hb)
 have e4 : det (k + 2) (stR (stR B k fun b => mi A R C k (R k) (G b)) (k + 1) fun b => mi A R C k r (G b)) = dd A R C k * (dd A R C k * det (k + 2) B) := by
  rw [← h1, ← h2, stR_two (by omega : k ≠ k + 1)]
  refine det_congr fun a b _ _ => ?_
  by_cases q : a = k
  ·subst q
   rw [stR_at, stR_at, ← row1, stR_off _ (by omega)]
   congr 1
   exact su_congr fun a' ha' => by rw [stR_off _ (by omega)]
  ·rw [stR_off _ q, stR_off _ q]
   by_cases q2 : a = k + 1
   ·subst q2; rw [stR_at, stR_at, row2]
   ·rw [stR_off _ q2, stR_off _ q2]
 rw [e4] at h3
 have e5 : det k B = dd A R C k := det_congr fun a b ha hb => by rw [Bat, Glt b hb, bor_lt (by omega)]
 have e6 : det (k + 2) B = mi A R C (k + 1) r j := by rw [hB]; rfl
 rw [e5, e6] at h3
 simp only [Gk, Gk1] at h3
 rw [mi_dd] at h3
 have h4 : dd A R C k * (dd A R C k * mi A R C (k + 1) r j) = dd A R C k * (dd A R C (k + 1) * mi A R C k r j - mi A R C k r (C k) * mi A R C k (R k) j) := by rw [h3]; grind
 exact (Int.eq_of_mul_eq_mul_left hp h4).symm

/-- The size of a determinant. -/
theorem su_abs : ∀ {n : Nat} {f : Nat → Int} {X : Nat}, (∀ k, k < n → (f k).natAbs ≤ X) → (su n f).natAbs ≤ n * X
 | 0, _, _, _ => by simp [su]
 | n + 1, f, X, h => by
  have h1 := su_abs (n := n) (f := f) (X := X) fun k hk => h k (by omega)
  have h2 := h n (by omega)
  have : (su n f + f n).natAbs ≤ (su n f).natAbs + (f n).natAbs := Int.natAbs_add_le _ _
  show (su n f + f n).natAbs ≤ (n + 1) * X
  rw [Nat.succ_mul]; omega
theorem sgd_abs : ∀ i : Nat, (sgd i).natAbs = 1
 | 0 => rfl
 | i + 1 => by show (- sgd i).natAbs = 1; rw [Int.natAbs_neg]; exact sgd_abs i
theorem det_abs {X N : Nat} : ∀ {n : Nat} {A : Nat → Nat → Int}, n ≤ N → (∀ i j, i < n → j < n → (A i j).natAbs ≤ X) → (det n A).natAbs ≤ (N * X) ^ n
 | 0, _, _, _ => by simp [det]
 | n + 1, A, hn, h => by
  have h1 : (su (n + 1) fun i => sgd i * A i 0 * det n (fun r c => A (skd i r) (c + 1))).natAbs ≤ (n + 1) * (X * (N * X) ^ n) := su_abs fun i hi => by
   have h2 := det_abs (X := X) (N := N) (n := n) (A := fun r c => A (skd i r) (c + 1)) (by omega) fun a b ha hb => h (skd i a) (b + 1) (by unfold skd; split <;> omega) (by omega)
   rw [Int.natAbs_mul, Int.natAbs_mul, sgd_abs, Nat.one_mul]
   exact Nat.mul_le_mul (h i 0 hi (by omega)) h2
  have h3 : (n + 1) * (X * (N * X) ^ n) ≤ N * (X * (N * X) ^ n) := Nat.mul_le_mul_right _ hn
  have h4 : N * (X * (N * X) ^ n) = (N * X) ^ (n + 1) := by rw [Nat.pow_succ, Nat.mul_comm _ (N * X), Nat.mul_assoc]
  show (su (n + 1) _).natAbs ≤ _
  omega
theorem mi_abs {A : Nat → Nat → Int} {X N : Nat} (R C : Nat → Nat) {k r j : Nat} (hk : k + 1 ≤ N) (h : ∀ i j, (A i j).natAbs ≤ X) : (mi A R C k r j).natAbs ≤ (N * X) ^ (k + 1) := det_abs hk fun _ _ _ _ => h _ _
end Go.Proofs.YtnpcfohimlfbdaaGreat
