/-
  QAlikeToExact0: Alike, Exact0, joined.
-/
import Derived.Test.YtbamffggnnacaaaDoorQZAdd
import Derived.Test.YtbamffggnnacaaaDoorQDivMod

/- Alike -/
namespace Go.Proofs.YtbamffggnnacaaaDoor
open Go.RowKit
set_option linter.unusedVariables false

/-- A list of integers in whatever form, each of at most k words. -/
def Zl (w : World) (v : Value) (zs : List Int) (k : Nat) : Prop :=
  ∃ a c, v = .slice a zs.length c ∧ zs.length ≤ c ∧ zs.length ≤ 1048576 ∧ (zs = [] ∨ ∃ b off, a = some ⟨b, off, none⟩ ∧ b < w.heap.size ∧ ∀ j (h : j < zs.length), ∃ x y, w.cell? ⟨b, off + 2 * j, none⟩ = some x ∧ w.cell? ⟨b, off + 2 * j + 1, none⟩ = some y ∧ Zi w (.agg #[x, y]) zs[j] k)
theorem Zl.now {w w' : World} {v : Value} {zs : List Int} {k : Nat} (h : Zl w v zs k) (hb : Below w.heap.size w w') : Zl w' v zs k := by
  obtain ⟨a, c, h1, h2, h3, h4⟩ := h
  refine ⟨a, c, h1, h2, h3, ?_⟩
  rcases h4 with h4 | ⟨b, off, h5, h6, h7⟩
  · exact .inl h4
  · refine .inr ⟨b, off, h5, Nat.lt_of_lt_of_le h6 hb.size, fun j hj => ?_⟩
    obtain ⟨x, y, q1, q2, q3⟩ := h7 j hj
    exact ⟨x, y, (hb.cell (p := ⟨b, off + 2 * j, none⟩) h6).trans q1, (hb.cell (p := ⟨b, off + 2 * j + 1, none⟩) h6).trans q2, q3.now hb⟩
def zsum (zs : List Int) : Int := zs.foldr (· + ·) 0
theorem zsum_append (xs ys : List Int) : zsum (xs ++ ys) = zsum xs + zsum ys := by
  induction xs with
  | nil => simp [zsum]
  | cons x r ih => simp [zsum] at ih ⊢; omega
theorem Zl.taken {w : World} {a : Option Addr} {len c : Nat} {zs : List Int} {k : Nat} (h : Zl w (.slice a len c) zs k) {n : Nat} (hn : n ≤ zs.length) : Zl w (.slice a n c) (zs.take n) k := by
  obtain ⟨a', c', he, h2, h2', h3⟩ := h
  simp only [Value.slice.injEq] at he
  obtain ⟨rfl, rfl, rfl⟩ := he
  have e : (zs.take n).length = n := by simp; omega
  refine ⟨a, c, by rw [e], by omega, by omega, ?_⟩
  rcases h3 with rfl | ⟨b, off, h4, h5, h6⟩
  · exact .inl (by simp)
  · refine .inr ⟨b, off, h4, h5, fun j hj => ?_⟩
    rw [e] at hj
    have := h6 j (by omega)
    simpa using this
theorem Zl.dropped {w : World} {b off : Nat} {len c : Nat} {zs : List Int} {k : Nat} (h : Zl w (.slice (some ⟨b, off, none⟩) len c) zs k) {n : Nat} (hn : n ≤ zs.length) : Zl w (.slice (some ⟨b, off + 2 * n, none⟩) (len - n) (c - n)) (zs.drop n) k := by
  obtain ⟨a', c', he, h2, h2', h3⟩ := h
  simp only [Value.slice.injEq] at he
  obtain ⟨rfl, rfl, rfl⟩ := he
  have e : (zs.drop n).length = zs.length - n := by simp
  refine ⟨_, _, by rw [e], by omega, by omega, ?_⟩
  rcases h3 with rfl | ⟨b', off', h4, h5, h6⟩
  · exact .inl (by simp)
  · simp only [Option.some.injEq, Addr.mk.injEq, and_true] at h4
    obtain ⟨rfl, rfl⟩ := h4
    refine .inr ⟨b, off + 2 * n, rfl, h5, fun j hj => ?_⟩
    rw [e] at hj
    have := h6 (n + j) (by omega)
    rw [Nat.mul_add, ← Nat.add_assoc] at this
    simpa using this

end Go.Proofs.YtbamffggnnacaaaDoor

/- Exact0 -/
namespace Go.Proofs.YtbamffggnnacaaaDoor
open Go.RowKit
set_option linter.unusedVariables false

/-- Quotient and rest are one pair. -/
theorem div_one {X Y q r q' r' : Int} (h : X = Y * q + r) (h' : X = Y * q' + r') (a : 0 ≤ r) (b : r < Y) (a' : 0 ≤ r') (b' : r' < Y) : q' = q ∧ r' = r := by
  have e : Y * (q' - q) = r - r' := by rw [Int.mul_sub]; omega
  rcases Int.lt_trichotomy (q' - q) 0 with k | k | k
  · have := Int.mul_le_mul_of_nonneg_left (show q' - q ≤ -1 by omega) (show 0 ≤ Y by omega)
    rw [Int.mul_neg, Int.mul_one] at this
    omega
  · rw [k, Int.mul_zero] at e
    omega
  · have := Int.mul_le_mul_of_nonneg_left (show 1 ≤ q' - q by omega) (show 0 ≤ Y by omega)
    rw [Int.mul_one] at this
    omega

/-- What Exact answers, b not being 0. -/
def Exacted (w : World) (xs ys : List Int) (e : Ending) (w' : World) : Prop :=
  ∃ qs rs, Canon qs ∧ Canon rs ∧ val xs = val ys * val qs + val rs ∧ val rs < val ys ∧ qs.length ≤ xs.length ∧ Below w.heap.size w w' ∧
    ((rs = [] ∧ ∃ q, e = .returned (.tuple #[q, .int .i64 0]) ∧ Own w.heap.size w' q qs) ∨ (rs ≠ [] ∧ e = .returned (.tuple #[.slice none 0 0, .int .i64 8])))

end Go.Proofs.YtbamffggnnacaaaDoor
