/-
  Bits: the number of a list of words as a natural number, its binary digits, its length and its twos. Plain mathematics.
-/
import Derived.Test.YtachdicdfhfoaaaQWords
import Derived.Laws.MathBits
import Derived.Lib.TrailingZeros
namespace Go.Proofs.Ytachdicdfhfoaaa

/-- The number that a list of words is. -/
def vn : List Int → Nat
  | [] => 0
  | x :: r => x.toNat + 2 ^ 64 * vn r
theorem val_vn : ∀ {xs : List Int}, WF xs → val xs = (vn xs : Int)
  | [], _ => rfl
  | x :: r, h => by
    have h1 := h.head
    unfold IsW wB at h1
    rw [val, vn, val_vn h.tail]
    unfold wB
    omega
theorem vn_eq {xs ys : List Int} (hx : WF xs) (hy : WF ys) : vn xs = vn ys ↔ val xs = val ys := by
  rw [val_vn hx, val_vn hy]; omega
theorem toNat_lt {x : Int} (h : IsW x) : x.toNat < 2 ^ 64 := by unfold IsW wB at h; omega
theorem vn_lt : ∀ {xs : List Int}, WF xs → vn xs < 2 ^ (64 * xs.length)
  | [], _ => by simp [vn]
  | x :: r, h => by
    have h1 := toNat_lt h.head
    have h2 := vn_lt h.tail
    rw [vn, List.length_cons, show 64 * (r.length + 1) = 64 + 64 * r.length by omega, Nat.pow_add]
    have := Nat.mul_le_mul_left (2 ^ 64) (Nat.succ_le_of_lt h2)
    rw [Nat.mul_succ] at this
    omega
theorem vn_append : ∀ (xs ys : List Int), vn (xs ++ ys) = vn xs + 2 ^ (64 * xs.length) * vn ys
  | [], ys => by simp [vn]
  | x :: r, ys => by
    rw [List.cons_append, vn, vn, vn_append r ys, List.length_cons, show 64 * (r.length + 1) = 64 + 64 * r.length by omega, Nat.pow_add, Nat.mul_add, Nat.mul_assoc]
    omega
theorem vn_zeros {xs : List Int} (h : ∀ x ∈ xs, x = 0) : vn xs = 0 := by
  induction xs with
  | nil => rfl
  | cons x r ih => rw [vn, h x (by simp), ih (fun y hy => h y (by simp [hy]))]; simp
/-- A binary digit, by its word. -/
theorem vn_bit : ∀ {xs : List Int}, WF xs → ∀ t, (vn xs).testBit t = ((xs.getD (t / 64) 0).toNat).testBit (t % 64)
  | [], _, t => by simp [vn]
  | x :: r, h, t => by
    have h1 := toNat_lt h.head
    rw [vn, Nat.add_comm, Nat.testBit_two_pow_mul_add _ h1]
    by_cases ht : t < 64
    · rw [if_pos ht, Nat.div_eq_of_lt ht, Nat.mod_eq_of_lt ht]; simp
    · rw [if_neg ht, vn_bit h.tail]
      have e1 : t / 64 = (t - 64) / 64 + 1 := by omega
      have e2 : t % 64 = (t - 64) % 64 := by omega
      rw [e1, e2]; simp
theorem bit_of (v t : Nat) : v.testBit t = decide (v / 2 ^ t % 2 = 1) := Nat.testBit_eq_decide_div_mod_eq
theorem bit_val (v t : Nat) : v / 2 ^ t % 2 = if v.testBit t then 1 else 0 := by
  rw [bit_of]
  by_cases h : v / 2 ^ t % 2 = 1
  · simp [h]
  · simp [h]; omega
/-- The length by the top word. -/
theorem bitLen_top {lo top s : Nat} (h : lo < 2 ^ s) (ht : top ≠ 0) : bitLen (lo + 2 ^ s * top) = s + bitLen top := by
  have hp : 0 < 2 ^ s := Nat.two_pow_pos s
  have e : (lo + 2 ^ s * top) / 2 ^ s = top := by
    rw [Nat.add_mul_div_left _ _ hp, Nat.div_eq_of_lt h]; omega
  rw [bitLen_shift _ s (by rw [e]; exact ht), e]
theorem lst_split {xs : List Int} {n : Nat} (hn : wid xs = n + 1) (h : n < xs.length) : lst xs = xs.take n ++ [xs[n]] := by
  unfold lst; rw [hn, List.take_succ_eq_append_getElem h]
theorem wid_top : ∀ {xs : List Int} {n : Nat}, wid xs = n + 1 → ∃ h : n < xs.length, xs[n] ≠ 0
  | [], n, h => by simp [wid] at h
  | x :: r, n, h => by
    unfold wid at h
    split at h
    · split at h
      · cases h
      · have : n = 0 := by omega
        subst this
        exact ⟨by simp, by simpa⟩
    · rename_i hr
      obtain ⟨m, hm⟩ : ∃ m, wid r = m + 1 := ⟨wid r - 1, by omega⟩
      obtain ⟨h1, h2⟩ := wid_top hm
      have : n = m + 1 := by omega
      subst this
      exact ⟨by simpa using h1, by simpa using h2⟩
theorem vn_lst {xs : List Int} (h : WF xs) : vn (lst xs) = vn xs := (vn_eq (canon_lst h).1 h).2 (val_lst xs)
theorem bitLen_words {xs : List Int} (hw : WF xs) {n : Nat} (hn : wid xs = n + 1) (h : n < xs.length) : bitLen (vn xs) = 64 * n + bitLen xs[n].toNat := by
  obtain ⟨_, hne⟩ := wid_top hn
  rw [← vn_lst hw, lst_split hn h, vn_append]
  have hl : (xs.take n).length = n := by simp; omega
  have h1 := vn_lt (hw.take n)
  rw [hl] at h1 ⊢
  have e : vn [xs[n]] = xs[n].toNat := by simp [vn]
  rw [e]
  refine bitLen_top h1 ?_
  have := (hw.get h).1
  omega
theorem wid_zero_vn {xs : List Int} (hw : WF xs) (h : wid xs = 0) : vn xs = 0 := by
  have := wid_zero_val xs h
  rw [val_vn hw] at this; omega
/-- v is 2^t times an odd number. -/
def Odd2 (v t : Nat) : Prop := ∃ m, v = 2 ^ t * (2 * m + 1)
theorem odd2_words {xs : List Int} {i t : Nat} (hz : ∀ j (h : j < xs.length), j < i → xs[j] = 0) (hi : i < xs.length) (ht : t < 64) (ho : Odd2 xs[i].toNat t) : Odd2 (vn xs) (64 * i + t) := by
  obtain ⟨m, hm⟩ := ho
  have e : xs = xs.take i ++ (xs[i] :: xs.drop (i + 1)) := by rw [← List.drop_eq_getElem_cons hi, List.take_append_drop]
  have hl : (xs.take i).length = i := by simp; omega
  have h0 : vn (xs.take i) = 0 := vn_zeros (fun x hx => by
    obtain ⟨j, hj, rfl⟩ := List.getElem_of_mem hx
    simp only [List.length_take] at hj
    simpa using hz j (by omega) (by omega))
  rw [e, vn_append, h0, hl, vn, hm]
  generalize vn (xs.drop (i + 1)) = R
  refine ⟨m + 2 ^ (64 - t - 1) * R, ?_⟩
  rw [Nat.pow_add]
  have e2 : 2 ^ 64 = 2 ^ t * (2 * 2 ^ (64 - t - 1)) := by rw [← Nat.pow_succ', ← Nat.pow_add]; congr 1; omega
  rw [e2, Nat.zero_add, Nat.mul_assoc (2 ^ (64 * i))]
  congr 1
  rw [Nat.mul_assoc, ← Nat.mul_add]
  congr 1
  rw [Nat.mul_add, Nat.mul_assoc]
  omega
theorem odd2_pos {v t : Nat} (h : Odd2 v t) : v ≠ 0 := by
  obtain ⟨m, rfl⟩ := h
  have := Nat.two_pow_pos t
  intro e
  rcases Nat.mul_eq_zero.1 e with q | q <;> omega
theorem odd2_bit {v t : Nat} (h : Odd2 v t) : v.testBit t = true ∧ ∀ j, j < t → v.testBit j = false := by
  obtain ⟨m, rfl⟩ := h
  constructor
  · rw [Nat.testBit_two_pow_mul]; simp [Nat.testBit_zero]
  · intro j hj
    rw [Nat.testBit_two_pow_mul]; simp; omega
end Go.Proofs.Ytachdicdfhfoaaa
