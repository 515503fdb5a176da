/-
  ShiftP9: matrices that move places, in numbers.
-/
import Derived.Test.YtojhmkkjjalonaaQPow9
namespace Go.Proofs.Ytojhmkkjjalonaa
open Go.RowKit
set_option linter.unusedVariables false

def putsL (n : Nat) (f : Nat → Nat) (z : Int) : Nat → List Int
  | 0 => List.replicate (n * n) 0
  | i + 1 => (putsL n f z i).set (i * n + f i) z
theorem putsL_length {n : Nat} {f : Nat → Nat} {z : Int} : ∀ i, (putsL n f z i).length = n * n
  | 0 => by simp [putsL]
  | i + 1 => by simp [putsL, putsL_length i]
theorem place_two {n i j k l : Nat} (hj : j < n) (hl : l < n) : i * n + j = k * n + l ↔ i = k ∧ j = l := by
  refine ⟨fun h => ?_, fun ⟨a, b⟩ => by rw [a, b]⟩
  rcases Nat.lt_trichotomy i k with q | q | q
  · have h5 : (i + 1) * n ≤ k * n := Nat.mul_le_mul_right n q
    have h6 : (i + 1) * n = i * n + n := by rw [Nat.add_mul, Nat.one_mul]
    omega
  · subst q
    exact ⟨rfl, by omega⟩
  · have h5 : (k + 1) * n ≤ i * n := Nat.mul_le_mul_right n q
    have h6 : (k + 1) * n = k * n + n := by rw [Nat.add_mul, Nat.one_mul]
    omega
theorem puts_step {n : Nat} {f : Nat → Nat} {z : Int} (hf : ∀ i, i < n → f i < n) {i j : Nat} (hi : i < n) (hj : j < n) : ∀ k, k ≤ n → (putsL n f z k).getD (i * n + j) 0 = if j = f i ∧ i < k then z else 0
  | 0, _ => by
    rw [if_neg (by omega)]
    simp [putsL, place_lt hi hj]
  | k + 1, hk => by
    have ih := puts_step (z := z) hf hi hj k (by omega)
    have hfk := hf k (by omega)
    rw [putsL, List.getD_eq_getElem?_getD]
    by_cases q : i * n + j = k * n + f k
    · obtain ⟨rfl, e⟩ := (place_two hj hfk).1 q
      rw [q, List.getElem?_set_self (by rw [putsL_length]; exact place_lt (by omega) hfk), if_pos (by omega)]
      rfl
    · rw [List.getElem?_set_ne (by omega), ← List.getD_eq_getElem?_getD, ih]
      have h2 : ¬ (i = k ∧ j = f k) := fun h => q ((place_two hj hfk).2 h)
      by_cases p : j = f i ∧ i < k
      · rw [if_pos p, if_pos ⟨p.1, by omega⟩]
      · rw [if_neg p, if_neg (fun h => by
          by_cases e : i = k
          · subst e; exact h2 ⟨rfl, h.1⟩
          · exact p ⟨h.1, by omega⟩)]
theorem puts_at {n : Nat} {f : Nat → Nat} {z : Int} (hf : ∀ i, i < n → f i < n) {i j : Nat} (hi : i < n) (hj : j < n) : (putsL n f z n).getD (i * n + j) 0 = if j = f i then z else 0 := by
  rw [puts_step hf hi hj n (Nat.le_refl _)]
  by_cases q : j = f i
  · rw [if_pos ⟨q, hi⟩, if_pos q]
  · rw [if_neg (fun h => q h.1), if_neg q]
def sg (k : Nat) : Int := if k % 2 = 1 then -1 else 1
theorem sg_succ (k : Nat) : sg (k + 1) = sg k * -1 := by
  unfold sg
  rcases Nat.mod_two_eq_zero_or_one k with h | h
  · rw [if_pos (by omega), if_neg (by omega)]; rfl
  · rw [if_neg (by omega), if_pos h]; rfl
theorem shift_pow {n s : Nat} (hn : 0 < n) : ∀ k, powL n (putsL n (fun i => (i + s) % n) (-1) n) k = putsL n (fun i => (i + s * k) % n) (sg k) n
  | 0 => by
    have hf : ∀ i, i < n → (i + s * 0) % n < n := fun i _ => Nat.mod_lt _ hn
    refine mat_ext (r := n) (c := n) (powL_length 0) (putsL_length n) (fun i j hi hj => ?_)
    rw [puts_at hf hi hj, powL, unit_at hi hj]
    have e : (i + s * 0) % n = i := by rw [Nat.mul_zero, Nat.add_zero, Nat.mod_eq_of_lt hi]
    rw [e]
    rfl
  | k + 1 => by
    have hf : ∀ k i, i < n → (i + s * k) % n < n := fun k i _ => Nat.mod_lt _ hn
    have hf1 : ∀ i, i < n → (i + s) % n < n := fun i _ => Nat.mod_lt _ hn
    refine mat_ext (r := n) (c := n) (powL_length _) (putsL_length n) (fun i j hi hj => ?_)
    rw [powL, shift_pow hn k, prod_at (putsL_length n) hi hj, puts_at (hf (k + 1)) hi hj]
    have e1 : ∀ t, t < n → (putsL n (fun i => (i + s * k) % n) (sg k) n).getD (i * n + t) 0 * (putsL n (fun i => (i + s) % n) (-1) n).getD (t * n + j) 0 = if t = (i + s * k) % n then (fun u => sg k * (if j = (u + s) % n then -1 else 0)) t else 0 := fun t ht => by
      rw [puts_at (hf k) hi ht, puts_at hf1 ht hj]
      by_cases q : t = (i + s * k) % n
      · rw [if_pos q, if_pos q]
      · rw [if_neg q, if_neg q, Int.zero_mul]
    rw [sumN_congr e1, sumN_one (Nat.mod_lt _ hn)]
    have e2 : ((i + s * k) % n + s) % n = (i + s * (k + 1)) % n := by rw [Nat.mod_add_mod, Nat.mul_add, Nat.mul_one, Nat.add_assoc]
    rw [e2, sg_succ]
    by_cases q : j = (i + s * (k + 1)) % n
    · rw [if_pos q, if_pos q]
    · rw [if_neg q, if_neg q, Int.mul_zero]
theorem lit9 {b : Bool} (w : World) : Zc (w.alloc (.cells #[.int .u64 1] 41)) (.agg #[.bool b, .slice (some ⟨w.heap.size, 0, none⟩) 1 1]) (if b = true then -1 else 1) 1 :=
  ⟨b, [1], _, _, rfl, word_one w 1 ⟨by omega, by omega⟩, ⟨(word_one w 1 ⟨by omega, by omega⟩).1, by simp [wid]⟩, fun e => by simp at e, by cases b <;> simp [iv, val], by simp⟩
def Filled (wx : World) (g N : Nat) (zs : List Int) : Prop := ∃ ps, Arr wx g ps ∧ ps.length = N ∧ Zcs wx ps zs 1
theorem Filled.step {w w' : World} {g N : Nat} {zs : List Int} (h : Filled w g N zs) (hb : Below w.heap.size w w') : Filled w' g N zs := by
  obtain ⟨ps, h1, h2, h3⟩ := h
  exact ⟨ps, h1.step hb, h2, h3.now hb⟩
theorem Filled.put {w : World} {g N ix : Nat} {zs : List Int} {x y : Value} {z : Int} (h : Filled w g N zs) (hi : ix < N) (hz : Zc w (.agg #[x, y]) z 1) : Filled ((w.setCell ⟨g, ix * 2, none⟩ x).setCell ⟨g, ix * 2 + 1, none⟩ y) g N (zs.set ix z) ∧ Wk w ((w.setCell ⟨g, ix * 2, none⟩ x).setCell ⟨g, ix * 2 + 1, none⟩ y) := by
  obtain ⟨ps, h1, h2, h3⟩ := h
  have hk := h1.wk (i := ix) (by omega) x y
  exact ⟨⟨_, h1.put (by omega) hz.zi.isI, by simpa using h2, h3.set hk (hz.wk hk)⟩, hk⟩
theorem Filled.off {w : World} {g g' N i : Nat} {zs : List Int} {x y : Value} (h : Filled w g N zs) (hne : g' ≠ g) (hk : Wk w ((w.setCell ⟨g', i, none⟩ x).setCell ⟨g', i + 1, none⟩ y)) : Filled ((w.setCell ⟨g', i, none⟩ x).setCell ⟨g', i + 1, none⟩ y) g N zs := by
  obtain ⟨ps, h1, h2, h3⟩ := h
  exact ⟨ps, (h1.ne hne).ne hne, h2, h3.wk hk⟩
theorem Filled.cells {w : World} {g N ix : Nat} {zs : List Int} (h : Filled w g N zs) (hi : ix < N) : ∃ m a l c, w.cell? ⟨g, ix * 2, none⟩ = some (.bool m) ∧ w.cell? ⟨g, ix * 2 + 1, none⟩ = some (.slice a l c) ∧ w.frozen? ⟨g, ix * 2, none⟩ = false ∧ w.frozen? ⟨g, ix * 2 + 1, none⟩ = false := by
  obtain ⟨ps, h1, h2, h3⟩ := h
  have hp : ps[ix]? = some (ps[ix]'(by omega)) := List.getElem?_eq_getElem (by omega)
  obtain ⟨m, a, l, c, e⟩ := h1.2 _ (List.getElem_mem (l := ps) (n := ix) (by omega))
  have q := h1.at hp
  rw [e] at q
  exact ⟨m, a, l, c, q.1, q.2, h1.1.fz _, h1.1.fz _⟩
theorem Filled.blk {w : World} {g N : Nat} {zs : List Int} (h : Filled w g N zs) : g < w.heap.size := by
  obtain ⟨ps, h1, h2, h3⟩ := h
  exact h1.1.blk
theorem Filled.mc {w : World} {g n : Nat} {zs : List Int} (h : Filled w g (n * n) zs) (hl : zs.length = n * n) (hn : n ≤ 64) : Mc w (matv n n (.slice (some ⟨g, 0, none⟩) (n * n) (n * n))) n n zs 1 := by
  obtain ⟨ps, h1, h2, h3⟩ := h
  have hnn : n * n ≤ 64 * 64 := Nat.mul_le_mul hn hn
  have q1 := h1.prs (B := 0) (Nat.zero_le _) (by omega) (Nat.le_refl _)
  rw [h2] at q1
  exact ⟨_, ps, rfl, q1, h3, hl, hn, hn⟩
end Go.Proofs.Ytojhmkkjjalonaa
