/-
  Tq16: what tails holds. In numbers, and in memory.
-/
import Derived.Test.YtnpcfohimlfbdaaQMp16
namespace Go.Proofs.Ytnpcfohimlfbdaa
open Go.RowKit
set_option linter.unusedVariables false

/-- c times a row and another one. -/
def adc (n : Nat) (c : Int) (R V : List Int) : List Int := (List.range n).map fun t => c * R.getD t 0 + V.getD t 0
theorem adc_length {n : Nat} {c : Int} {R V : List Int} : (adc n c R V).length = n := by simp [adc]
/-- The row times what the polynomial is at the matrix. -/
def tlS (n : Nat) (A R : List Int) : List Int → List Int
  | [] => List.replicate n 0
  | c :: p => adc n c R (vecL n n (tlS n A R p) A)
theorem tlS_length {n : Nat} {A R : List Int} : ∀ p : List Int, (tlS n A R p).length = n
  | [] => by simp [tlS]
  | c :: p => adc_length
theorem tlS_drop {n i : Nat} {A R P : List Int} (hi : i < P.length) : tlS n A R (P.drop i) = adc n (P.getD i 0) R (vecL n n (tlS n A R (P.drop (i + 1))) A) := by
  rw [List.drop_eq_getElem_cons hi]
  simp [tlS, hi]
/-- The first j entries done. -/
def mid16 (n j : Nat) (c : Int) (R V : List Int) : List Int := (List.range n).map fun t => if t < j then c * R.getD t 0 + V.getD t 0 else V.getD t 0
theorem mid16_length {n j : Nat} {c : Int} {R V : List Int} : (mid16 n j c R V).length = n := by simp [mid16]
theorem mid16_start {n : Nat} {c : Int} {R V : List Int} (h : V.length = n) : mid16 n 0 c R V = V := by
  apply List.ext_getElem
  · simp [mid16, h]
  · intro t h1 h2
    simp [mid16, h2]
theorem mid16_done {n : Nat} {c : Int} {R V : List Int} : mid16 n n c R V = adc n c R V := by
  unfold mid16 adc
  refine List.map_congr_left fun t ht => ?_
  rw [if_pos (by simpa using ht)]
theorem mid16_at {n j : Nat} {c : Int} {R V : List Int} (hj : j < n) : (mid16 n j c R V).getD j 0 = V.getD j 0 := by simp [mid16, hj]
theorem mid16_step {n j : Nat} {c : Int} {R V : List Int} (hj : j < n) : mid16 n (j + 1) c R V = (mid16 n j c R V).set j (c * R.getD j 0 + V.getD j 0) := by
  apply List.ext_getElem
  · simp [mid16]
  · intro t h1 h2
    have ht : t < n := by simpa [mid16] using h1
    by_cases h : t = j
    · subst h
      simp [mid16]
    · rw [List.getElem_set_ne (by omega)]
      simp only [mid16, List.getElem_map, List.getElem_range]
      by_cases q : t < j
      · rw [if_pos q, if_pos (by omega)]
      · rw [if_neg q, if_neg (by omega)]
theorem sum_lt {x y : Int} {a b : Nat} (hx : (x.natAbs : Int) ≤ pw a) (hy : (y.natAbs : Int) < pw b) (h : a ≤ b) : ((x + y).natAbs : Int) < pw (b + 1) := by
  have h1 := pw_up h
  have h2 := pw_pos b
  have h4 : pw (b + 1) = pw b * pw 1 := pw_plus _ _
  have h5 : pw 1 = 18446744073709551616 := by simp [pw, wB]
  rw [h4, h5]
  omega
/-- The parts from i on are there, in blocks behind ga and below N. -/
def Pts (w : World) (ga n d i : Nat) (F : Nat → List Int) (k N : Nat) : Prop :=
  ∃ vs, RowL9 w ga vs ∧ vs.length = d ∧ (∀ (j : Nat) (u : Value), vs[j]? = some u → ∃ a l c, u = .slice a l c) ∧ ∀ j, i ≤ j → j < d → ∃ g, vs[j]? = some (.slice (some ⟨g, 0, none⟩) n n) ∧ AllZ w g (F j) k ∧ ga < g ∧ g < N
theorem Pts.step {w w' : World} {ga n d i k N : Nat} {F : Nat → List Int} (h : Pts w ga n d i F k N) (hb : Below w.heap.size w w') : Pts w' ga n d i F k N := by
  obtain ⟨vs, h1, h2, h2', h3⟩ := h
  refine ⟨vs, Cel.step h1 hb, h2, h2', fun j hj hd => ?_⟩
  obtain ⟨g, q1, q2, q3⟩ := h3 j hj hd
  exact ⟨g, q1, q2.step hb, q3⟩
theorem Pts.blk {w : World} {ga n d i k N : Nat} {F : Nat → List Int} (h : Pts w ga n d i F k N) : ga < w.heap.size := by
  obtain ⟨vs, h1, h2, h3⟩ := h
  exact Cel.blk h1
theorem Pts.start {w : World} {ga n d k : Nat} {F : Nat → List Int} (h : RowL9 w ga (List.replicate d (.slice none 0 0))) (N : Nat) : Pts w ga n d d F k N :=
  ⟨_, h, by simp, fun j u hu => ⟨none, 0, 0, List.eq_of_mem_replicate (List.mem_of_getElem? hu)⟩, fun j h1 h2 => by omega⟩
/-- A store into an array of integers that is none of them. -/
theorem Pts.off {w : World} {ga n d i k N g t l : Nat} {F : Nat → List Int} {zs : List Int} (h : Pts w ga n d i F k N) (hz : AllZ w g zs l) (ht : t < zs.length) (hN : N ≤ g ∨ g < ga) (hg : ga ≠ g) (x y : Value) :
    Pts ((w.setCell ⟨g, t * 2, none⟩ x).setCell ⟨g, t * 2 + 1, none⟩ y) ga n d i F k N := by
  obtain ⟨vs, h1, h2, h2', h3⟩ := h
  refine ⟨vs, Cel.ne (Cel.ne h1 (Ne.symm hg)) (Ne.symm hg), h2, h2', fun j hj hd => ?_⟩
  obtain ⟨u, q1, q2, q3, q4⟩ := h3 j hj hd
  exact ⟨u, q1, q2.ne (hz.wk ht x y) (heap_ne2 (by omega) x y), q3, q4⟩
theorem Pts.put {w : World} {ga n d i k N N' g : Nat} {F : Nat → List Int} (h : Pts w ga n d (i + 1) F k N) (hz : AllZ w g (F i) k) (hi : i < d) (hN : N ≤ N') (hg : ga < g) (hg' : g < N') :
    Pts (w.setCell ⟨ga, i, none⟩ (.slice (some ⟨g, 0, none⟩) n n)) ga n d i F k N' := by
  obtain ⟨vs, h1, h2, h2', h3⟩ := h
  have hv : vs[i]? = some (vs[i]'(by omega)) := List.getElem?_eq_getElem (by omega)
  obtain ⟨a0, l0, c0, e0⟩ := h2' i _ hv
  have wk : Wk w (w.setCell ⟨ga, i, none⟩ (.slice (some ⟨g, 0, none⟩) n n)) := Wk.set (Cel.at h1 hv) (fun x => by rw [e0]; intro q; cases q)
  refine ⟨vs.set i (.slice (some ⟨g, 0, none⟩) n n), Cel.set h1 _ _, by simpa using h2, fun j u hu => ?_, fun j hj hd => ?_⟩
  · by_cases q : j = i
    · subst q
      rw [List.getElem?_set_self (by omega), Option.some.injEq] at hu
      exact ⟨_, _, _, hu.symm⟩
    · rw [List.getElem?_set_ne (by omega)] at hu
      exact h2' j u hu
  · by_cases q : j = i
    · subst q
      exact ⟨g, List.getElem?_set_self (by omega), hz.ne wk (Below.heap_setCell w _ _ g (fun e => by subst e; exact absurd hg (Nat.lt_irrefl _))), hg, hg'⟩
    · obtain ⟨u, q1, q2, q3, q4⟩ := h3 j (by omega) hd
      exact ⟨u, by rw [List.getElem?_set_ne (by omega)]; exact q1, q2.ne wk (Below.heap_setCell w _ _ u (fun e => by subst e; exact absurd q3 (Nat.lt_irrefl _))), q3, by omega⟩
theorem Pts.cell {w : World} {ga n d i k N j : Nat} {F : Nat → List Int} (h : Pts w ga n d i F k N) (hj : j < d) : ∃ a l c, w.cell? ⟨ga, j, none⟩ = some (.slice a l c) ∧ w.frozen? ⟨ga, j, none⟩ = false := by
  obtain ⟨vs, h1, h2, h2', h3⟩ := h
  have hv : vs[j]? = some (vs[j]'(by omega)) := List.getElem?_eq_getElem (by omega)
  obtain ⟨a, l, c, e⟩ := h2' j _ hv
  exact ⟨a, l, c, by rw [← e]; exact Cel.at h1 hv, Cel.fz h1 _⟩
theorem Pts.part {w : World} {ga n d i k N j : Nat} {F : Nat → List Int} (h : Pts w ga n d i F k N) (hi : i ≤ j) (hj : j < d) : ∃ g, w.cell? ⟨ga, j, none⟩ = some (.slice (some ⟨g, 0, none⟩) n n) ∧ AllZ w g (F j) k := by
  obtain ⟨vs, h1, h2, h2', h3⟩ := h
  obtain ⟨g, q1, q2, -⟩ := h3 j hi hj
  exact ⟨g, Cel.at h1 q1, q2⟩
end Go.Proofs.Ytnpcfohimlfbdaa
