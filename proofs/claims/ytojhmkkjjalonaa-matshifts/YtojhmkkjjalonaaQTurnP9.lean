/-
  TurnP9: transposes and traces in numbers.
-/
import Derived.Test.YtojhmkkjjalonaaQTrace9
namespace Go.Proofs.Ytojhmkkjjalonaa
set_option linter.unusedVariables false

theorem turn_at {r c i j : Nat} {zs : List Int} (hi : i < r) (hj : j < c) : (turnL9 r c zs).getD (j * r + i) 0 = zs.getD (i * c + j) 0 := by
  unfold turnL9
  rw [flat_getD hi cols_len (by simp [colsL]; exact hj)]
  have e1 : (colsL r c zs 0).getD j [] = colL c zs 0 r j := by simp [colsL, hj]
  rw [e1]
  simp [colL, hi]
theorem turn_turn {r c : Nat} {zs : List Int} (hl : zs.length = r * c) : turnL9 c r (turnL9 r c zs) = zs := by
  refine mat_ext (r := r) (c := c) turnL9_length hl (fun i j hi hj => ?_)
  rw [turn_at hj hi, turn_at hi hj]
theorem turn_prod {r m c : Nat} {xs ys : List Int} (hx : xs.length = r * m) : turnL9 r c (prodL r m c xs ys) = prodL c m r (turnL9 m c ys) (turnL9 r m xs) := by
  refine mat_ext (r := c) (c := r) turnL9_length prodL_length (fun j i hj hi => ?_)
  rw [turn_at hi hj, prod_at hx hi hj, prod_at turnL9_length hj hi]
  refine sumN_congr (fun t ht => ?_)
  rw [turn_at ht hj, turn_at hi ht, Int.mul_comm]
theorem trace_sum {n : Nat} {zs : List Int} : traceL n zs = sumN n (fun t => zs.getD (t * n + t) 0) := rfl
theorem trace_prod {r m : Nat} {xs ys : List Int} (hx : xs.length = r * m) (hy : ys.length = m * r) : traceL r (prodL r m r xs ys) = traceL m (prodL m r m ys xs) := by
  rw [trace_sum, trace_sum, sumN_congr (fun i hi => prod_at hx hi hi), sumN_congr (fun t ht => prod_at hy ht ht), sumN_swap]
  exact sumN_congr (fun t _ => sumN_congr (fun i _ => Int.mul_comm _ _))
end Go.Proofs.Ytojhmkkjjalonaa
