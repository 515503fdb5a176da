/-
  KronP9: the mixed product in numbers.
-/
import Derived.Test.YtojhmkkjjalonaaQKron9
namespace Go.Proofs.Ytojhmkkjjalonaa
set_option linter.unusedVariables false

theorem sumN_plus (n m : Nat) (g : Nat → Int) : sumN (n + m) g = sumN n g + sumN m (fun t => g (n + t)) := by
  induction m with
  | zero => simp [sumN_zero]
  | succ m ih => rw [← Nat.add_assoc, sumN_succ, ih, sumN_succ]; omega
theorem sumN_grid (c q : Nat) (g : Nat → Int) : sumN (c * q) g = sumN c (fun s => sumN q (fun t => g (s * q + t))) := by
  induction c with
  | zero => simp [sumN_zero]
  | succ c ih => rw [Nat.add_mul, Nat.one_mul, sumN_plus, ih, sumN_succ]
theorem krow_at {c q j j2 : Nat} {x y : List Int} (hx : x.length = c) (hy : y.length = q) (hj : j < c) (hj2 : j2 < q) : (krow x y).getD (j * q + j2) 0 = x.getD j 0 * y.getD j2 0 := by
  unfold krow
  rw [flat_getD hj2 (by intro z hz; simp only [List.mem_map] at hz; obtain ⟨t, _, rfl⟩ := hz; rw [scaleL_length, hy]) (by rw [List.length_map, hx]; exact hj)]
  have e : (x.map fun t => scaleL t y).getD j [] = scaleL (x.getD j 0) y := by simp [hx, hj]
  rw [e]
  simp [scaleL, hy, hj2]
theorem row_getD {r c i j : Nat} {xs : List Int} (hi : i < r) (hj : j < c) : ((rowsL r c xs).getD i []).getD j 0 = xs.getD (i * c + j) 0 := by
  have e : (rowsL r c xs).getD i [] = (xs.drop (i * c)).take c := by simp [rowsL, hi]
  rw [e, List.getD_eq_getElem?_getD, List.getD_eq_getElem?_getD, List.getElem?_take, if_pos hj, List.getElem?_drop]
theorem kron_at {r c p q i i2 j j2 : Nat} {xs ys : List Int} (hx : xs.length = r * c) (hy : ys.length = p * q) (hi : i < r) (hi2 : i2 < p) (hj : j < c) (hj2 : j2 < q) :
    (kronL r c p q xs ys).getD ((i * p + i2) * (c * q) + (j * q + j2)) 0 = xs.getD (i * c + j) 0 * ys.getD (i2 * q + j2) 0 := by
  have hXL : (rowsL r c xs).length = r := by simp [rowsL]
  have hYL : (rowsL p q ys).length = p := by simp [rowsL]
  unfold kronL
  have hrows := KL_rows (xss := rowsL r c xs) (yss := rowsL p q ys) (rows_len hx) (rows_len hy)
  rw [hXL] at hrows
  rw [flat_getD (place_lt hj hj2) hrows (by rw [KL_len (by omega) (Nat.zero_le _), hYL]; have := place_lt hi hi2; omega)]
  have e1 : KL (rowsL r c xs) (rowsL p q ys) r 0 = ((rowsL r c xs).map fun x => (rowsL p q ys).map (krow x)).flatten := by
    unfold KL
    rw [List.take_zero, List.map_nil, List.append_nil, List.take_of_length_le (by omega)]
  rw [e1, flat_getD hi2 (by intro z hz; simp only [List.mem_map] at hz; obtain ⟨x, _, rfl⟩ := hz; rw [List.length_map, hYL]) (by rw [List.length_map, hXL]; exact hi)]
  have e2 : (((rowsL r c xs).map fun x => (rowsL p q ys).map (krow x)).getD i []).getD i2 [] = krow ((rowsL r c xs).getD i []) ((rowsL p q ys).getD i2 []) := by
    have h1 : ((rowsL r c xs).map fun x => (rowsL p q ys).map (krow x)).getD i [] = (rowsL p q ys).map (krow ((rowsL r c xs).getD i [])) := by simp [hXL, hi]
    rw [h1]
    simp [hYL, hi2]
  rw [e2, krow_at (row_len hx hi) (row_len hy hi2) hj hj2, row_getD hi hj, row_getD hi2 hj2]
theorem kronL_length {r c p q : Nat} {xs ys : List Int} (hx : xs.length = r * c) (hy : ys.length = p * q) : (kronL r c p q xs ys).length = r * p * (c * q) := by
  have hXL : (rowsL r c xs).length = r := by simp [rowsL]
  have hrows := KL_rows (xss := rowsL r c xs) (yss := rowsL p q ys) (rows_len hx) (rows_len hy)
  rw [hXL] at hrows
  unfold kronL
  rw [flat_len _ hrows, KL_len (by omega) (Nat.zero_le _)]
  simp [rowsL]
theorem grid_split {p i : Nat} {r : Nat} (h : i < r * p) : i / p < r ∧ i % p < p ∧ i / p * p + i % p = i := by
  have hp : 0 < p := by
    rcases Nat.eq_zero_or_pos p with q | q
    · subst q; omega
    · exact q
  exact ⟨(Nat.div_lt_iff_lt_mul hp).2 h, Nat.mod_lt _ hp, by rw [Nat.mul_comm]; exact Nat.div_add_mod i p⟩
/-- (a kron b) times (c kron d) is (a times c) kron (b times d). -/
theorem kron_mixed {r c p q e f : Nat} {xs ys us vs : List Int} (hx : xs.length = r * c) (hy : ys.length = p * q) (hu : us.length = c * e) (hv : vs.length = q * f) :
    prodL (r * p) (c * q) (e * f) (kronL r c p q xs ys) (kronL c e q f us vs) = kronL r e p f (prodL r c e xs us) (prodL p q f ys vs) := by
  refine mat_ext (r := r * p) (c := e * f) prodL_length (kronL_length prodL_length prodL_length) (fun R0 C0 hR hC => ?_)
  obtain ⟨hi, hi2, hie⟩ := grid_split hR
  obtain ⟨hj, hj2, hje⟩ := grid_split hC
  generalize R0 / p = i at *
  generalize R0 % p = i2 at *
  generalize C0 / f = j at *
  generalize C0 % f = j2 at *
  subst hie hje
  rw [prod_at (kronL_length hx hy) hR hC, kron_at prodL_length prodL_length hi hi2 hj hj2, prod_at hx hi hj, prod_at hy hi2 hj2, sumN_grid]
  rw [← sumN_mul_right]
  refine sumN_congr (fun s hs => ?_)
  rw [← sumN_mul_left]
  refine sumN_congr (fun t ht => ?_)
  rw [kron_at hx hy hi hi2 hs ht, kron_at hu hv hs ht hj hj2]
  rw [Int.mul_assoc, Int.mul_assoc]
  congr 1
  rw [← Int.mul_assoc, ← Int.mul_assoc, Int.mul_comm (ys.getD _ _)]
end Go.Proofs.Ytojhmkkjjalonaa
