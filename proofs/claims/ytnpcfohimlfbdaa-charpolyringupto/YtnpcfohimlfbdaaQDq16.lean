/-
  Dq16: division of polynomials in numbers: what is taken off, and what is answered.
-/
import Derived.Test.YtnpcfohimlfbdaaQMo16
namespace Go.Proofs.Ytnpcfohimlfbdaa
open Go.RowKit
set_option linter.unusedVariables false

/-- u times Q taken off from i on, the first t places done. -/
def subS (V Q : List Int) (u : Int) (i t : Nat) : List Int := (List.range V.length).map fun s => cf V s - if i ≤ s ∧ s < i + t then u * cf Q (s - i) else 0
theorem subS_length {V Q : List Int} {u : Int} {i t : Nat} : (subS V Q u i t).length = V.length := by simp [subS]
theorem cf_subS {V Q : List Int} {u : Int} {i t s : Nat} (hs : s < V.length) : cf (subS V Q u i t) s = cf V s - if i ≤ s ∧ s < i + t then u * cf Q (s - i) else 0 := by
  rw [cf_lt (by rw [subS_length]; exact hs)]
  simp [subS]
theorem subS_start {V Q : List Int} {u : Int} {i : Nat} : subS V Q u i 0 = V := by
  apply List.ext_getElem
  · simp [subS]
  · intro t h1 h2
    have e : ¬ (i ≤ t ∧ t < i + 0) := by omega
    simp only [subS, List.getElem_map, List.getElem_range]
    rw [if_neg e, Int.sub_zero, cf_lt h2]
theorem subS_at {V Q : List Int} {u : Int} {i t : Nat} (hi : i + t < V.length) : (subS V Q u i t).getD (i + t) 0 = cf V (i + t) := by
  have := cf_subS (V := V) (Q := Q) (u := u) (i := i) (t := t) hi
  rw [if_neg (by omega), Int.sub_zero] at this
  exact this
theorem subS_step {V Q : List Int} {u : Int} {i t : Nat} (hi : i + t < V.length) : subS V Q u i (t + 1) = (subS V Q u i t).set (i + t) (cf V (i + t) - u * cf Q t) := by
  apply List.ext_getElem
  · simp [subS]
  · intro s h1 h2
    by_cases h : s = i + t
    · subst h
      rw [List.getElem_set_self]
      simp only [subS, List.getElem_map, List.getElem_range]
      rw [if_pos (by omega), show i + t - i = t by omega]
    · rw [List.getElem_set_ne (by omega)]
      simp only [subS, List.getElem_map, List.getElem_range]
      by_cases q : i ≤ s ∧ s < i + t
      · rw [if_pos q, if_pos (by omega)]
      · rw [if_neg q, if_neg (by omega)]
theorem DvS.next {P Q U V : List Int} {n m i : Nat} (h : DvS P Q n m (i + 1) U V) (hi : i < m) (hU : U.length = m) (hV : V.length = m + n) (hQ : Q.length = n + 1) (h1 : cf Q n = 1) : DvS P Q n m i (U.set i (cf V (i + n))) (subS V Q (cf V (i + n)) i n) := by
  have e : cf (U.set i (cf V (i + n))) i = cf V (i + n) := by rw [cf_lt (by simp; omega)]; simp
  refine h.step hi hQ h1 (fun t ht => ?_) e (fun s hs => ?_)
  · unfold cf
    simp only [List.getD_eq_getElem?_getD]
    rw [List.getElem?_set_ne (by omega)]
  · rw [cf_subS (by omega), e]
    by_cases q : i ≤ s
    · rw [if_pos q, if_pos ⟨q, hs⟩]
    · rw [if_neg q, if_neg (by omega)]
theorem sub_mul_lt16 {x u y : Int} {k l : Nat} (hx : (x.natAbs : Int) < pw k) (hu : (u.natAbs : Int) < pw k) (hy : (y.natAbs : Int) < pw l) : ((x - u * y).natAbs : Int) < pw (k + l + 2) := by
  have h1 : ((u * y).natAbs : Int) ≤ pw k * pw l := by
    rw [Int.natAbs_mul, Int.natCast_mul]
    exact Int.mul_le_mul (Int.le_of_lt hu) (Int.le_of_lt hy) (by omega) (Int.le_of_lt (pw_pos k))
  have h2 := pw_pos k
  have h3 := pw_pos l
  have h4 : pw k * 1 ≤ pw k * pw l := Int.mul_le_mul_of_nonneg_left h3 (Int.le_of_lt h2)
  have h5 : pw (k + l + 2) = pw k * pw l * pw 2 := by rw [pw_plus (k + l) 2, pw_plus k l]
  have h6 : (2 : Int) < pw 2 := by simp [pw, wB]
  have h7 : pw k * pw l * 2 ≤ pw k * pw l * pw 2 := Int.mul_le_mul_of_nonneg_left (Int.le_of_lt h6) (by omega)
  rw [h5]
  omega
/-- What the division answers. -/
theorem dvd_of {P Q U V : List Int} {n m : Nat} (h : DvS P Q n m 0 U V) (hU : U.length = m) (hm : m = P.length - n) (hV : V.length = P.length) (hQ : Q.length = n + 1) (h1 : cf Q n = 1) (hP : Trm P) : Dvd P Q U (tr (V.take (min n P.length))) := by
  have key := fun s => h.done (Nat.le_of_eq hU) s
  have hcf : ∀ s, cf (V.take (min n P.length)) s = if s < n then cf V s else 0 := fun s => by
    by_cases q : s < min n P.length
    · rw [cf_lt (by simp; omega), if_pos (by omega), cf_lt (by omega)]
      simp
    · rw [cf_ge (by simp; omega)]
      by_cases q2 : s < n
      · rw [if_pos q2, cf_ge (by omega)]
      · rw [if_neg q2]
  refine ⟨fun s => by rw [key s, cf_tr, hcf], trm_of fun t ht => ?_, trm_tr _, ?_⟩
  · have e1 : m = t + 1 := by omega
    have e2 := key (t + n)
    have e3 : cnv (cf U) (cf Q) (t + n) = cf U t := by
      unfold cnv
      rw [su_one (i := t) (by omega) (fun a ha hne => by
        by_cases q : a < t
        · rw [cf_ge (P := Q) (by omega), Int.mul_zero]
        · rw [cf_ge (P := U) (by omega), Int.zero_mul])]
      rw [show t + n - t = n by omega, h1, Int.mul_one]
    rw [e3, if_neg (by omega), Int.add_zero] at e2
    rw [← e2]
    exact fun e0 => by
      have hl : P.length = (t + n) + 1 := by omega
      have : sgl P = sgN P (t + n) := by
        unfold sgl
        rw [hl]
        show (if P.getD (t + n) 0 = 0 then sgN P (t + n) else t + n + 1) = _
        rw [if_pos (show P.getD (t + n) 0 = 0 from e0)]
      have q := sgN_le P (t + n)
      unfold Trm at hP
      omega
  · rw [tr_length]
    have := sgl_le (V.take (min n P.length))
    rw [List.length_take] at this
    omega
theorem dvd_tr {ps Q U R : List Int} (h : Dvd (tr ps) Q U R) : Dvd ps Q U R := ⟨fun s => by rw [← cf_tr ps, h.1 s], h.2⟩
end Go.Proofs.Ytnpcfohimlfbdaa
