/-
  Pz16: polynomials as lists, in numbers: the ring, values. Nothing of the program.
-/
import Derived.Test.YtnpcfohimlfbdaaQSig16ToMq16
namespace Go.Proofs.Ytnpcfohimlfbdaa
set_option linter.unusedVariables false

/-- The coefficient of x^s. -/
def cf (P : List Int) (s : Nat) : Int := P.getD s 0
theorem cf_ge {P : List Int} {s : Nat} (h : P.length ≤ s) : cf P s = 0 := by simp [cf, h]
theorem cf_lt {P : List Int} {s : Nat} (h : s < P.length) : cf P s = P[s] := by simp [cf, h]
/-- The last one is not 0. -/
def Trm (P : List Int) : Prop := sgl P = P.length
theorem sgN_zero {zs : List Int} : ∀ {n s : Nat}, sgN zs n ≤ s → s < n → zs.getD s 0 = 0
  | 0, s, _, h => by omega
  | n + 1, s, h1, h2 => by
    unfold sgN at h1
    by_cases q : zs.getD n 0 = 0
    · rw [if_pos q] at h1
      by_cases e : s = n
      · subst e; exact q
      · exact sgN_zero h1 (by omega)
    · rw [if_neg q] at h1; omega
theorem sgN_last {zs : List Int} : ∀ {n m : Nat}, sgN zs n = m + 1 → zs.getD m 0 ≠ 0
  | 0, m, h => by simp [sgN] at h
  | n + 1, m, h => by
    unfold sgN at h
    by_cases q : zs.getD n 0 = 0
    · rw [if_pos q] at h; exact sgN_last h
    · rw [if_neg q] at h
      obtain rfl : n = m := by omega
      exact q
theorem Trm.last {P : List Int} (h : Trm P) {m : Nat} (hl : P.length = m + 1) : cf P m ≠ 0 := sgN_last (n := P.length) (by unfold Trm sgl at h; rw [h, hl])
theorem trm_of {P : List Int} (h : ∀ m, P.length = m + 1 → cf P m ≠ 0) : Trm P := by
  unfold Trm
  cases hl : P.length with
  | zero => unfold sgl; rw [hl]; rfl
  | succ m => exact sgl_last hl (h m hl)
theorem trm_nil : Trm [] := rfl
theorem trm_ext {P Q : List Int} (hp : Trm P) (hq : Trm Q) (h : ∀ s, cf P s = cf Q s) : P = Q := by
  have key : ∀ {A B : List Int}, Trm B → (∀ s, cf A s = cf B s) → B.length ≤ A.length := fun {A B} hB hh => by
    rcases Nat.lt_or_ge A.length B.length with q | q
    · exfalso
      obtain ⟨m, hm⟩ : ∃ m, B.length = m + 1 := ⟨B.length - 1, by omega⟩
      exact hB.last hm (by rw [← hh, cf_ge (by omega)])
    · exact q
  have hl : P.length = Q.length := Nat.le_antisymm (key hp (fun s => (h s).symm)) (key hq h)
  exact List.ext_getElem hl fun i h1 h2 => by rw [← cf_lt h1, ← cf_lt h2, h]
/-- Without zeros at the end. -/
def tr (P : List Int) : List Int := P.take (sgl P)
theorem tr_length (P : List Int) : (tr P).length = sgl P := by unfold tr; rw [List.length_take]; exact Nat.min_eq_left (sgl_le _)
theorem cf_tr (P : List Int) (s : Nat) : cf (tr P) s = cf P s := by
  by_cases h : s < sgl P
  · have h2 := sgl_le P
    simp [cf, tr, h]
  · rw [cf_ge (by rw [tr_length]; omega)]
    by_cases q : s < P.length
    · exact (sgN_zero (n := P.length) (by unfold sgl at h; omega) q).symm
    · rw [cf_ge (by omega)]
theorem trm_tr (P : List Int) : Trm (tr P) := trm_of fun m hm => by
  rw [cf_tr]
  rw [tr_length] at hm
  exact sgN_last (n := P.length) hm
theorem tr_of {P : List Int} (h : Trm P) : tr P = P := trm_ext (trm_tr P) h (cf_tr P)
theorem su_more {f : Nat → Int} {n : Nat} : ∀ d, (∀ k, n ≤ k → k < n + d → f k = 0) → su (n + d) f = su n f
  | 0, _ => rfl
  | d + 1, h => by
    show su (n + d) f + f (n + d) = su n f
    rw [su_more d (fun k h1 h2 => h k h1 (by omega)), h (n + d) (by omega) (by omega), Int.add_zero]
theorem su_upto {f : Nat → Int} {n m : Nat} (h : n ≤ m) (hz : ∀ k, n ≤ k → k < m → f k = 0) : su m f = su n f := by
  obtain ⟨d, rfl⟩ : ∃ d, m = n + d := ⟨m - n, by omega⟩
  exact su_more d fun k h1 h2 => hz k h1 h2
theorem su_head16 : ∀ (m : Nat) (f : Nat → Int), su (m + 1) f = f 0 + su m (fun i => f (i + 1))
  | 0, f => by simp [su]
  | m + 1, f => by
    have := su_head16 m f
    show su (m + 1) f + f (m + 1) = f 0 + (su m (fun i => f (i + 1)) + f (m + 1))
    omega
theorem su_rev16 : ∀ (m : Nat) (f : Nat → Int), su m (fun i => f (m - (i + 1))) = su m f
  | 0, f => rfl
  | m + 1, f => by
    rw [su_head16]
    have h := su_rev16 m f
    have e : su m (fun i => f (m + 1 - (i + 1 + 1))) = su m (fun i => f (m - (i + 1))) := su_congr fun i _ => by rw [show m + 1 - (i + 1 + 1) = m - (i + 1) by omega]
    rw [e, h, show m + 1 - (0 + 1) = m by omega]
    show _ = su m f + f m
    omega
theorem su_shift (a : Nat) (g : Nat → Int) : ∀ k, su (a + k) (fun c => if a ≤ c then g c else 0) = su k (fun b => g (a + b))
  | 0 => su_zero fun c hc => if_neg (by omega)
  | k + 1 => by
    show su (a + k) _ + (if a ≤ a + k then g (a + k) else 0) = su k _ + g (a + k)
    rw [su_shift a g k, if_pos (by omega)]
/-- The coefficients of a product. -/
def cnv (f g : Nat → Int) (s : Nat) : Int := su (s + 1) fun a => f a * g (s - a)
theorem cnv_comm (f g : Nat → Int) (s : Nat) : cnv f g s = cnv g f s := by
  unfold cnv
  rw [← su_rev16]
  refine su_congr fun i hi => ?_
  rw [show s + 1 - (i + 1) = s - i by omega, show s - (s - i) = i by omega, Int.mul_comm]
theorem cnv_add (f g h : Nat → Int) (s : Nat) : cnv f (fun t => g t + h t) s = cnv f g s + cnv f h s := by
  unfold cnv
  rw [← su_add]
  exact su_congr fun a _ => Int.mul_add _ _ _
theorem cnv_congr {f g f' g' : Nat → Int} (h1 : ∀ t, f t = f' t) (h2 : ∀ t, g t = g' t) (s : Nat) : cnv f g s = cnv f' g' s := su_congr fun a _ => by rw [h1, h2]
theorem cnv_assoc (f g h : Nat → Int) (s : Nat) : cnv (cnv f g) h s = cnv f (cnv g h) s := by
  have e1 : cnv (cnv f g) h s = su (s + 1) fun c => su (s + 1) fun a => if a ≤ c then f a * g (c - a) * h (s - c) else 0 := su_congr fun c hc => by
    show su (c + 1) (fun a => f a * g (c - a)) * h (s - c) = _
    rw [← su_mulr, su_upto (n := c + 1) (m := s + 1) (by omega) (fun k h1 h2 => if_neg (by omega))]
    exact su_congr fun a ha => by rw [if_pos (by omega)]
  have e2 : cnv f (cnv g h) s = su (s + 1) fun a => su (s + 1) fun c => if a ≤ c then f a * g (c - a) * h (s - c) else 0 := su_congr fun a ha => by
    show f a * su (s - a + 1) (fun b => g b * h (s - a - b)) = _
    rw [← su_mul, show s + 1 = a + (s - a + 1) by omega, su_shift a (fun c => f a * g (c - a) * h (s - c))]
    refine su_congr fun b hb => ?_
    rw [show a + b - a = b by omega, show s - (a + b) = s - a - b by omega, Int.mul_assoc]
  rw [e1, e2, su_swap]
theorem cf_mulP {P Q : List Int} (hp : P ≠ []) (hq : Q ≠ []) (s : Nat) : cf (mulP P Q) s = cnv (cf P) (cf Q) s := by
  have h1 : 0 < P.length := List.length_pos_iff.2 hp
  have h2 : 0 < Q.length := List.length_pos_iff.2 hq
  by_cases h : s < P.length + Q.length - 1
  · have e : cf (mulP P Q) s = cfP P Q P.length 0 s := coL_getD h
    rw [e]
    unfold cfP
    rw [if_neg (by omega), Int.add_zero]
    have e1 : su P.length (fun a => if a ≤ s ∧ s - a < Q.length then P.getD a 0 * Q.getD (s - a) 0 else 0) = su (max P.length (s + 1)) (fun a => if a ≤ s then cf P a * cf Q (s - a) else 0) := by
      rw [su_upto (n := P.length) (m := max P.length (s + 1)) (by omega) (fun k h1 h2 => by
        by_cases q : k ≤ s
        · rw [if_pos q, cf_ge h1, Int.zero_mul]
        · rw [if_neg q])]
      refine su_congr fun a ha => ?_
      by_cases q : a ≤ s
      · rw [if_pos q]
        by_cases q2 : s - a < Q.length
        · rw [if_pos ⟨q, q2⟩]; rfl
        · rw [if_neg (by omega), cf_ge (P := Q) (by omega), Int.mul_zero]
      · rw [if_neg (by omega), if_neg q]
    rw [e1, su_upto (n := s + 1) (m := max P.length (s + 1)) (by omega) (fun k h1 h2 => if_neg (by omega))]
    exact su_congr fun a ha => if_pos (by omega)
  · rw [cf_ge (by rw [mulP_length]; omega)]
    exact (su_zero fun a ha => by
      by_cases q : a < P.length
      · rw [cf_ge (P := Q) (by omega), Int.mul_zero]
      · rw [cf_ge (P := P) (by omega), Int.zero_mul]).symm
/-- What Mul answers: of lists that are trimmed first. -/
def mulQ (P Q : List Int) : List Int := if tr P = [] ∨ tr Q = [] then [] else mulP (tr P) (tr Q)
theorem cf_mulQ (P Q : List Int) (s : Nat) : cf (mulQ P Q) s = cnv (cf P) (cf Q) s := by
  have e : cnv (cf P) (cf Q) s = cnv (cf (tr P)) (cf (tr Q)) s := cnv_congr (fun t => (cf_tr P t).symm) (fun t => (cf_tr Q t).symm) s
  rw [e]
  unfold mulQ
  by_cases h : tr P = [] ∨ tr Q = []
  · rw [if_pos h]
    rcases h with h | h
    · rw [h]
      exact (su_zero fun a _ => by simp [cf]).symm
    · rw [h]
      exact (su_zero fun a _ => by simp [cf]).symm
  · rw [if_neg h]
    exact cf_mulP (fun q => h (.inl q)) (fun q => h (.inr q)) s
theorem trm_mulQ (P Q : List Int) : Trm (mulQ P Q) := by
  unfold mulQ
  by_cases h : tr P = [] ∨ tr Q = []
  · rw [if_pos h]; exact trm_nil
  · rw [if_neg h]
    have hp : tr P ≠ [] := fun q => h (.inl q)
    have hq : tr Q ≠ [] := fun q => h (.inr q)
    have h1 : 0 < (tr P).length := List.length_pos_iff.2 hp
    have h2 : 0 < (tr Q).length := List.length_pos_iff.2 hq
    refine trm_of fun m hm => ?_
    rw [mulP_length] at hm
    rw [cf_mulP hp hq]
    obtain ⟨a, ha⟩ : ∃ a, (tr P).length = a + 1 := ⟨(tr P).length - 1, by omega⟩
    obtain ⟨b, hb⟩ : ∃ b, (tr Q).length = b + 1 := ⟨(tr Q).length - 1, by omega⟩
    have e : cnv (cf (tr P)) (cf (tr Q)) m = cf (tr P) a * cf (tr Q) (m - a) := su_one (by omega) (fun k hk hne => by
      by_cases q : k < a
      · rw [cf_ge (P := tr Q) (by omega), Int.mul_zero]
      · rw [cf_ge (P := tr P) (by omega), Int.zero_mul])
    rw [e, show m - a = b by omega]
    exact Int.mul_ne_zero ((trm_tr P).last ha) ((trm_tr Q).last hb)
theorem mulQ_length {P Q : List Int} (hp : tr P ≠ []) (hq : tr Q ≠ []) : (mulQ P Q).length = (tr P).length + (tr Q).length - 1 := by
  unfold mulQ
  rw [if_neg (fun h => h.elim hp hq), mulP_length]
/-- Sums. -/
def adQ (P Q : List Int) : List Int := tr ((List.range (max P.length Q.length)).map fun s => cf P s + cf Q s)
theorem cf_adQ (P Q : List Int) (s : Nat) : cf (adQ P Q) s = cf P s + cf Q s := by
  unfold adQ
  rw [cf_tr]
  by_cases h : s < max P.length Q.length
  · simp only [cf, List.getD_eq_getElem?_getD, List.getElem?_map, List.getElem?_range h]
    rfl
  · rw [cf_ge (by simp; omega), cf_ge (P := P) (by omega), cf_ge (P := Q) (by omega)]; rfl
theorem trm_adQ (P Q : List Int) : Trm (adQ P Q) := trm_tr _
theorem mulQ_comm (P Q : List Int) : mulQ P Q = mulQ Q P := trm_ext (trm_mulQ _ _) (trm_mulQ _ _) fun s => by rw [cf_mulQ, cf_mulQ, cnv_comm]
theorem mulQ_assoc (P Q R : List Int) : mulQ (mulQ P Q) R = mulQ P (mulQ Q R) := trm_ext (trm_mulQ _ _) (trm_mulQ _ _) fun s => by
  rw [cf_mulQ, cf_mulQ, cnv_congr (cf_mulQ P Q) (fun _ => rfl), cnv_congr (fun _ => rfl) (cf_mulQ Q R), cnv_assoc]
theorem mulQ_add (P Q R : List Int) : mulQ P (adQ Q R) = adQ (mulQ P Q) (mulQ P R) := trm_ext (trm_mulQ _ _) (trm_adQ _ _) fun s => by
  rw [cf_mulQ, cf_adQ, cf_mulQ, cf_mulQ, cnv_congr (fun _ => rfl) (cf_adQ Q R), cnv_add]
theorem adQ_comm (P Q : List Int) : adQ P Q = adQ Q P := trm_ext (trm_adQ _ _) (trm_adQ _ _) fun s => by rw [cf_adQ, cf_adQ, Int.add_comm]
theorem adQ_assoc (P Q R : List Int) : adQ (adQ P Q) R = adQ P (adQ Q R) := trm_ext (trm_adQ _ _) (trm_adQ _ _) fun s => by rw [cf_adQ, cf_adQ, cf_adQ, cf_adQ, Int.add_assoc]
theorem adQ_nil (P : List Int) : adQ P [] = tr P := trm_ext (trm_adQ _ _) (trm_tr _) fun s => by rw [cf_adQ, cf_tr, cf_ge (P := []) (Nat.zero_le _), Int.add_zero]
theorem mulQ_nil (P : List Int) : mulQ P [] = [] := by unfold mulQ; rw [if_pos (.inr rfl)]
theorem cnv_one (f : Nat → Int) (c : Int) (s : Nat) : cnv f (cf [c]) s = f s * c := by
  unfold cnv
  rw [su_one (i := s) (by omega) (fun k hk hne => by rw [cf_ge (P := [c]) (by simp; omega), Int.mul_zero]), Nat.sub_self]
  rfl
theorem mulQ_one (P : List Int) : mulQ P [1] = tr P := trm_ext (trm_mulQ _ _) (trm_tr _) fun s => by rw [cf_mulQ, cnv_one, cf_tr, Int.mul_one]
theorem adQ_minus (P : List Int) : adQ P (mulQ P [-1]) = [] := trm_ext (trm_adQ _ _) trm_nil fun s => by
  rw [cf_adQ, cf_mulQ, cnv_one, cf_ge (P := []) (Nat.zero_le _)]
  omega
end Go.Proofs.Ytnpcfohimlfbdaa
