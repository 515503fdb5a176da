/-
  Prod: products of lists of words. Plain mathematics: nothing of the program.
-/
import Derived.Test.YtdfnehngffajiabDoorQWords
set_option linter.unusedVariables false
namespace Go.Proofs.YtdfnehngffajiabDoor

theorem pw_plus : ∀ m n : Nat, pw (m + n) = pw m * pw n
  | 0, n => by simp [pw]
  | m + 1, n => by rw [show m + 1 + n = (m + n) + 1 by omega, pw, pw, pw_plus m n, Int.mul_assoc]
theorem pw_up {m n : Nat} (h : m ≤ n) : pw m ≤ pw n := by
  obtain ⟨k, rfl⟩ : ∃ k, n = m + k := ⟨n - m, by omega⟩
  rw [pw_plus]
  have h1 := pw_pos m
  have h2 := pw_pos k
  have := Int.mul_le_mul_of_nonneg_left (show 1 ≤ pw k by omega) (Int.le_of_lt h1)
  omega
theorem pw_le_val : ∀ {xs : List Int} {n : Nat}, WF xs → wid xs = n + 1 → pw n ≤ val xs
  | [], n, _, h => by simp [wid] at h
  | x :: r, n, hw, h => by
    have h1 := hw.head
    have h2 := val_nonneg hw.tail
    unfold IsW wB at h1
    unfold wid at h
    split at h
    · split at h
      · omega
      · have : n = 0 := by omega
        subst this
        unfold val pw wB
        omega
    · obtain ⟨m, rfl⟩ : ∃ m, n = m + 1 := ⟨n - 1, by omega⟩
      have := pw_le_val (n := m) hw.tail (by omega)
      unfold val pw wB
      omega
theorem wid_len {xs : List Int} (h : WF xs) {n : Nat} (hv : val xs < pw n) : wid xs ≤ n := by
  by_cases q : wid xs ≤ n
  · exact q
  · exfalso
    obtain ⟨m, hm⟩ : ∃ m, wid xs = m + 1 := ⟨wid xs - 1, by omega⟩
    have := pw_le_val h hm
    have := pw_up (show n ≤ m by omega)
    omega
theorem canon_len {xs : List Int} (h : Canon xs) {n : Nat} (hv : val xs < pw n) : xs.length ≤ n := by
  have := wid_len h.1 hv
  rw [h.2] at this
  exact this
theorem canon_append : ∀ {xs ys : List Int}, WF xs → Canon ys → ys ≠ [] → Canon (xs ++ ys)
  | [], ys, _, hy, _ => hy
  | x :: r, ys, hx, hy, hne => by
    have ih := canon_append hx.tail hy hne
    refine ⟨WF.cons hx.head ih.1, ?_⟩
    have h0 : wid (r ++ ys) ≠ 0 := by
      rw [ih.2]
      cases ys
      · exact absurd rfl hne
      · simp
    rw [List.cons_append, wid, if_neg h0, ih.2]
    simp
theorem lst_canon {xs : List Int} (h : Canon xs) : lst xs = xs := by unfold lst; rw [h.2]; simp
theorem canon_nil : Canon [] := ⟨WF.nil, rfl⟩
theorem canon_ne {xs : List Int} (h : 0 < val xs) : xs ≠ [] := by
  intro e
  subst e
  simp [val] at h
theorem canon_pos {xs : List Int} (h : Canon xs) (hne : xs ≠ []) : 0 < val xs := by
  refine wid_pos_val h.1 ?_
  rw [h.2]
  cases xs
  · exact absurd rfl hne
  · simp
theorem WF.rest {xs : List Int} (h : WF xs) (n : Nat) : WF (xs.drop n) := fun x hx => h x (List.mem_of_mem_drop hx)
theorem wf_zeros (n : Nat) : WF (List.replicate n 0) := by
  intro x hx
  rw [(List.mem_replicate.1 hx).2]
  unfold IsW wB
  omega
theorem val_zeros : ∀ n : Nat, val (List.replicate n 0) = 0
  | 0 => rfl
  | n + 1 => by rw [List.replicate_succ, val, val_zeros n]; omega
theorem val_halves (xs : List Int) {n : Nat} (h : n ≤ xs.length) : val xs = val (xs.take n) + pw n * val (xs.drop n) := by
  have := val_append (xs.take n) (xs.drop n)
  rw [List.take_append_drop, List.length_take, Nat.min_eq_left h] at this
  exact this
/-- The higher part of a list in least form is in least form. -/
theorem canon_drop : ∀ {xs : List Int} (n : Nat), Canon xs → Canon (xs.drop n)
  | xs, 0, h => by simpa using h
  | [], n + 1, h => by simpa using h
  | x :: r, n + 1, h => by simpa using canon_drop n (canon_tail h)
/-- A low part, filled up, with a high part above it. -/
theorem val_join (xs ys : List Int) {n : Nat} (h : xs.length ≤ n) : val (xs ++ List.replicate (n - xs.length) 0 ++ ys) = val xs + pw n * val ys := by
  rw [val_append, val_append, val_zeros, List.length_append, List.length_replicate, show xs.length + (n - xs.length) = n by omega]
  omega
theorem canon_join {xs ys : List Int} (n : Nat) (hx : WF xs) (hy : Canon ys) (hne : ys ≠ []) : Canon (xs ++ List.replicate (n - xs.length) 0 ++ ys) :=
  canon_append (hx.append (wf_zeros _)) hy hne
theorem val_mul_lt {xs ys : List Int} (hx : WF xs) (hy : WF ys) : val xs * val ys < pw (xs.length + ys.length) := by
  rw [pw_plus]
  have h1 := val_lt_pw hx
  have h2 := val_lt_pw hy
  have h3 := val_nonneg hx
  have h4 := val_nonneg hy
  have h5 := Int.mul_le_mul (Int.le_of_lt h1) (Int.le_of_lt h2) h4 (Int.le_trans h3 (Int.le_of_lt h1))
  by_cases q : val ys = 0
  · rw [q]
    have := pw_pos xs.length
    have := pw_pos ys.length
    have := Int.mul_pos (pw_pos xs.length) (pw_pos ys.length)
    omega
  · have := Int.mul_lt_mul_of_pos_right h1 (show 0 < val ys by omega)
    have h6 := Int.mul_le_mul_of_nonneg_left (Int.le_of_lt h2) (Int.le_of_lt (pw_pos xs.length))
    omega
/-- A word's product with a word, and two words more, has two words. -/
theorem word_mul_le {v w : Int} (hv : IsW v) (hw : IsW w) : 0 ≤ v * w ∧ v * w ≤ 340282366920938463426481119284349108225 := by
  unfold IsW wB at hv hw
  refine ⟨Int.mul_nonneg hv.1 hw.1, ?_⟩
  have := Int.mul_le_mul (show v ≤ 18446744073709551615 by omega) (show w ≤ 18446744073709551615 by omega) hw.1 (by omega)
  omega
/-- What one word of a product makes of the word and the carry. -/
theorem word_step {v w s c hi lo l1 o1 l2 o2 : Int} (hv : IsW v) (hw : IsW w) (hs : IsW s) (hc : IsW c) (h0 : 0 ≤ hi) (hlo : IsW lo) (hm : lo + wB * hi = v * w)
    (hl1 : IsW l1) (ho1 : 0 ≤ o1) (e1 : l1 + wB * o1 = lo + s + 0) (hl2 : IsW l2) (ho2 : 0 ≤ o2) (e2 : l2 + wB * o2 = l1 + c + 0) :
    hi + o1 < wB ∧ hi + o1 + o2 < wB ∧ l2 + wB * (hi + o1 + o2) = v * w + s + c := by
  have := word_mul_le hv hw
  generalize v * w = p at *
  unfold IsW wB at *
  refine ⟨by omega, by omega, by omega⟩
theorem times_step {xs zs : List Int} {V v w s c l h : Int} {o k : Nat} (hk : o + k < zs.length) (hs : zs[o + k] = s) (hx : k < xs.length) (hxv : xs[k] = v)
    (hv : val zs + pw (o + k) * c = V + pw o * (val (xs.take k) * w)) (hl : l + wB * h = v * w + s + c) :
    val (zs.set (o + k) l) + pw (o + (k + 1)) * h = V + pw o * (val (xs.take (k + 1)) * w) := by
  rw [val_set zs (o + k) l hk, hs, val_take_succ xs k hx, hxv, show o + (k + 1) = (o + k) + 1 by omega, pw]
  rw [pw_plus] at hv ⊢
  generalize pw o = P at *
  generalize pw k = K at *
  generalize val zs = Z at *
  generalize val (xs.take k) = X at *
  have e : l = v * w + s + c - wB * h := by omega
  subst e
  grind
theorem rows_step {xs ys zs zs' : List Int} {w c : Int} {i n : Nat} (hi : i < ys.length) (hw : ys[i] = w) (hz : val zs = val xs * val (ys.take i)) (h' : val zs' + pw (i + n) * c = val zs + pw i * (val xs * w))
    (hk : i + n < zs'.length) (h0 : zs'[i + n] = 0) : val (zs'.set (i + n) c) = val xs * val (ys.take (i + 1)) := by
  rw [val_set zs' (i + n) c hk, h0, val_take_succ ys i hi, hw]
  grind
/-- The product by two halves of the longer factor. -/
theorem two_halves {a b la ha p l c z h : Int} {n : Nat} (ea : a = la + pw n * ha) (ep : p = la * b) (es : p = l + pw n * c) (ez : z = ha * b + c) (eh : h = l + pw n * z) : h = a * b := by
  subst ea ez eh
  grind
/-- The product by four halves. -/
theorem four_halves {a b la ha lb hb ll hh sa sb ss t x l c y m c' z r : Int} {n : Nat} (ea : a = la + pw n * ha) (eb : b = lb + pw n * hb) (ell : ll = la * lb) (ehh : hh = ha * hb)
    (esa : sa = la + ha) (esb : sb = lb + hb) (ess : ss = sa * sb) (et : t = ll + hh) (ex : x = ss - t) (el : ll = l + pw n * c) (ey : y = x + c) (em : y = m + pw n * c') (ez : z = hh + c')
    (er : r = l + pw n * (m + pw n * z)) : r = a * b := by
  generalize pw n = P at *
  subst ea eb ehh esa esb ess et ex ez er
  grind
theorem cross_nonneg {la ha lb hb : Int} (h1 : 0 ≤ la) (h2 : 0 ≤ ha) (h3 : 0 ≤ lb) (h4 : 0 ≤ hb) : la * lb + ha * hb ≤ (la + ha) * (lb + hb) := by
  have := Int.mul_nonneg h1 h4
  have := Int.mul_nonneg h2 h3
  rw [Int.add_mul, Int.mul_add, Int.mul_add]
  omega
end Go.Proofs.YtdfnehngffajiabDoor
