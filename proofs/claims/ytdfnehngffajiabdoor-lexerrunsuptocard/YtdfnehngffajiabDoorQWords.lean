/-
  Words: naturals as lists of words of 64 binary digits, lowest first. Plain mathematics: nothing of the program.
-/
import Derived.Below
namespace Go.Proofs.YtdfnehngffajiabDoor

/-- 2^64. -/
def wB : Int := 18446744073709551616
/-- A word. -/
def IsW (x : Int) : Prop := 0 ≤ x ∧ x < wB
/-- A list of words. -/
def WF (xs : List Int) : Prop := ∀ x ∈ xs, IsW x
/-- The number that a list of words is. -/
def val : List Int → Int
  | [] => 0
  | x :: r => x + wB * val r
/-- How many words are left without zero words at the high end. -/
def wid : List Int → Nat
  | [] => 0
  | x :: r => if wid r = 0 then (if x = 0 then 0 else 1) else wid r + 1
/-- The place value of word i. -/
def pw : Nat → Int
  | 0 => 1
  | n + 1 => wB * pw n
/-- In least form. -/
def Canon (xs : List Int) : Prop := WF xs ∧ wid xs = xs.length
/-- -1, 0, 1. -/
def cmpI (a b : Int) : Int := if a < b then -1 else if b < a then 1 else 0

theorem cmpI_lt {a b : Int} (h : a < b) : cmpI a b = -1 := by unfold cmpI; rw [if_pos h]
theorem cmpI_gt {a b : Int} (h : b < a) : cmpI a b = 1 := by unfold cmpI; rw [if_neg (by omega), if_pos h]
theorem cmpI_self (a : Int) : cmpI a a = 0 := by unfold cmpI; rw [if_neg (by omega), if_neg (by omega)]
theorem cmpI_zero {a b : Int} (h : cmpI a b = 0) : a = b := by
  rcases Int.lt_trichotomy a b with q | q | q
  · rw [cmpI_lt q] at h; omega
  · exact q
  · rw [cmpI_gt q] at h; omega
theorem WF.nil : WF [] := fun x h => by cases h
theorem WF.cons {x : Int} {r : List Int} (hx : IsW x) (hr : WF r) : WF (x :: r) := by
  intro y hy; rcases List.mem_cons.1 hy with rfl | h
  · exact hx
  · exact hr y h
theorem WF.head {x : Int} {r : List Int} (h : WF (x :: r)) : IsW x := h x (by simp)
theorem WF.tail {x : Int} {r : List Int} (h : WF (x :: r)) : WF r := fun y hy => h y (by simp [hy])
theorem WF.take {xs : List Int} (h : WF xs) (n : Nat) : WF (xs.take n) := fun x hx => h x (List.mem_of_mem_take hx)
theorem WF.append {xs ys : List Int} (h : WF xs) (k : WF ys) : WF (xs ++ ys) := by
  intro x hx; rcases List.mem_append.1 hx with q | q
  · exact h x q
  · exact k x q
theorem WF.get {xs : List Int} (h : WF xs) {i : Nat} (hi : i < xs.length) : IsW xs[i] := h _ (List.getElem_mem hi)
theorem WF.set {xs : List Int} (h : WF xs) (i : Nat) {x : Int} (hx : IsW x) : WF (xs.set i x) := by
  intro y hy
  rcases List.mem_or_eq_of_mem_set hy with q | rfl
  · exact h y q
  · exact hx

theorem val_nonneg : ∀ {xs : List Int}, WF xs → 0 ≤ val xs
  | [], _ => by simp [val]
  | x :: r, h => by
    have h1 := h.head; have h2 := val_nonneg h.tail
    unfold IsW wB at h1; unfold val wB; omega
theorem wid_le : ∀ xs : List Int, wid xs ≤ xs.length
  | [] => by simp [wid]
  | x :: r => by
    have := wid_le r
    unfold wid; split
    · split <;> simp
    · simp; omega
theorem wid_zero_val : ∀ xs : List Int, wid xs = 0 → val xs = 0
  | [], _ => rfl
  | x :: r, h => by
    unfold wid at h
    split at h
    · rename_i h0
      have := wid_zero_val r h0
      split at h
      · rename_i hx; simp [val, hx, this]
      · cases h
    · cases h
theorem wid_pos_val : ∀ {xs : List Int}, WF xs → 0 < wid xs → 0 < val xs
  | [], _, h => by simp [wid] at h
  | x :: r, hw, h => by
    have h1 := hw.head; have h2 := val_nonneg hw.tail
    unfold wid at h
    unfold IsW wB at h1
    split at h
    · split at h
      · cases h
      · unfold val wB; omega
    · have := wid_pos_val hw.tail (by omega)
      unfold val wB; omega
theorem val_wid_lt : ∀ {xs ys : List Int}, WF xs → WF ys → wid xs < wid ys → val xs < val ys
  | [], ys, _, hy, h => by
    have := wid_pos_val hy (by simp [wid] at h; exact h)
    simpa [val] using this
  | x :: xs, [], _, _, h => by simp [wid] at h
  | x :: xs, y :: ys, hx, hy, h => by
    have hx1 := hx.head; have hy1 := hy.head
    have vy := val_nonneg hy.tail
    by_cases e : wid ys = 0
    · have : wid (y :: ys) ≤ 1 := by unfold wid; rw [if_pos e]; split <;> simp
      have h0 : wid (x :: xs) = 0 := by omega
      rw [wid_zero_val _ h0]
      exact wid_pos_val hy (by omega)
    · have e1 : wid (y :: ys) = wid ys + 1 := by rw [wid, if_neg e]
      have e2 : wid xs < wid ys := by
        by_cases q : wid xs = 0
        · omega
        · have : wid (x :: xs) = wid xs + 1 := by rw [wid, if_neg q]
          omega
      have := val_wid_lt hx.tail hy.tail e2
      unfold IsW wB at hx1 hy1
      unfold val wB; omega
theorem canon_tail {x : Int} {r : List Int} (h : Canon (x :: r)) : Canon r := by
  refine ⟨h.1.tail, ?_⟩
  have h2 := h.2
  unfold wid at h2
  split at h2
  · split at h2
    · simp at h2
    · simp only [List.length_cons] at h2; omega
  · simp only [List.length_cons] at h2; omega
theorem canon_zero : ∀ {ys : List Int}, Canon ys → val ys = 0 → ys = []
  | [], _, _ => rfl
  | y :: ys, hy, h => by
    exfalso
    have h2 := hy.2
    have := wid_pos_val hy.1 (by rw [h2]; simp)
    omega
theorem canon_inj : ∀ {xs ys : List Int}, Canon xs → Canon ys → val xs = val ys → xs = ys
  | [], ys, _, hy, h => (canon_zero hy (by simpa [val] using h.symm)).symm
  | x :: xs, [], hx, _, h => canon_zero hx (by simpa [val] using h)
  | x :: xs, y :: ys, hx, hy, h => by
    have hx1 := hx.1.head; have hy1 := hy.1.head
    unfold IsW wB at hx1 hy1
    unfold val wB at h
    have e1 : x = y := by omega
    have e2 : val xs = val ys := by omega
    rw [e1, canon_inj (canon_tail hx) (canon_tail hy) e2]
/-- What is left of a list without zero words at the high end. -/
def lst (xs : List Int) : List Int := xs.take (wid xs)
theorem length_lst (xs : List Int) : (lst xs).length = wid xs := by unfold lst; have := wid_le xs; simp; omega
theorem lst_cons (x : Int) (r : List Int) : lst (x :: r) = if wid r = 0 then (if x = 0 then [] else [x]) else x :: lst r := by
  have e : wid (x :: r) = if wid r = 0 then (if x = 0 then 0 else 1) else wid r + 1 := by rw [wid]
  unfold lst
  rw [e]
  split
  · split <;> simp
  · simp
theorem val_lst : ∀ xs : List Int, val (lst xs) = val xs
  | [] => rfl
  | x :: r => by
    rw [lst_cons]
    split
    · rename_i h0
      have := wid_zero_val r h0
      split
      · rename_i hx; simp [val, hx, this]
      · simp [val, this]
    · simp [val, val_lst r]
theorem wid_lst : ∀ xs : List Int, wid (lst xs) = wid xs
  | [] => rfl
  | x :: r => by
    rw [lst_cons, wid]
    split
    · split
      · rfl
      · rename_i hx; simp [wid, hx]
    · rename_i h0
      rw [wid, wid_lst r, if_neg h0]
theorem canon_lst {xs : List Int} (h : WF xs) : Canon (lst xs) := ⟨h.take _, by rw [wid_lst, length_lst]⟩
/-- The width is found from the top: zeros above n, and the word below n not 0. -/
theorem wid_is : ∀ {xs : List Int} {n : Nat}, n ≤ xs.length → (∀ j (h : j < xs.length), n ≤ j → xs[j] = 0) → (0 < n → ∀ h' : n - 1 < xs.length, xs[n - 1] ≠ 0) → wid xs = n
  | [], n, hn, _, _ => by simp at hn; simp [wid, hn]
  | x :: r, 0, _, hz, _ => by
    have h0 : wid r = 0 := wid_is (Nat.zero_le _) (fun j h _ => by have := hz (j + 1) (by simpa using h) (by omega); simpa using this) (fun h => by omega)
    have hx : x = 0 := hz 0 (by simp) (by omega)
    simp [wid, h0, hx]
  | x :: r, 1, _, hz, ht => by
    have h0 : wid r = 0 := wid_is (Nat.zero_le _) (fun j h _ => by have := hz (j + 1) (by simpa using h) (by omega); simpa using this) (fun h => by omega)
    have hx : x ≠ 0 := by simpa using ht (by omega) (by simp)
    simp [wid, h0, hx]
  | x :: r, n + 2, hn, hz, ht => by
    have h0 : wid r = n + 1 := by
      refine wid_is (by simpa using hn) (fun j h hj => ?_) (fun _ h' => ?_)
      · have := hz (j + 1) (by simpa using h) (by omega); simpa using this
      · have := ht (by omega) (by simpa using h'); simpa using this
    simp [wid, h0]

theorem val_lt_pw : ∀ {xs : List Int}, WF xs → val xs < pw xs.length
  | [], _ => by simp [val, pw]
  | x :: r, h => by
    have h1 := h.head; have h2 := val_lt_pw h.tail
    unfold IsW wB at h1
    simp only [List.length_cons]
    unfold val pw wB; omega
theorem pw_pos : ∀ n, 0 < pw n
  | 0 => by simp [pw]
  | n + 1 => by have := pw_pos n; unfold pw wB; omega
theorem val_append : ∀ (xs ys : List Int), val (xs ++ ys) = val xs + pw xs.length * val ys
  | [], ys => by simp [val, pw]
  | x :: r, ys => by
    simp only [List.cons_append, List.length_cons, val, pw, val_append r ys]
    rw [Int.mul_add, Int.mul_assoc]; omega
theorem val_set : ∀ (xs : List Int) (i : Nat) (z : Int) (h : i < xs.length), val (xs.set i z) = val xs + (z - xs[i]) * pw i
  | [], i, z, h => by simp at h
  | x :: r, 0, z, _ => by simp [val, pw]; omega
  | x :: r, i + 1, z, h => by
    have := val_set r i z (by simpa using h)
    simp only [List.set_cons_succ, List.getElem_cons_succ, val, pw, this]
    have h' : i < r.length := by simpa using h
    generalize hq : z - r[i]'h' = q
    rw [Int.mul_add, ← Int.mul_assoc, ← Int.mul_assoc, Int.mul_comm wB q]; omega
theorem val_take_succ (ys : List Int) (i : Nat) (h : i < ys.length) : val (ys.take (i + 1)) = val (ys.take i) + ys[i] * pw i := by
  rw [List.take_succ_eq_append_getElem h, val_append]
  simp [val, Int.mul_comm, Nat.min_eq_left (Nat.le_of_lt h)]
/-- A list whose value reaches the place value of its top word is in least form. -/
theorem canon_of_ge {zs : List Int} (hw : WF zs) {xs : List Int} (hx : Canon xs) (hl : zs.length = xs.length) (hv : val xs ≤ val zs) : Canon zs := by
  refine ⟨hw, ?_⟩
  have h1 := wid_le zs
  by_cases e : wid zs = zs.length
  · exact e
  · exfalso
    have := val_wid_lt hw hx.1 (by rw [hx.2]; omega)
    omega
theorem canon_snoc_one {zs : List Int} (hw : WF zs) : Canon (zs ++ [1]) := by
  refine ⟨hw.append (by intro x hx; simp at hx; subst hx; unfold IsW wB; omega), ?_⟩
  refine wid_is (by simp) (fun j h hj => by omega) (fun h h' => ?_)
  simp
theorem cmp_at : ∀ {xs ys : List Int} {j : Nat}, WF xs → WF ys → (hl : xs.length = ys.length) → (h : j < xs.length) → xs.drop (j + 1) = ys.drop (j + 1) → xs[j] ≠ ys[j]'(by omega) → cmpI (val xs) (val ys) = cmpI xs[j] (ys[j]'(by omega))
  | [], _, _, _, _, _, h, _, _ => by simp at h
  | x :: xs, [], _, _, _, hl, _, _, _ => by simp at hl
  | x :: xs, y :: ys, 0, hx, hy, _, _, hd, hne => by
    simp only [List.drop_succ_cons, List.drop_zero] at hd
    simp only [List.getElem_cons_zero] at hne ⊢
    have hx1 := hx.head; have hy1 := hy.head
    unfold IsW wB at hx1 hy1
    subst hd
    simp only [cmpI, val]
    have e1 : (x + wB * val xs < y + wB * val xs) ↔ x < y := by omega
    have e2 : (y + wB * val xs < x + wB * val xs) ↔ y < x := by omega
    simp only [e1, e2]
  | x :: xs, y :: ys, j + 1, hx, hy, hl, h, hd, hne => by
    simp only [List.drop_succ_cons] at hd
    simp only [List.getElem_cons_succ] at hne ⊢
    have ih := cmp_at hx.tail hy.tail (by simpa using hl) (by simpa using h) hd hne
    have hx1 := hx.head; have hy1 := hy.head
    unfold IsW wB at hx1 hy1
    rw [← ih]
    have hne' : val xs ≠ val ys := by
      intro e
      rw [e, cmpI_self] at ih
      exact hne (cmpI_zero ih.symm)
    rcases Int.lt_or_gt_of_ne hne' with q | q
    · rw [cmpI_lt q, cmpI_lt (by unfold val wB; omega)]
    · rw [cmpI_gt q, cmpI_gt (by unfold val wB; omega)]
end Go.Proofs.YtdfnehngffajiabDoor
