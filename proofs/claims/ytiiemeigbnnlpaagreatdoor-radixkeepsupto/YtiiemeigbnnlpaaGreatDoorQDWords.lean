/-
  DWords: naturals as lists of digits to the base 65536, lowest first. Plain mathematics: nothing of the program.
-/
import Derived.Test.YtiiemeigbnnlpaaGreatDoorQWords
namespace Go.Proofs.YtiiemeigbnnlpaaGreatDoor

/-- 2^16. -/
def dwB : Int := 65536
/-- A word. -/
def IsD (x : Int) : Prop := 0 ≤ x ∧ x < dwB
/-- A list of words. -/
def DF (xs : List Int) : Prop := ∀ x ∈ xs, IsD x
/-- The number that a list of words is. -/
def dval : List Int → Int
  | [] => 0
  | x :: r => x + dwB * dval r
/-- How many words are left without zero words at the high end. -/
def dwid : List Int → Nat
  | [] => 0
  | x :: r => if dwid r = 0 then (if x = 0 then 0 else 1) else dwid r + 1
/-- The place value of word i. -/
def dpw : Nat → Int
  | 0 => 1
  | n + 1 => dwB * dpw n
/-- In least form. -/
def DCanon (xs : List Int) : Prop := DF xs ∧ dwid xs = xs.length
theorem DF.nil : DF [] := fun x h => by cases h
theorem DF.cons {x : Int} {r : List Int} (hx : IsD x) (hr : DF r) : DF (x :: r) := by
  intro y hy; rcases List.mem_cons.1 hy with rfl | h
  · exact hx
  · exact hr y h
theorem DF.head {x : Int} {r : List Int} (h : DF (x :: r)) : IsD x := h x (by simp)
theorem DF.tail {x : Int} {r : List Int} (h : DF (x :: r)) : DF r := fun y hy => h y (by simp [hy])
theorem DF.take {xs : List Int} (h : DF xs) (n : Nat) : DF (xs.take n) := fun x hx => h x (List.mem_of_mem_take hx)
theorem DF.append {xs ys : List Int} (h : DF xs) (k : DF ys) : DF (xs ++ ys) := by
  intro x hx; rcases List.mem_append.1 hx with q | q
  · exact h x q
  · exact k x q
theorem DF.get {xs : List Int} (h : DF xs) {i : Nat} (hi : i < xs.length) : IsD xs[i] := h _ (List.getElem_mem hi)
theorem DF.set {xs : List Int} (h : DF xs) (i : Nat) {x : Int} (hx : IsD x) : DF (xs.set i x) := by
  intro y hy
  rcases List.mem_or_eq_of_mem_set hy with q | rfl
  · exact h y q
  · exact hx

theorem dval_nonneg : ∀ {xs : List Int}, DF xs → 0 ≤ dval xs
  | [], _ => by simp [dval]
  | x :: r, h => by
    have h1 := h.head; have h2 := dval_nonneg h.tail
    unfold IsD dwB at h1; unfold dval dwB; omega
theorem dwid_le : ∀ xs : List Int, dwid xs ≤ xs.length
  | [] => by simp [dwid]
  | x :: r => by
    have := dwid_le r
    unfold dwid; split
    · split <;> simp
    · simp; omega
theorem dwid_zero_val : ∀ xs : List Int, dwid xs = 0 → dval xs = 0
  | [], _ => rfl
  | x :: r, h => by
    unfold dwid at h
    split at h
    · rename_i h0
      have := dwid_zero_val r h0
      split at h
      · rename_i hx; simp [dval, hx, this]
      · cases h
    · cases h
theorem dwid_pos_val : ∀ {xs : List Int}, DF xs → 0 < dwid xs → 0 < dval xs
  | [], _, h => by simp [dwid] at h
  | x :: r, hw, h => by
    have h1 := hw.head; have h2 := dval_nonneg hw.tail
    unfold dwid at h
    unfold IsD dwB at h1
    split at h
    · split at h
      · cases h
      · unfold dval dwB; omega
    · have := dwid_pos_val hw.tail (by omega)
      unfold dval dwB; omega
theorem dval_wid_lt : ∀ {xs ys : List Int}, DF xs → DF ys → dwid xs < dwid ys → dval xs < dval ys
  | [], ys, _, hy, h => by
    have := dwid_pos_val hy (by simp [dwid] at h; exact h)
    simpa [dval] using this
  | x :: xs, [], _, _, h => by simp [dwid] at h
  | x :: xs, y :: ys, hx, hy, h => by
    have hx1 := hx.head; have hy1 := hy.head
    have vy := dval_nonneg hy.tail
    by_cases e : dwid ys = 0
    · have : dwid (y :: ys) ≤ 1 := by unfold dwid; rw [if_pos e]; split <;> simp
      have h0 : dwid (x :: xs) = 0 := by omega
      rw [dwid_zero_val _ h0]
      exact dwid_pos_val hy (by omega)
    · have e1 : dwid (y :: ys) = dwid ys + 1 := by rw [dwid, if_neg e]
      have e2 : dwid xs < dwid ys := by
        by_cases q : dwid xs = 0
        · omega
        · have : dwid (x :: xs) = dwid xs + 1 := by rw [dwid, if_neg q]
          omega
      have := dval_wid_lt hx.tail hy.tail e2
      unfold IsD dwB at hx1 hy1
      unfold dval dwB; omega
theorem dcanon_tail {x : Int} {r : List Int} (h : DCanon (x :: r)) : DCanon r := by
  refine ⟨h.1.tail, ?_⟩
  have h2 := h.2
  unfold dwid at h2
  split at h2
  · split at h2
    · simp at h2
    · simp only [List.length_cons] at h2; omega
  · simp only [List.length_cons] at h2; omega
theorem dcanon_zero : ∀ {ys : List Int}, DCanon ys → dval ys = 0 → ys = []
  | [], _, _ => rfl
  | y :: ys, hy, h => by
    exfalso
    have h2 := hy.2
    have := dwid_pos_val hy.1 (by rw [h2]; simp)
    omega
theorem dcanon_inj : ∀ {xs ys : List Int}, DCanon xs → DCanon ys → dval xs = dval ys → xs = ys
  | [], ys, _, hy, h => (dcanon_zero hy (by simpa [dval] using h.symm)).symm
  | x :: xs, [], hx, _, h => dcanon_zero hx (by simpa [dval] using h)
  | x :: xs, y :: ys, hx, hy, h => by
    have hx1 := hx.1.head; have hy1 := hy.1.head
    unfold IsD dwB at hx1 hy1
    unfold dval dwB at h
    have e1 : x = y := by omega
    have e2 : dval xs = dval ys := by omega
    rw [e1, dcanon_inj (dcanon_tail hx) (dcanon_tail hy) e2]
/-- What is left of a list without zero words at the high end. -/
def dlst (xs : List Int) : List Int := xs.take (dwid xs)
theorem dlength_lst (xs : List Int) : (dlst xs).length = dwid xs := by unfold dlst; have := dwid_le xs; simp; omega
theorem dlst_cons (x : Int) (r : List Int) : dlst (x :: r) = if dwid r = 0 then (if x = 0 then [] else [x]) else x :: dlst r := by
  have e : dwid (x :: r) = if dwid r = 0 then (if x = 0 then 0 else 1) else dwid r + 1 := by rw [dwid]
  unfold dlst
  rw [e]
  split
  · split <;> simp
  · simp
theorem dval_lst : ∀ xs : List Int, dval (dlst xs) = dval xs
  | [] => rfl
  | x :: r => by
    rw [dlst_cons]
    split
    · rename_i h0
      have := dwid_zero_val r h0
      split
      · rename_i hx; simp [dval, hx, this]
      · simp [dval, this]
    · simp [dval, dval_lst r]
theorem dwid_lst : ∀ xs : List Int, dwid (dlst xs) = dwid xs
  | [] => rfl
  | x :: r => by
    rw [dlst_cons, dwid]
    split
    · split
      · rfl
      · rename_i hx; simp [dwid, hx]
    · rename_i h0
      rw [dwid, dwid_lst r, if_neg h0]
theorem dcanon_lst {xs : List Int} (h : DF xs) : DCanon (dlst xs) := ⟨h.take _, by rw [dwid_lst, dlength_lst]⟩
/-- The width is found from the top: zeros above n, and the word below n not 0. -/
theorem dwid_is : ∀ {xs : List Int} {n : Nat}, n ≤ xs.length → (∀ j (h : j < xs.length), n ≤ j → xs[j] = 0) → (0 < n → ∀ h' : n - 1 < xs.length, xs[n - 1] ≠ 0) → dwid xs = n
  | [], n, hn, _, _ => by simp at hn; simp [dwid, hn]
  | x :: r, 0, _, hz, _ => by
    have h0 : dwid r = 0 := dwid_is (Nat.zero_le _) (fun j h _ => by have := hz (j + 1) (by simpa using h) (by omega); simpa using this) (fun h => by omega)
    have hx : x = 0 := hz 0 (by simp) (by omega)
    simp [dwid, h0, hx]
  | x :: r, 1, _, hz, ht => by
    have h0 : dwid r = 0 := dwid_is (Nat.zero_le _) (fun j h _ => by have := hz (j + 1) (by simpa using h) (by omega); simpa using this) (fun h => by omega)
    have hx : x ≠ 0 := by simpa using ht (by omega) (by simp)
    simp [dwid, h0, hx]
  | x :: r, n + 2, hn, hz, ht => by
    have h0 : dwid r = n + 1 := by
      refine dwid_is (by simpa using hn) (fun j h hj => ?_) (fun _ h' => ?_)
      · have := hz (j + 1) (by simpa using h) (by omega); simpa using this
      · have := ht (by omega) (by simpa using h'); simpa using this
    simp [dwid, h0]

theorem dval_lt_pw : ∀ {xs : List Int}, DF xs → dval xs < dpw xs.length
  | [], _ => by simp [dval, dpw]
  | x :: r, h => by
    have h1 := h.head; have h2 := dval_lt_pw h.tail
    unfold IsD dwB at h1
    simp only [List.length_cons]
    unfold dval dpw dwB; omega
theorem dpw_pos : ∀ n, 0 < dpw n
  | 0 => by simp [dpw]
  | n + 1 => by have := dpw_pos n; unfold dpw dwB; omega
theorem dval_append : ∀ (xs ys : List Int), dval (xs ++ ys) = dval xs + dpw xs.length * dval ys
  | [], ys => by simp [dval, dpw]
  | x :: r, ys => by
    simp only [List.cons_append, List.length_cons, dval, dpw, dval_append r ys]
    rw [Int.mul_add, Int.mul_assoc]; omega
theorem dval_set : ∀ (xs : List Int) (i : Nat) (z : Int) (h : i < xs.length), dval (xs.set i z) = dval xs + (z - xs[i]) * dpw i
  | [], i, z, h => by simp at h
  | x :: r, 0, z, _ => by simp [dval, dpw]; omega
  | x :: r, i + 1, z, h => by
    have := dval_set r i z (by simpa using h)
    simp only [List.set_cons_succ, List.getElem_cons_succ, dval, dpw, this]
    have h' : i < r.length := by simpa using h
    generalize hq : z - r[i]'h' = q
    rw [Int.mul_add, ← Int.mul_assoc, ← Int.mul_assoc, Int.mul_comm dwB q]; omega
theorem dval_take_succ (ys : List Int) (i : Nat) (h : i < ys.length) : dval (ys.take (i + 1)) = dval (ys.take i) + ys[i] * dpw i := by
  rw [List.take_succ_eq_append_getElem h, dval_append]
  simp [dval, Int.mul_comm, Nat.min_eq_left (Nat.le_of_lt h)]
/-- A list whose value reaches the place value of its top word is in least form. -/
theorem dcanon_of_ge {zs : List Int} (hw : DF zs) {xs : List Int} (hx : DCanon xs) (hl : zs.length = xs.length) (hv : dval xs ≤ dval zs) : DCanon zs := by
  refine ⟨hw, ?_⟩
  have h1 := dwid_le zs
  by_cases e : dwid zs = zs.length
  · exact e
  · exfalso
    have := dval_wid_lt hw hx.1 (by rw [hx.2]; omega)
    omega
theorem dcanon_snoc_one {zs : List Int} (hw : DF zs) : DCanon (zs ++ [1]) := by
  refine ⟨hw.append (by intro x hx; simp at hx; subst hx; unfold IsD dwB; omega), ?_⟩
  refine dwid_is (by simp) (fun j h hj => by omega) (fun h h' => ?_)
  simp
theorem dcmp_at : ∀ {xs ys : List Int} {j : Nat}, DF xs → DF ys → (hl : xs.length = ys.length) → (h : j < xs.length) → xs.drop (j + 1) = ys.drop (j + 1) → xs[j] ≠ ys[j]'(by omega) → cmpI (dval xs) (dval ys) = cmpI xs[j] (ys[j]'(by omega))
  | [], _, _, _, _, _, h, _, _ => by simp at h
  | x :: xs, [], _, _, _, hl, _, _, _ => by simp at hl
  | x :: xs, y :: ys, 0, hx, hy, _, _, hd, hne => by
    simp only [List.drop_succ_cons, List.drop_zero] at hd
    simp only [List.getElem_cons_zero] at hne ⊢
    have hx1 := hx.head; have hy1 := hy.head
    unfold IsD dwB at hx1 hy1
    subst hd
    simp only [cmpI, dval]
    have e1 : (x + dwB * dval xs < y + dwB * dval xs) ↔ x < y := by omega
    have e2 : (y + dwB * dval xs < x + dwB * dval xs) ↔ y < x := by omega
    simp only [e1, e2]
  | x :: xs, y :: ys, j + 1, hx, hy, hl, h, hd, hne => by
    simp only [List.drop_succ_cons] at hd
    simp only [List.getElem_cons_succ] at hne ⊢
    have ih := dcmp_at hx.tail hy.tail (by simpa using hl) (by simpa using h) hd hne
    have hx1 := hx.head; have hy1 := hy.head
    unfold IsD dwB at hx1 hy1
    rw [← ih]
    have hne' : dval xs ≠ dval ys := by
      intro e
      rw [e, cmpI_self] at ih
      exact hne (cmpI_zero ih.symm)
    rcases Int.lt_or_gt_of_ne hne' with q | q
    · rw [cmpI_lt q, cmpI_lt (by unfold dval dwB; omega)]
    · rw [cmpI_gt q, cmpI_gt (by unfold dval dwB; omega)]
theorem dcmp_widths {xs ys : List Int} (hx : DF xs) (hy : DF ys) (h : dwid xs ≠ dwid ys) : cmpI (dval xs) (dval ys) = cmpI (dwid xs) (dwid ys) := by
  rcases Nat.lt_or_gt_of_ne h with q | q
  · rw [cmpI_lt (dval_wid_lt hx hy q), cmpI_lt (by omega)]
  · rw [cmpI_gt (dval_wid_lt hy hx q), cmpI_gt (by omega)]
theorem dlst_get {xs : List Int} {j : Nat} (h : j < dwid xs) : (dlst xs)[j]'(by rw [dlength_lst]; exact h) = xs[j]'(by have := dwid_le xs; omega) := by simp [dlst]
theorem dcmp_end {xs ys : List Int} {n : Nat} (hn : dwid xs = n) (hn' : dwid ys = n)
    (he : ∀ j (h1 : j < xs.length) (h2 : j < ys.length), j < n → xs[j] = ys[j]) : cmpI (dval xs) (dval ys) = 0 := by
  have e : dlst xs = dlst ys := by
    refine List.ext_getElem (by rw [dlength_lst, dlength_lst]; omega) (fun j h1 h2 => ?_)
    rw [dlength_lst] at h1 h2
    rw [dlst_get h1, dlst_get h2]
    exact he j _ _ (by omega)
  rw [← dval_lst xs, ← dval_lst ys, e, cmpI_self]
theorem dcmp_here {xs ys : List Int} {n j : Nat} (hx : DF xs) (hy : DF ys) (hn : dwid xs = n) (hn' : dwid ys = n) (hj : j < n)
    (he : ∀ i (h1 : i < xs.length) (h2 : i < ys.length), j < i → i < n → xs[i] = ys[i]) (h1 : j < xs.length) (h2 : j < ys.length) (hne : xs[j] ≠ ys[j]) : cmpI (dval xs) (dval ys) = cmpI xs[j] ys[j] := by
  have l1 := dlength_lst xs
  have l2 := dlength_lst ys
  have g1 : (dlst xs)[j]'(by omega) = xs[j] := dlst_get (by omega)
  have g2 : (dlst ys)[j]'(by omega) = ys[j] := dlst_get (by omega)
  rw [← dval_lst xs, ← dval_lst ys, ← g1, ← g2]
  refine dcmp_at (xs := dlst xs) (ys := dlst ys) (hx.take _) (hy.take _) (by omega) (by omega) ?_ (by rw [g1, g2]; exact hne)
  refine List.ext_getElem (by simp [dlength_lst]; omega) (fun i h3 h4 => ?_)
  simp only [List.getElem_drop]
  simp only [List.length_drop] at h3 h4
  rw [dlst_get (by omega), dlst_get (by omega)]
  exact he _ _ _ (by omega) (by omega)

theorem dcarry_step {xs zs : List Int} {ysT ysT' p y s d c : Int} {i : Nat} (hi : i < zs.length) (hv : dval zs + dpw i * c = dval xs + ysT) (hT : ysT' = ysT + y * dpw i)
    (hs : s + dwB * d = zs[i] + y + c) (hp : p = dpw (i + 1)) : dval (zs.set i s) + p * d = dval xs + ysT' := by
  subst hp
  rw [dval_set zs i s hi, hT]
  generalize hz : zs[i] = z at *
  have e : s = z + y + c - dwB * d := by omega
  subst e
  simp only [dpw, Int.sub_mul, Int.add_mul, Int.mul_assoc, Int.mul_comm c (dpw i), Int.mul_comm d (dpw i)]
  omega
theorem dborrow_step {xs zs : List Int} {ysT ysT' p y s d c : Int} {i : Nat} (hi : i < zs.length) (hv : dval zs - dpw i * c = dval xs - ysT) (hT : ysT' = ysT + y * dpw i)
    (hs : s - dwB * d = zs[i] - y - c) (hp : p = dpw (i + 1)) : dval (zs.set i s) - p * d = dval xs - ysT' := by
  subst hp
  rw [dval_set zs i s hi, hT]
  generalize hz : zs[i] = z at *
  have e : s = z - y - c + dwB * d := by omega
  subst e
  simp only [dpw, Int.sub_mul, Int.add_mul, Int.mul_assoc, Int.mul_comm c (dpw i), Int.mul_comm d (dpw i)]
  omega
theorem dwid_top : ∀ {xs : List Int} {n : Nat}, dwid xs = n + 1 → ∃ h : n < xs.length, xs[n] ≠ 0
  | [], n, h => by simp [dwid] at h
  | x :: r, n, h => by
    unfold dwid at h
    split at h
    · split at h
      · cases h
      · have : n = 0 := by omega
        subst this
        exact ⟨by simp, by simpa⟩
    · rename_i hr
      obtain ⟨m, hm⟩ : ∃ m, dwid r = m + 1 := ⟨dwid r - 1, by omega⟩
      obtain ⟨h1, h2⟩ := dwid_top hm
      have : n = m + 1 := by omega
      subst this
      exact ⟨by simpa using h1, by simpa using h2⟩
end Go.Proofs.YtiiemeigbnnlpaaGreatDoor
