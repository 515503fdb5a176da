/-
  QEr13ToUq13: Er13, Cr13, Ad14, Uq13, joined.
-/
import Derived.Test.YtplldfnldaehiaaQBz13
import Derived.Test.YtplldfnldaehiaaQSt13

/- Er13 -/
namespace Go.Proofs.Ytplldfnldaehiaa
set_option linter.unusedVariables false

end Go.Proofs.Ytplldfnldaehiaa

/- Cr13 -/
namespace Go.Proofs.Ytplldfnldaehiaa
set_option linter.unusedVariables false

theorem su_cut {r : Nat} {f : Nat → Int} : ∀ {m : Nat}, r ≤ m → (∀ k, r ≤ k → k < m → f k = 0) → su m f = su r f
  | 0, h, _ => by
    obtain rfl : r = 0 := by omega
    rfl
  | m + 1, h, hz => by
    by_cases e : r = m + 1
    · subst e; rfl
    · show su m f + f m = su r f
      rw [su_cut (m := m) (by omega) (fun k h1 h2 => hz k h1 (by omega)), hz m (by omega) (by omega)]
      omega
theorem Stz.more {A : Nat → Nat → Int} {n i : Nat} {rs cs : List Nat} {odd : Bool} (h : Stz A n i rs cs odd) {row : Nat} (hr : row < i) (M : Nat → Nat) (hM : ∀ b, b < rs.length + 1 → M b < n) : det (rs.length + 1) (fun a b => A ((rs ++ [row]).getD a 0) (M b)) = 0 := by
  have old : ∀ a, a < rs.length → (rs ++ [row]).getD a 0 = rs.getD a 0 := fun a ha => by simp [List.getElem?_append_left ha]
  have new : (rs ++ [row]).getD rs.length 0 = row := by simp
  by_cases hm : row ∈ rs
  · obtain ⟨t, ht, e⟩ := List.getElem_of_mem hm
    have et : rs.getD t 0 = row := by simp [ht, e]
    exact (det_alt (rs.length + 1)).same (i := t) (k := rs.length) (by omega) (by omega) (by omega) fun j hj => by rw [old t ht, new, et]
  · obtain ⟨k, h1, h2, h3⟩ := h.drop row hr hm
    obtain ⟨e, e0, he⟩ := mi_lin A (gd rs) (gd cs) k row
    refine det_dep (r := rs.length) _ (by omega) (fun q => if q < k then e q else if q = rs.length then e k else 0) ?_ fun j hj => ?_
    · rw [if_neg (by omega), if_pos rfl, e0]
      exact h.nz k h1
    · have hz := h3 (M j) (hM j hj)
      rw [he] at hz
      show su rs.length _ + (if rs.length < k then e rs.length else if rs.length = rs.length then e k else 0) * A ((rs ++ [row]).getD rs.length 0) (M j) = 0
      rw [su_cut (r := k) h1 fun q q1 q2 => by rw [if_neg (by omega), if_neg (by omega)]; simp]
      rw [if_neg (by omega), if_pos rfl, new]
      have e1 : su k (fun q => (if q < k then e q else if q = rs.length then e k else 0) * A ((rs ++ [row]).getD q 0) (M j)) = su k fun a => e a * A (bor k (gd rs) row a) (M j) := su_congr fun q hq => by rw [if_pos hq, old q (by omega), bor_lt hq]
      rw [e1]
      have e2 : su (k + 1) (fun a => e a * A (bor k (gd rs) row a) (M j)) = su k (fun a => e a * A (bor k (gd rs) row a) (M j)) + e k * A row (M j) := by
        show _ + e k * A (bor k (gd rs) row k) (M j) = _
        rw [bor_eq]
      rw [← e2]
      exact hz
end Go.Proofs.Ytplldfnldaehiaa

/- Ad14 -/
namespace Go.Proofs.Ytplldfnldaehiaa
set_option linter.unusedVariables false

/-- The adjugate's entry: the determinant with row j a row of the unit matrix. -/
def adz (n : Nat) (A : Nat → Nat → Int) (i j : Nat) : Int := det n (stR A j (dlz i))
theorem su_dlz {n c : Nat} (hc : c < n) (f : Nat → Int) : su n (fun k => f k * dlz k c) = f c := by
  rw [su_one (i := c) hc fun k _ hk => by unfold dlz; rw [if_neg hk]; simp]
  unfold dlz; simp
theorem adz_row {n : Nat} (A : Nat → Nat → Int) {j : Nat} (hj : j < n) (u : Nat → Int) : su n (fun k => u k * adz n A k j) = det n (stR A j u) := by
  unfold adz
  rw [← (det_alt n).sum hj u dlz n]
  refine det_congr fun r c hr hc => ?_
  by_cases q : r = j
  · subst q; rw [stR_at, stR_at]; exact su_dlz hc u
  · rw [stR_off _ q, stR_off _ q]
/-- a times its adjugate. -/
theorem adz_mul {n r j : Nat} (A : Nat → Nat → Int) (hr : r < n) (hj : j < n) : su n (fun k => A r k * adz n A k j) = if r = j then det n A else 0 := by
  rw [adz_row A hj (A r)]
  by_cases q : r = j
  · subst q; rw [if_pos rfl, stR_self]
  · rw [if_neg q]
    exact (det_alt n).same hr hj q fun c _ => by rw [stR_off _ q, stR_at]
theorem det_addrow {n j : Nat} (A : Nat → Nat → Int) (hj : j < n) (x : Nat → Int) : ∀ m, m ≤ n → det n (fun r c => if r < m ∧ r ≠ j then A r c + x r * A j c else A r c) = det n A
  | 0, _ => det_congr fun r c _ _ => by rw [if_neg (by omega)]
  | m + 1, hm => by
    rw [← det_addrow A hj x m (by omega)]
    by_cases q : m = j
    · exact det_congr fun r c _ _ => by
        by_cases c1 : r < m ∧ r ≠ j
        · rw [if_pos c1, if_pos (by omega)]
        · rw [if_neg c1, if_neg (by omega)]
    · obtain ⟨P, hP⟩ : ∃ P : Nat → Nat → Int, P = fun r c => if r < m ∧ r ≠ j then A r c + x r * A j c else A r c := ⟨_, rfl⟩
      have hp := (det_alt n).plus (A := P) (show m < n by omega) hj q (x m)
      rw [← hP, ← hp]
      refine det_congr fun r c _ _ => ?_
      by_cases e : r = m
      · subst e
        rw [stR_at, if_pos (by omega), hP]
        simp only []
        rw [if_neg (by omega), if_neg (by omega)]
      · rw [stR_off _ e, hP]
        simp only []
        by_cases c1 : r < m ∧ r ≠ j
        · rw [if_pos c1, if_pos (by omega)]
        · rw [if_neg c1, if_neg (by omega)]
/-- Row j and column i made those of the unit matrix. -/
theorem adz_cross {n i j : Nat} (A : Nat → Nat → Int) (hj : j < n) : adz n A i j = det n fun r c => if r = j then dlz i c else if c = i then 0 else A r c := by
  unfold adz
  rw [← det_addrow (stR A j (dlz i)) hj (fun r => - A r i) n (Nat.le_refl _)]
  refine det_congr fun r c hr hc => ?_
  by_cases q : r = j
  · subst q
    rw [if_neg (by omega), if_pos rfl, stR_at]
  · rw [if_pos ⟨hr, q⟩, if_neg q, stR_off _ q, stR_at]
    unfold dlz
    by_cases e : c = i
    · subst e; rw [if_pos rfl, if_pos rfl]; omega
    · rw [if_neg e, if_neg (Ne.symm e)]; omega
theorem adz_turn {n i j : Nat} (A : Nat → Nat → Int) (hi : i < n) (hj : j < n) : adz n (fun a b => A b a) j i = adz n A i j := by
  rw [adz_cross A hj, adz_cross _ hi, ← det_turn]
  refine det_congr fun r c hr hc => ?_
  simp only [dlz]
  by_cases q : r = j
  · by_cases e : c = i
    · simp [q, e]
    · simp [q, e, Ne.symm e]
  · by_cases e : c = i
    · simp [q, e, Ne.symm q]
    · simp [q, e]
/-- The adjugate times a. -/
theorem mul_adz {n i c : Nat} (A : Nat → Nat → Int) (hi : i < n) (hc : c < n) : su n (fun k => adz n A i k * A k c) = if i = c then det n A else 0 := by
  have h := adz_mul (fun a b => A b a) hc hi
  rw [det_turn] at h
  have e : su n (fun k => adz n A i k * A k c) = su n (fun k => A k c * adz n (fun a b => A b a) k i) := su_congr fun k hk => by
    rw [adz_turn A hi hk, Int.mul_comm]
  rw [e, h]
  by_cases q : i = c
  · subst q; rfl
  · rw [if_neg q, if_neg (Ne.symm q)]
/-- What is reckoned by sums and products of t and whole numbers. -/
def evl : List Int → Int → Int
  | [], _ => 0
  | c :: l, t => c + t * evl l t
def Pol (f : Int → Int) : Prop := ∃ l, ∀ t, f t = evl l t
theorem Pol.const (c : Int) : Pol fun _ => c := ⟨[c], fun t => by simp [evl]⟩
theorem Pol.id : Pol fun t => t := ⟨[0, 1], fun t => by simp [evl]⟩
theorem evl_add : ∀ l m : List Int, ∃ p, ∀ t, evl l t + evl m t = evl p t
  | [], m => ⟨m, fun t => by simp [evl]⟩
  | c :: l, [] => ⟨c :: l, fun t => by simp [evl]⟩
  | c :: l, d :: m => by
    obtain ⟨p, hp⟩ := evl_add l m
    exact ⟨(c + d) :: p, fun t => by show c + t * evl l t + (d + t * evl m t) = c + d + t * evl p t; rw [← hp t]; grind⟩
theorem evl_scale (x : Int) : ∀ l : List Int, ∃ p, ∀ t, x * evl l t = evl p t
  | [] => ⟨[], fun t => by simp [evl]⟩
  | c :: l => by
    obtain ⟨p, hp⟩ := evl_scale x l
    exact ⟨(x * c) :: p, fun t => by show x * (c + t * evl l t) = x * c + t * evl p t; rw [← hp t]; grind⟩
theorem evl_mul : ∀ l m : List Int, ∃ p, ∀ t, evl l t * evl m t = evl p t
  | [], m => ⟨[], fun t => by simp [evl]⟩
  | c :: l, m => by
    obtain ⟨p, hp⟩ := evl_mul l m
    obtain ⟨q, hq⟩ := evl_scale c m
    obtain ⟨s, hs⟩ := evl_add q (0 :: p)
    refine ⟨s, fun t => ?_⟩
    rw [← hs t, ← hq t]
    show (c + t * evl l t) * evl m t = c * evl m t + (0 + t * evl p t)
    rw [← hp t]
    grind
theorem Pol.add {f g : Int → Int} (hf : Pol f) (hg : Pol g) : Pol fun t => f t + g t := by
  obtain ⟨l, hl⟩ := hf
  obtain ⟨m, hm⟩ := hg
  obtain ⟨p, hp⟩ := evl_add l m
  exact ⟨p, fun t => by show _ = _; rw [← hp, ← hl, ← hm]⟩
theorem Pol.mul {f g : Int → Int} (hf : Pol f) (hg : Pol g) : Pol fun t => f t * g t := by
  obtain ⟨l, hl⟩ := hf
  obtain ⟨m, hm⟩ := hg
  obtain ⟨p, hp⟩ := evl_mul l m
  exact ⟨p, fun t => by show _ = _; rw [← hp, ← hl, ← hm]⟩
theorem Pol.su {f : Nat → Int → Int} : ∀ {n : Nat}, (∀ k, k < n → Pol (f k)) → Pol fun t => Proofs.Ytplldfnldaehiaa.su n fun k => f k t
  | 0, _ => Pol.const 0
  | n + 1, h => (Pol.su (n := n) fun k hk => h k (by omega)).add (h n (by omega))
theorem Pol.det : ∀ {n : Nat} {A : Int → Nat → Nat → Int}, (∀ a b, Pol fun t => A t a b) → Pol fun t => Proofs.Ytplldfnldaehiaa.det n (A t)
  | 0, _, _ => Pol.const 1
  | n + 1, A, h => Pol.su fun k _ => ((Pol.const (sgd k)).mul (h k 0)).mul (Pol.det (A := fun t r c => A t (skd k r) (c + 1)) fun a b => h _ _)
theorem Pol.adz {n i j : Nat} {A : Int → Nat → Nat → Int} (h : ∀ a b, Pol fun t => A t a b) : Pol fun t => Proofs.Ytplldfnldaehiaa.adz n (A t) i j :=
  Pol.det fun a b => by
    by_cases q : a = j
    · subst q
      have : (fun t => stR (A t) a (dlz i) a b) = fun _ => dlz i b := by funext t; rw [stR_at]
      rw [this]; exact Pol.const _
    · have : (fun t => stR (A t) j (dlz i) a b) = fun t => A t a b := by funext t; rw [stR_off _ q]
      rw [this]; exact h a b
end Go.Proofs.Ytplldfnldaehiaa

/- Uq13 -/
namespace Go.Proofs.Ytplldfnldaehiaa
set_option linter.unusedVariables false

section
variable {A : Nat → Nat → Int} {n i : Nat} {rs cs rs' cs' : List Nat} {odd odd' : Bool}
theorem Stz.colt (h : Stz A n i rs cs odd) {k : Nat} (hk : k < rs.length) : cs.getD k 0 < n := h.cl _ (by simp [show k < cs.length by rw [h.len]; exact hk])
/-- A row that leaves nothing behind k rows leaves nothing behind more. -/
theorem Stz.stays (h : Stz A n i rs cs odd) {r k : Nat} (hz : ∀ j, j < n → mi A (gd rs) (gd cs) k r j = 0) : ∀ d, k + d ≤ rs.length → ∀ j, j < n → mi A (gd rs) (gd cs) (k + d) r j = 0
  | 0, _, j, hj => hz j hj
  | d + 1, hd, j, hj => by
    have ih := Stz.stays h hz d (by omega)
    have hs := mi_step A (gd rs) (gd cs) (k + d) r j (h.nz _ (by omega))
    rw [ih j hj, ih _ (h.colt (k := k + d) (by omega))] at hs
    have hs' : dd A (gd rs) (gd cs) (k + d) * mi A (gd rs) (gd cs) (k + d + 1) r j = 0 := by rw [← hs]; simp
    rcases Int.mul_eq_zero.1 hs' with q | q
    · exact absurd q (h.nz _ (by omega))
    · exact q
/-- A kept row is not among those that the other stairs drop ahead of it. -/
theorem Stz.noskip (h : Stz A n i rs cs odd) (h' : Stz A n i rs' cs' odd') {t : Nat} (ht : t < rs.length) (e1 : ∀ a, a < t → rs.getD a 0 = rs'.getD a 0) (e2 : ∀ a, a < t → cs.getD a 0 = cs'.getD a 0) (hb : ∀ a, t ≤ a → a < rs'.length → rs.getD t 0 < rs'.getD a 0) (hle : t ≤ rs'.length) : False := by
  have hm : rs.getD t 0 ∈ rs := by simp [ht]
  have hni : rs.getD t 0 ∉ rs' := fun hm' => by
    obtain ⟨a, ha, e⟩ := List.getElem_of_mem hm'
    have ea : rs'.getD a 0 = rs.getD t 0 := by simp [ha]; rw [e]; simp [ht]
    by_cases q : a < t
    · have := up_lt h.up q ht
      rw [e1 a q, ea] at this
      omega
    · have := hb a (by omega) ha
      omega
  obtain ⟨k, k1, k2, k3⟩ := h'.drop _ (h.lt _ hm) hni
  have hkt : k ≤ t := by
    apply Classical.byContradiction
    intro q
    have a1 := k2 t (by omega)
    have a2 := hb t (Nat.le_refl _) (by omega)
    omega
  have hz : ∀ j, j < n → mi A (gd rs) (gd cs) k (rs.getD t 0) j = 0 := fun j hj => by
    rw [mi_congr (R' := gd rs') (C' := gd cs') (fun a ha => e1 a (by omega)) (fun a ha => e2 a (by omega))]
    exact k3 j hj
  have h2 := h.stays hz (t - k) (by omega) (cs.getD t 0) (h.colt ht)
  rw [show k + (t - k) = t by omega] at h2
  have h3 : mi A (gd rs) (gd cs) t (gd rs t) (gd cs t) = dd A (gd rs) (gd cs) (t + 1) := mi_dd A (gd rs) (gd cs) t
  have h4 : mi A (gd rs) (gd cs) t (gd rs t) (gd cs t) = 0 := h2
  exact h.nz (t + 1) (by omega) (by rw [← h3, h4])
theorem Stz.agree (h : Stz A n i rs cs odd) (h' : Stz A n i rs' cs' odd') : ∀ t, t ≤ rs.length → t ≤ rs'.length ∧ (∀ a, a < t → rs.getD a 0 = rs'.getD a 0) ∧ ∀ a, a < t → cs.getD a 0 = cs'.getD a 0
  | 0, _ => ⟨Nat.zero_le _, fun a ha => by omega, fun a ha => by omega⟩
  | t + 1, ht => by
    obtain ⟨g0, g1, g2⟩ := Stz.agree h h' t (by omega)
    by_cases q : t < rs'.length
    · have er : rs.getD t 0 = rs'.getD t 0 := by
        rcases Nat.lt_trichotomy (rs.getD t 0) (rs'.getD t 0) with c | c | c
        · refine (h.noskip h' (by omega) g1 g2 (fun a ha hl => ?_) g0).elim
          by_cases e : a = t
          · subst e; exact c
          · have := up_lt h'.up (show t < a by omega) hl; omega
        · exact c
        · refine (h'.noskip h q (fun a ha => (g1 a ha).symm) (fun a ha => (g2 a ha).symm) (fun a ha hl => ?_) (by omega)).elim
          by_cases e : a = t
          · subst e; exact c
          · have := up_lt h.up (show t < a by omega) hl; omega
      have em : ∀ j, mi A (gd rs) (gd cs) t (rs.getD t 0) j = mi A (gd rs') (gd cs') t (rs'.getD t 0) j := fun j => by rw [er]; exact mi_congr g1 g2 _ _
      have ec : cs.getD t 0 = cs'.getD t 0 := by
        have n1 : mi A (gd rs) (gd cs) t (rs.getD t 0) (cs.getD t 0) ≠ 0 := by
          have := mi_dd A (gd rs) (gd cs) t
          have h2 := h.nz (t + 1) (by omega)
          rw [← this] at h2
          exact h2
        have n2 : mi A (gd rs') (gd cs') t (rs'.getD t 0) (cs'.getD t 0) ≠ 0 := by
          have := mi_dd A (gd rs') (gd cs') t
          have h2 := h'.nz (t + 1) (by omega)
          rw [← this] at h2
          exact h2
        rcases Nat.lt_trichotomy (cs.getD t 0) (cs'.getD t 0) with c | c | c
        · have := h'.low t _ q c
          rw [← em] at this
          exact absurd this n1
        · exact c
        · have := h.low t _ (by omega) c
          rw [em] at this
          exact absurd this n2
      refine ⟨by omega, fun a ha => ?_, fun a ha => ?_⟩
      · by_cases e : a = t
        · subst e; exact er
        · exact g1 a (by omega)
      · by_cases e : a = t
        · subst e; exact ec
        · exact g2 a (by omega)
    · exact (h.noskip h' (by omega) g1 g2 (fun a ha hl => by omega) g0).elim
theorem Stz.unique (h : Stz A n i rs cs odd) (h' : Stz A n i rs' cs' odd') : rs = rs' ∧ cs = cs' := by
  obtain ⟨a1, a2, a3⟩ := h.agree h' rs.length (Nat.le_refl _)
  obtain ⟨b1, -, -⟩ := h'.agree h rs'.length (Nat.le_refl _)
  have hl : rs.length = rs'.length := by omega
  have hc : cs.length = cs'.length := by rw [h.len, h'.len, hl]
  refine ⟨List.ext_getElem hl fun j h1 h2 => ?_, List.ext_getElem hc fun j h1 h2 => ?_⟩
  · have := a2 j h1
    simpa [h1, h2] using this
  · have := a3 j (by rw [← h.len]; exact h1)
    simpa [h1, h2] using this
end
end Go.Proofs.Ytplldfnldaehiaa
