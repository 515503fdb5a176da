/-
  Kp17: the kernel in numbers: what Kernel gathers out of the reduced form of the upended columns. Plain mathematics.
-/
import Derived.Test.YtcceoildbnoliaaGreatQSl17ToCf8
namespace Go.Proofs.YtcceoildbnoliaaGreat.Q17
set_option linter.unusedVariables false

theorem sm_two {n a b : Nat} {f : Nat → Rat} (ha : a < n) (hb : b < n) (hab : a ≠ b) (h : ∀ k, k < n → k ≠ a → k ≠ b → f k = 0) : sm n f = f a + f b := by
  have e : sm n f = sm n (fun k => (if k = a then f a else 0) + (if k = b then f b else 0)) := sm_congr fun k hk => by
    by_cases p : k = a
    · subst p; rw [if_pos rfl, if_neg hab]; grind
    · by_cases q : k = b
      · subst q; rw [if_neg p, if_pos rfl]; grind
      · rw [if_neg p, if_neg q, h k hk p q]; grind
  rw [e, sm_add, sm_one ha (fun k hk p => if_neg p), sm_one hb (fun k hk p => if_neg p), if_pos rfl, if_pos rfl]
theorem sm_head : ∀ (n : Nat) (f : Nat → Rat), sm (n + 1) f = f 0 + sm n (fun k => f (k + 1))
  | 0, f => by simp only [sm]; grind
  | n + 1, f => by
    show sm (n + 1) f + f (n + 1) = _
    rw [sm_head n f]
    show _ = f 0 + (sm n (fun k => f (k + 1)) + f (n + 1))
    grind
theorem sm_rev : ∀ (n : Nat) (f : Nat → Rat), sm n (fun k => f (n - 1 - k)) = sm n f
  | 0, f => rfl
  | n + 1, f => by
    rw [sm_head n (fun k => f (n + 1 - 1 - k))]
    show f (n + 1 - 1 - 0) + _ = sm n f + f n
    rw [← sm_rev n f, sm_congr (g := fun k => f (n - 1 - k)) (fun k hk => by congr 1; omega), show n + 1 - 1 - 0 = n by omega]
    grind
/-- The columns below n that have no pivot. -/
def frL (n : Nat) (pv : List Nat) : List Nat := (List.range n).filter (fun i => decide (i ∉ pv))
theorem frL_succ (n : Nat) (pv : List Nat) : frL (n + 1) pv = if n ∈ pv then frL n pv else frL n pv ++ [n] := by
  unfold frL
  rw [List.range_succ, List.filter_append]
  by_cases h : n ∈ pv
  · rw [if_pos h]; simp [h]
  · rw [if_neg h]; simp [h]
theorem frL_mem {n : Nat} {pv : List Nat} {i : Nat} : i ∈ frL n pv ↔ i < n ∧ i ∉ pv := by unfold frL; simp
theorem frL_sorted (n : Nat) (pv : List Nat) : (frL n pv).Pairwise (· < ·) := by
  unfold frL
  exact List.Pairwise.sublist List.filter_sublist List.pairwise_lt_range
theorem filt_len (p : Nat → Bool) : ∀ l : List Nat, (l.filter p).length + (l.filter fun i => !p i).length = l.length
  | [] => rfl
  | a :: l => by
    have := filt_len p l
    by_cases h : p a = true
    · simp [h]; omega
    · simp [h]; omega
theorem Rref.frees {m n : Nat} {E : Nat → Nat → Rat} {pv : List Nat} (h : Rref m n E pv) : (frL n pv).length + pv.length = n := by
  have e : (List.range n).filter (fun i => decide (i ∈ pv)) = pv := by
    refine sorted_eq (List.Pairwise.sublist List.filter_sublist List.pairwise_lt_range) h.sorted fun x => ?_
    simp only [List.mem_filter, List.mem_range, decide_eq_true_eq]
    refine ⟨fun q => q.2, fun q => ⟨?_, q⟩⟩
    obtain ⟨t, ht⟩ := List.mem_iff_getElem?.1 q
    exact h.lt t x ht
  have := filt_len (fun i => decide (i ∈ pv)) (List.range n)
  rw [e, List.length_range] at this
  have e2 : (List.range n).filter (fun i => !decide (i ∈ pv)) = frL n pv := by
    unfold frL
    congr 1
    funext i
    simp
  rw [e2] at this
  omega
/-- What the kernel has for a free column f, before it is turned round. -/
def kx (E : Nat → Nat → Rat) (pv : List Nat) (f i : Nat) : Rat := if i = f then 1 else if i ∈ pv then -(E (pv.idxOf i) f) else 0
theorem idx_at {pv : List Nat} {i : Nat} (h : i ∈ pv) : pv[pv.idxOf i]? = some i := by
  have h1 : pv.idxOf i < pv.length := List.idxOf_lt_length_iff.2 h
  rw [List.getElem?_eq_getElem h1, List.getElem_idxOf]
theorem Rref.idx {m n : Nat} {E : Nat → Nat → Rat} {pv : List Nat} (h : Rref m n E pv) {s a : Nat} (hs : pv[s]? = some a) : pv.idxOf a = s := by
  have ha : a ∈ pv := List.mem_iff_getElem?.2 ⟨s, hs⟩
  have e := idx_at ha
  rcases Nat.lt_trichotomy (pv.idxOf a) s with q | q | q
  · have := h.inc _ _ _ _ q e hs; omega
  · exact q
  · have := h.inc _ _ _ _ q hs e; omega
theorem Rref.kx_zero {m n : Nat} {E : Nat → Nat → Rat} {pv : List Nat} (h : Rref m n E pv) {f s : Nat} (hf : f < n) (hfp : f ∉ pv) (hs : s < m) : sm n (fun i => kx E pv f i * E s i) = 0 := by
  by_cases q : s < pv.length
  · have e : pv[s]? = some (pv.getD s 0) := by simp [q]
    have hlt := h.lt s _ e
    have hne : f ≠ pv.getD s 0 := fun p => hfp (by rw [p]; exact List.mem_iff_getElem?.2 ⟨s, e⟩)
    rw [sm_two hf hlt hne fun i hi p1 p2 => ?_]
    · have e1 : E s (pv.getD s 0) = 1 := by rw [h.one s _ s e hs]; unfold dlt; rw [if_pos rfl]
      have e2 : kx E pv f f = 1 := by unfold kx; rw [if_pos rfl]
      have e3 : kx E pv f (pv.getD s 0) = -(E s f) := by
        unfold kx
        rw [if_neg (fun p => hne p.symm), if_pos (List.mem_iff_getElem?.2 ⟨s, e⟩), h.idx e]
      rw [e1, e2, e3]
      grind
    · by_cases r : i ∈ pv
      · have ei := idx_at r
        have : E s i = 0 := by
          rw [h.one _ i s ei hs]
          unfold dlt
          rw [if_neg]
          intro p
          rw [← p] at ei
          rw [e] at ei
          exact p2 (Option.some.inj ei).symm
        rw [this]; grind
      · have : kx E pv f i = 0 := by unfold kx; rw [if_neg p1, if_neg r]
        rw [this]; grind
  · exact sm_zero fun i hi => by rw [h.zer s i (by omega) hs hi]; grind
/-- The rows that the kernel has. -/
def kr (n : Nat) (E : Nat → Nat → Rat) (pv : List Nat) (t j : Nat) : Rat := kx E pv ((frL n pv).getD ((frL n pv).length - 1 - t) 0) (n - 1 - j)
def khd (n : Nat) (pv : List Nat) : List Nat := (List.range (frL n pv).length).map fun t => n - 1 - (frL n pv).getD ((frL n pv).length - 1 - t) 0
theorem khd_len (n : Nat) (pv : List Nat) : (khd n pv).length = (frL n pv).length := by simp [khd]
theorem khd_at {n : Nat} {pv : List Nat} {t a : Nat} (h : (khd n pv)[t]? = some a) : t < (frL n pv).length ∧ a = n - 1 - (frL n pv).getD ((frL n pv).length - 1 - t) 0 := by
  have ht : t < (khd n pv).length := (List.getElem?_eq_some_iff.1 h).1
  rw [khd_len] at ht
  refine ⟨ht, ?_⟩
  unfold khd at h
  rw [List.getElem?_map, List.getElem?_range ht] at h
  exact (Option.some.inj h).symm
theorem frL_at {n : Nat} {pv : List Nat} {s : Nat} (hs : s < (frL n pv).length) : (frL n pv).getD s 0 < n ∧ (frL n pv).getD s 0 ∉ pv := by
  have : (frL n pv).getD s 0 ∈ frL n pv := by
    rw [List.getD_eq_getElem?_getD, List.getElem?_eq_getElem hs]
    exact List.getElem_mem hs
  exact frL_mem.1 this
theorem frL_lt {n : Nat} {pv : List Nat} {s t : Nat} (hst : s < t) (ht : t < (frL n pv).length) : (frL n pv).getD s 0 < (frL n pv).getD t 0 := by
  have := List.pairwise_iff_getElem.1 (frL_sorted n pv) s t (by omega) ht hst
  simp only [List.getD_eq_getElem?_getD, List.getElem?_eq_getElem ht, List.getElem?_eq_getElem (show s < (frL n pv).length by omega)]
  exact this
theorem Rref.kernel {m n : Nat} {E : Nat → Nat → Rat} {pv : List Nat} (h : Rref m n E pv) : Rref (frL n pv).length n (kr n E pv) (khd n pv) := by
  refine ⟨by rw [khd_len]; exact Nat.le_refl _, fun s t a b hst ha hb => ?_, fun t a ha => ?_, fun t a i ha hi => ?_, fun t a j ha hj => ?_, fun i j h1 h2 h3 => by rw [khd_len] at h1; omega⟩
  · obtain ⟨hs, rfl⟩ := khd_at ha
    obtain ⟨ht, rfl⟩ := khd_at hb
    have h1 := frL_lt (n := n) (pv := pv) (s := (frL n pv).length - 1 - t) (t := (frL n pv).length - 1 - s) (by omega) (by omega)
    have h2 := (frL_at (n := n) (pv := pv) (s := (frL n pv).length - 1 - s) (by omega)).1
    omega
  · obtain ⟨ht, rfl⟩ := khd_at ha
    have h2 := (frL_at (n := n) (pv := pv) (s := (frL n pv).length - 1 - t) (by omega)).1
    omega
  · obtain ⟨ht, rfl⟩ := khd_at ha
    have h2 := frL_at (n := n) (pv := pv) (s := (frL n pv).length - 1 - t) (by omega)
    have h3 := frL_at (n := n) (pv := pv) (s := (frL n pv).length - 1 - i) (by omega)
    unfold kr
    rw [show n - 1 - (n - 1 - (frL n pv).getD ((frL n pv).length - 1 - t) 0) = (frL n pv).getD ((frL n pv).length - 1 - t) 0 by omega]
    unfold kx dlt
    by_cases q : i = t
    · subst q; rw [if_pos rfl, if_pos rfl]
    · rw [if_neg q, if_neg, if_neg h2.2]
      intro p
      rcases Nat.lt_or_gt_of_ne q with r | r
      · have := frL_lt (n := n) (pv := pv) (s := (frL n pv).length - 1 - t) (t := (frL n pv).length - 1 - i) (by omega) (by omega); omega
      · have := frL_lt (n := n) (pv := pv) (s := (frL n pv).length - 1 - i) (t := (frL n pv).length - 1 - t) (by omega) (by omega); omega
  · obtain ⟨ht, rfl⟩ := khd_at ha
    have h2 := frL_at (n := n) (pv := pv) (s := (frL n pv).length - 1 - t) (by omega)
    obtain ⟨f, e⟩ : ∃ f, (frL n pv).getD ((frL n pv).length - 1 - t) 0 = f := ⟨_, rfl⟩
    unfold kr
    rw [e] at h2 hj ⊢
    unfold kx
    rw [if_neg (by omega)]
    by_cases q : n - 1 - j ∈ pv
    · rw [if_pos q, h.low _ _ f (idx_at q) (by omega)]; grind
    · rw [if_neg q]
/-- The upended columns of a matrix q of n rows: its lines. -/
def upq (n : Nat) (q : Nat → Nat → Rat) (l i : Nat) : Rat := q (n - 1 - i) l
theorem Rref.kernel_zero {m n : Nat} {E q : Nat → Nat → Rat} {pv : List Nat} (h : Rref m n E pv) (he : Comb n m m (upq n q) E) {t l : Nat} (ht : t < (frL n pv).length) (hl : l < m) : sm n (fun j => kr n E pv t j * q j l) = 0 := by
  have h2 := frL_at (n := n) (pv := pv) (s := (frL n pv).length - 1 - t) (by omega)
  obtain ⟨U, hU⟩ := he
  rw [sm_congr (g := fun j => (fun i => kx E pv ((frL n pv).getD ((frL n pv).length - 1 - t) 0) i * upq n q l i) (n - 1 - j)) (fun j hj => by
    show _ = kx E pv _ (n - 1 - j) * upq n q l (n - 1 - j)
    unfold kr upq
    rw [show n - 1 - (n - 1 - j) = j by omega]), sm_rev n (fun i => kx E pv ((frL n pv).getD ((frL n pv).length - 1 - t) 0) i * upq n q l i)]
  rw [sm_congr (g := fun i => sm m fun s => U l s * (kx E pv ((frL n pv).getD ((frL n pv).length - 1 - t) 0) i * E s i)) (fun i hi => by
    rw [hU l i hl hi]
    unfold vm
    rw [← sm_mul]
    exact sm_congr fun s hs => by grind), sm_swap]
  refine sm_zero fun s hs => ?_
  rw [sm_mul, h.kx_zero h2.1 h2.2 hs]
  grind
theorem comb_rev {m n : Nat} (A : Nat → Nat → Rat) : Comb n m m (fun i j => A (m - 1 - i) j) A := ⟨fun i => dlt (m - 1 - i), fun i j hi hj => (vm_dlt (by omega) A j).symm⟩
theorem comb_rev' {m n : Nat} (A : Nat → Nat → Rat) : Comb n m m A (fun i j => A (m - 1 - i) j) := ⟨fun i => dlt (m - 1 - i), fun i j hi hj => by
  rw [vm_dlt (by omega)]
  show A i j = A (m - 1 - (m - 1 - i)) j
  rw [show m - 1 - (m - 1 - i) = i by omega]⟩
/-- Row rank and column rank. -/
theorem Rref.ranks {m n : Nat} {E q F : Nat → Nat → Rat} {pv cols : List Nat} (h : Rref m n E pv) (he : Eqv n m E (upq n q)) (h' : Rref n m F cols) (hq : Eqv m n F q) : cols.length = pv.length := by
  have h1 := rank_turn_le fld17 h he.2 h' (hq.1.trans (comb_rev' q))
  have h2 := rank_turn_le fld17 (A := fun i j => q (n - 1 - i) j) h' ((comb_rev q).trans hq.2) h he.1
  omega
end Go.Proofs.YtcceoildbnoliaaGreat.Q17
