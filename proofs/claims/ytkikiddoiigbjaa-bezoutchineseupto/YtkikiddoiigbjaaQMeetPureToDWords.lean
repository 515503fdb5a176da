/-
  QMeetPureToDWords: MeetPure, DWords, joined.
-/
import Derived.Test.YtkikiddoiigbjaaQCrtAll6
import Derived.Test.YtkikiddoiigbjaaQWordsToBase

/- MeetPure -/
namespace Go.Proofs.Ytkikiddoiigbjaa
open Go.RowKit
set_option linter.unusedVariables false

theorem lcmv_nat (b d : Int) : lcmv b d = (Nat.lcm b.natAbs d.natAbs : Int) := by
  unfold lcmv Nat.lcm
  rw [Int.natAbs_mul, Int.natAbs_tdiv, show ((Int.gcd b d : Int)).natAbs = Nat.gcd b.natAbs d.natAbs from rfl]
  show ((b.natAbs / Nat.gcd b.natAbs d.natAbs * d.natAbs : Nat) : Int) = _
  rw [Nat.div_mul_right_comm (Nat.gcd_dvd_left _ _)]
theorem lcmv_one (b : Int) : lcmv 1 b = (b.natAbs : Int) := by rw [lcmv_nat]; simp
theorem lcmv_abs (b d : Int) : lcmv (b.natAbs : Int) d = lcmv b d := by rw [lcmv_nat, lcmv_nat]; simp
theorem lcmv_least {b d x : Int} (h1 : b ∣ x) (h2 : d ∣ x) : lcmv b d ∣ x := by
  rw [lcmv_nat, Int.ofNat_dvd_left]
  exact Nat.lcm_dvd (Int.natAbs_dvd_natAbs.2 h1) (Int.natAbs_dvd_natAbs.2 h2)
theorem lcmv_le (b d : Int) : (lcmv b d).natAbs ≤ b.natAbs * d.natAbs := by
  rw [lcmv_nat]
  simp only [Int.natAbs_natCast, Nat.lcm]
  exact Nat.div_le_self _ _
theorem one_rem {m r r' : Int} (h : m ∣ r - r') (h0 : 0 ≤ r) (h1 : r < m) (h2 : 0 ≤ r') (h3 : r' < m) : r = r' := by
  obtain ⟨q, hq⟩ := h
  have hm : 0 < m := by omega
  have hq0 : q = 0 := by
    rcases (show q ≤ -1 ∨ q = 0 ∨ 1 ≤ q by omega) with e | e | e
    · have := Int.mul_le_mul_of_nonneg_left e (Int.le_of_lt hm); omega
    · exact e
    · have := Int.mul_le_mul_of_nonneg_left e (Int.le_of_lt hm); omega
  subst hq0
  omega
theorem pw_mul_lt {x y : Nat} {a b : Nat} (hx : (x : Int) < pw a) (hy : (y : Int) < pw b) : ((x * y : Nat) : Int) < pw (a + b) := by
  rw [pw_plus]
  push_cast
  have h1 : (x : Int) * (y : Int) ≤ pw a * (y : Int) := Int.mul_le_mul_of_nonneg_right (by omega) (by omega)
  have h2 : pw a * (y : Int) < pw a * pw b := Int.mul_lt_mul_of_pos_left hy (pw_pos a)
  omega
/-- The moduli's multiples stay small. -/
theorem two_fit {B T : Int} {kb kt k : Nat} (hB : (B.natAbs : Int) < pw kb) (hT : (T.natAbs : Int) < pw kt) (hk : kb + kt ≤ k) (h1 : 1 ≤ k) : ∀ i, i ≤ [B, T].length → ((lcmL ([B, T].take i)).natAbs : Int) < pw k := by
  intro i hi
  have e1 := pw_one h1
  have e2 := pw_up (show kb ≤ k by omega)
  have e3 := pw_up hk
  simp at hi
  rcases (show i = 0 ∨ i = 1 ∨ i = 2 by omega) with rfl | rfl | rfl
  · simp [lcmL]; omega
  · simp only [List.take_succ_cons, List.take_zero, lcmL, List.foldl_cons, List.foldl_nil, lcmv_one]; omega
  · simp only [List.take_succ_cons, List.take_zero, lcmL, List.foldl_cons, List.foldl_nil, lcmv_one, lcmv_abs]
    have h2 := lcmv_le B T
    have h3 := pw_mul_lt hB hT
    omega
theorem lcmL_two (B T : Int) : lcmL [B, T] = lcmv B T := by simp only [lcmL, List.foldl_cons, List.foldl_nil, lcmv_one, lcmv_abs]
/-- Where the one goes together, so does the other; and so they answer the same. -/
theorem meet_some {A B S T r m : Int} (h : CrtV A B S T r m) : ¬ CrtN [A, S] [B, T] ∧ ∀ r' m', CrtL [A, S] [B, T] r' m' → r' = r ∧ m' = m := by
  refine ⟨?_, fun r' m' h' => ?_⟩
  · rintro ⟨j, hr, hm, r0, m0, hl, hn⟩
    simp at hr
    rcases (show j = 0 ∨ j = 1 by omega) with rfl | rfl
    · have e : m0 = 1 := by have := hl.em; simpa [lcmL] using this
      subst e
      apply hn
      simp
    · have e : m0 = (B.natAbs : Int) := by
        have := hl.em
        simpa [lcmL, lcmv_one] using this
      have d0 := hl.dr 0 (by simp) (by simp)
      simp at d0
      apply hn
      simp only [List.getElem_cons_succ, List.getElem_cons_zero]
      subst e
      have g1 : (Int.gcd (B.natAbs : Int) T : Int) ∣ B := Int.dvd_natAbs.1 (Int.gcd_dvd_left ..)
      have g2 : (Int.gcd (B.natAbs : Int) T : Int) ∣ T := Int.gcd_dvd_right ..
      have q1 := Int.dvd_trans g1 h.d1
      have q2 := Int.dvd_trans g2 h.d2
      have q3 := Int.dvd_trans g1 d0
      have := Int.dvd_sub (Int.dvd_sub q1 q2) q3
      rwa [show r - A - (r - S) - (r0 - A) = S - r0 by omega] at this
  · have e : m' = m := by rw [h'.em, lcmL_two, h.em]
    subst e
    refine ⟨?_, rfl⟩
    have d1 := h'.dr 0 (by simp) (by simp)
    have d2 := h'.dr 1 (by simp) (by simp)
    simp at d1 d2
    have q1 := Int.dvd_sub d1 h.d1
    have q2 := Int.dvd_sub d2 h.d2
    rw [show r' - A - (r - A) = r' - r by omega] at q1
    rw [show r' - S - (r - S) = r' - r by omega] at q2
    have q3 := lcmv_least q1 q2
    rw [← h.em] at q3
    exact one_rem q3 h'.lo h'.hi h.lo h.hi
theorem meet_none {A B S T : Int} (h : ¬ (Int.gcd B T : Int) ∣ S - A) : ∀ r m, ¬ CrtL [A, S] [B, T] r m := fun r m h' => by
  have d1 := h'.dr 0 (by simp) (by simp)
  have d2 := h'.dr 1 (by simp) (by simp)
  simp at d1 d2
  have g1 : (Int.gcd B T : Int) ∣ B := Int.gcd_dvd_left ..
  have g2 : (Int.gcd B T : Int) ∣ T := Int.gcd_dvd_right ..
  have := Int.dvd_sub (Int.dvd_trans g1 d1) (Int.dvd_trans g2 d2)
  exact h (by rwa [show r - A - (r - S) = S - A by omega] at this)
theorem zl_two {w : World} {x0 y0 x1 y1 : Value} {A B : Int} {k : Nat} (ha : Zi w (.agg #[x0, y0]) A k) (hb : Zi w (.agg #[x1, y1]) B k) :
    Zl (w.alloc (.cells #[x0, y0, x1, y1] 25)) (.slice (some ⟨w.heap.size, 0, none⟩) 2 2) [A, B] k := by
  have b0 : Below w.heap.size w (w.alloc (.cells #[x0, y0, x1, y1] 25)) := (Below.refl _ _).alloc (Nat.le_refl _) _
  have h := heap_alloc_new w (.cells #[x0, y0, x1, y1] 25)
  have sz : w.heap.size < (w.alloc (.cells #[x0, y0, x1, y1] 25)).heap.size := by simp
  generalize w.alloc (.cells #[x0, y0, x1, y1] 25) = W at *
  refine ⟨_, 2, rfl, by simp, by simp, .inr ⟨w.heap.size, 0, rfl, sz, fun j hj => ?_⟩⟩
  simp only [List.length_cons, List.length_nil] at hj
  rcases (show j = 0 ∨ j = 1 by omega) with rfl | rfl
  · exact ⟨x0, y0, by simp [World.cell?, h], by simp [World.cell?, h], ha.now b0⟩
  · exact ⟨x1, y1, by simp [World.cell?, h], by simp [World.cell?, h], hb.now b0⟩
section
variable {w : World} {v u : Value} {A B S T : Int} {k : Nat}
theorem crtAll2_zero (hv : Zl w v [A, S] k) (hu : Zl w u [B, T] k) (h1 : 1 ≤ k) (hk : k ≤ 17179869184) (HP : ∀ i, i ≤ [B, T].length → ((lcmL ([B, T].take i)).natAbs : Int) < pw k) (h : B = 0 ∨ T = 0) : Calls Try.prog 17 #[v, u] w (GivesZ2 4 w 0 0 k k) :=
  (crtAll_any hv hu rfl h1 hk HP).mono fun e w' hc => by
    rcases hc with ⟨-, hg⟩ | ⟨hall, -⟩
    · exact hg
    · rcases h with q | q
      · exact absurd q (hall 0 (by simp))
      · exact absurd q (hall 1 (by simp))
theorem nz_two (hB : B ≠ 0) (hT : T ≠ 0) : ¬ ∃ j, ∃ h : j < [B, T].length, [B, T][j] = 0 := by
  rintro ⟨j, hj, e⟩
  simp at hj
  rcases (show j = 0 ∨ j = 1 by omega) with rfl | rfl
  · exact hB e
  · exact hT e
theorem crtAll2_none (hv : Zl w v [A, S] k) (hu : Zl w u [B, T] k) (h1 : 1 ≤ k) (hk : k ≤ 17179869184) (HP : ∀ i, i ≤ [B, T].length → ((lcmL ([B, T].take i)).natAbs : Int) < pw k) (hB : B ≠ 0) (hT : T ≠ 0) (h : ¬ (Int.gcd B T : Int) ∣ S - A) : Calls Try.prog 17 #[v, u] w (GivesZ2 6 w 0 0 k k) :=
  (crtAll_any hv hu rfl h1 hk HP).mono fun e w' hc => by
    rcases hc with ⟨hz, -⟩ | ⟨-, ⟨-, hg⟩ | ⟨r, m, hl, -⟩⟩
    · exact absurd hz (nz_two hB hT)
    · exact hg
    · exact absurd hl (meet_none h r m)
theorem crtAll2_some {r m : Int} (hv : Zl w v [A, S] k) (hu : Zl w u [B, T] k) (h1 : 1 ≤ k) (hk : k ≤ 17179869184) (HP : ∀ i, i ≤ [B, T].length → ((lcmL ([B, T].take i)).natAbs : Int) < pw k) (hB : B ≠ 0) (hT : T ≠ 0) (h : CrtV A B S T r m) : Calls Try.prog 17 #[v, u] w (GivesZ2 0 w r m k k) :=
  (crtAll_any hv hu rfl h1 hk HP).mono fun e w' hc => by
    rcases hc with ⟨hz, -⟩ | ⟨-, ⟨hn, -⟩ | ⟨r', m', hl, hg⟩⟩
    · exact absurd hz (nz_two hB hT)
    · exact absurd hn (meet_some h).1
    · obtain ⟨e1, e2⟩ := (meet_some h).2 r' m' hl
      subst e1 e2
      exact hg
end
end Go.Proofs.Ytkikiddoiigbjaa

/- DWords -/
namespace Go.Proofs.Ytkikiddoiigbjaa

/-- 2^16. -/
def dwB : Int := 65536
/-- A word. -/
def IsD (x : Int) : Prop := 0 ≤ x ∧ x < dwB
/-- A list of words. -/
def DF (xs : List Int) : Prop := ∀ x ∈ xs, IsD x
/-- The number that a list of words is. -/
def dval : List Int → Int
  | [] => 0
  | x :: r => x + dwB * dval r
/-- How many words are left without zero words at the high end. -/
def dwid : List Int → Nat
  | [] => 0
  | x :: r => if dwid r = 0 then (if x = 0 then 0 else 1) else dwid r + 1
/-- The place value of word i. -/
def dpw : Nat → Int
  | 0 => 1
  | n + 1 => dwB * dpw n
/-- In least form. -/
def DCanon (xs : List Int) : Prop := DF xs ∧ dwid xs = xs.length
theorem DF.nil : DF [] := fun x h => by cases h
theorem DF.cons {x : Int} {r : List Int} (hx : IsD x) (hr : DF r) : DF (x :: r) := by
  intro y hy; rcases List.mem_cons.1 hy with rfl | h
  · exact hx
  · exact hr y h
theorem DF.head {x : Int} {r : List Int} (h : DF (x :: r)) : IsD x := h x (by simp)
theorem DF.tail {x : Int} {r : List Int} (h : DF (x :: r)) : DF r := fun y hy => h y (by simp [hy])
theorem DF.take {xs : List Int} (h : DF xs) (n : Nat) : DF (xs.take n) := fun x hx => h x (List.mem_of_mem_take hx)
theorem DF.append {xs ys : List Int} (h : DF xs) (k : DF ys) : DF (xs ++ ys) := by
  intro x hx; rcases List.mem_append.1 hx with q | q
  · exact h x q
  · exact k x q
theorem DF.get {xs : List Int} (h : DF xs) {i : Nat} (hi : i < xs.length) : IsD xs[i] := h _ (List.getElem_mem hi)
theorem DF.set {xs : List Int} (h : DF xs) (i : Nat) {x : Int} (hx : IsD x) : DF (xs.set i x) := by
  intro y hy
  rcases List.mem_or_eq_of_mem_set hy with q | rfl
  · exact h y q
  · exact hx

theorem dval_nonneg : ∀ {xs : List Int}, DF xs → 0 ≤ dval xs
  | [], _ => by simp [dval]
  | x :: r, h => by
    have h1 := h.head; have h2 := dval_nonneg h.tail
    unfold IsD dwB at h1; unfold dval dwB; omega
theorem dwid_le : ∀ xs : List Int, dwid xs ≤ xs.length
  | [] => by simp [dwid]
  | x :: r => by
    have := dwid_le r
    unfold dwid; split
    · split <;> simp
    · simp; omega
theorem dwid_zero_val : ∀ xs : List Int, dwid xs = 0 → dval xs = 0
  | [], _ => rfl
  | x :: r, h => by
    unfold dwid at h
    split at h
    · rename_i h0
      have := dwid_zero_val r h0
      split at h
      · rename_i hx; simp [dval, hx, this]
      · cases h
    · cases h
theorem dwid_pos_val : ∀ {xs : List Int}, DF xs → 0 < dwid xs → 0 < dval xs
  | [], _, h => by simp [dwid] at h
  | x :: r, hw, h => by
    have h1 := hw.head; have h2 := dval_nonneg hw.tail
    unfold dwid at h
    unfold IsD dwB at h1
    split at h
    · split at h
      · cases h
      · unfold dval dwB; omega
    · have := dwid_pos_val hw.tail (by omega)
      unfold dval dwB; omega
theorem dval_wid_lt : ∀ {xs ys : List Int}, DF xs → DF ys → dwid xs < dwid ys → dval xs < dval ys
  | [], ys, _, hy, h => by
    have := dwid_pos_val hy (by simp [dwid] at h; exact h)
    simpa [dval] using this
  | x :: xs, [], _, _, h => by simp [dwid] at h
  | x :: xs, y :: ys, hx, hy, h => by
    have hx1 := hx.head; have hy1 := hy.head
    have vy := dval_nonneg hy.tail
    by_cases e : dwid ys = 0
    · have : dwid (y :: ys) ≤ 1 := by unfold dwid; rw [if_pos e]; split <;> simp
      have h0 : dwid (x :: xs) = 0 := by omega
      rw [dwid_zero_val _ h0]
      exact dwid_pos_val hy (by omega)
    · have e1 : dwid (y :: ys) = dwid ys + 1 := by rw [dwid, if_neg e]
      have e2 : dwid xs < dwid ys := by
        by_cases q : dwid xs = 0
        · omega
        · have : dwid (x :: xs) = dwid xs + 1 := by rw [dwid, if_neg q]
          omega
      have := dval_wid_lt hx.tail hy.tail e2
      unfold IsD dwB at hx1 hy1
      unfold dval dwB; omega
theorem dcanon_tail {x : Int} {r : List Int} (h : DCanon (x :: r)) : DCanon r := by
  refine ⟨h.1.tail, ?_⟩
  have h2 := h.2
  unfold dwid at h2
  split at h2
  · split at h2
    · simp at h2
    · simp only [List.length_cons] at h2; omega
  · simp only [List.length_cons] at h2; omega
theorem dcanon_zero : ∀ {ys : List Int}, DCanon ys → dval ys = 0 → ys = []
  | [], _, _ => rfl
  | y :: ys, hy, h => by
    exfalso
    have h2 := hy.2
    have := dwid_pos_val hy.1 (by rw [h2]; simp)
    omega
theorem dcanon_inj : ∀ {xs ys : List Int}, DCanon xs → DCanon ys → dval xs = dval ys → xs = ys
  | [], ys, _, hy, h => (dcanon_zero hy (by simpa [dval] using h.symm)).symm
  | x :: xs, [], hx, _, h => dcanon_zero hx (by simpa [dval] using h)
  | x :: xs, y :: ys, hx, hy, h => by
    have hx1 := hx.1.head; have hy1 := hy.1.head
    unfold IsD dwB at hx1 hy1
    unfold dval dwB at h
    have e1 : x = y := by omega
    have e2 : dval xs = dval ys := by omega
    rw [e1, dcanon_inj (dcanon_tail hx) (dcanon_tail hy) e2]
/-- What is left of a list without zero words at the high end. -/
def dlst (xs : List Int) : List Int := xs.take (dwid xs)
theorem dlength_lst (xs : List Int) : (dlst xs).length = dwid xs := by unfold dlst; have := dwid_le xs; simp; omega
theorem dlst_cons (x : Int) (r : List Int) : dlst (x :: r) = if dwid r = 0 then (if x = 0 then [] else [x]) else x :: dlst r := by
  have e : dwid (x :: r) = if dwid r = 0 then (if x = 0 then 0 else 1) else dwid r + 1 := by rw [dwid]
  unfold dlst
  rw [e]
  split
  · split <;> simp
  · simp
theorem dval_lst : ∀ xs : List Int, dval (dlst xs) = dval xs
  | [] => rfl
  | x :: r => by
    rw [dlst_cons]
    split
    · rename_i h0
      have := dwid_zero_val r h0
      split
      · rename_i hx; simp [dval, hx, this]
      · simp [dval, this]
    · simp [dval, dval_lst r]
theorem dwid_lst : ∀ xs : List Int, dwid (dlst xs) = dwid xs
  | [] => rfl
  | x :: r => by
    rw [dlst_cons, dwid]
    split
    · split
      · rfl
      · rename_i hx; simp [dwid, hx]
    · rename_i h0
      rw [dwid, dwid_lst r, if_neg h0]
theorem dcanon_lst {xs : List Int} (h : DF xs) : DCanon (dlst xs) := ⟨h.take _, by rw [dwid_lst, dlength_lst]⟩
/-- The width is found from the top: zeros above n, and the word below n not 0. -/
theorem dwid_is : ∀ {xs : List Int} {n : Nat}, n ≤ xs.length → (∀ j (h : j < xs.length), n ≤ j → xs[j] = 0) → (0 < n → ∀ h' : n - 1 < xs.length, xs[n - 1] ≠ 0) → dwid xs = n
  | [], n, hn, _, _ => by simp at hn; simp [dwid, hn]
  | x :: r, 0, _, hz, _ => by
    have h0 : dwid r = 0 := dwid_is (Nat.zero_le _) (fun j h _ => by have := hz (j + 1) (by simpa using h) (by omega); simpa using this) (fun h => by omega)
    have hx : x = 0 := hz 0 (by simp) (by omega)
    simp [dwid, h0, hx]
  | x :: r, 1, _, hz, ht => by
    have h0 : dwid r = 0 := dwid_is (Nat.zero_le _) (fun j h _ => by have := hz (j + 1) (by simpa using h) (by omega); simpa using this) (fun h => by omega)
    have hx : x ≠ 0 := by simpa using ht (by omega) (by simp)
    simp [dwid, h0, hx]
  | x :: r, n + 2, hn, hz, ht => by
    have h0 : dwid r = n + 1 := by
      refine dwid_is (by simpa using hn) (fun j h hj => ?_) (fun _ h' => ?_)
      · have := hz (j + 1) (by simpa using h) (by omega); simpa using this
      · have := ht (by omega) (by simpa using h'); simpa using this
    simp [dwid, h0]

theorem dval_lt_pw : ∀ {xs : List Int}, DF xs → dval xs < dpw xs.length
  | [], _ => by simp [dval, dpw]
  | x :: r, h => by
    have h1 := h.head; have h2 := dval_lt_pw h.tail
    unfold IsD dwB at h1
    simp only [List.length_cons]
    unfold dval dpw dwB; omega
theorem dpw_pos : ∀ n, 0 < dpw n
  | 0 => by simp [dpw]
  | n + 1 => by have := dpw_pos n; unfold dpw dwB; omega
theorem dval_append : ∀ (xs ys : List Int), dval (xs ++ ys) = dval xs + dpw xs.length * dval ys
  | [], ys => by simp [dval, dpw]
  | x :: r, ys => by
    simp only [List.cons_append, List.length_cons, dval, dpw, dval_append r ys]
    rw [Int.mul_add, Int.mul_assoc]; omega
theorem dval_set : ∀ (xs : List Int) (i : Nat) (z : Int) (h : i < xs.length), dval (xs.set i z) = dval xs + (z - xs[i]) * dpw i
  | [], i, z, h => by simp at h
  | x :: r, 0, z, _ => by simp [dval, dpw]; omega
  | x :: r, i + 1, z, h => by
    have := dval_set r i z (by simpa using h)
    simp only [List.set_cons_succ, List.getElem_cons_succ, dval, dpw, this]
    have h' : i < r.length := by simpa using h
    generalize hq : z - r[i]'h' = q
    rw [Int.mul_add, ← Int.mul_assoc, ← Int.mul_assoc, Int.mul_comm dwB q]; omega
theorem dval_take_succ (ys : List Int) (i : Nat) (h : i < ys.length) : dval (ys.take (i + 1)) = dval (ys.take i) + ys[i] * dpw i := by
  rw [List.take_succ_eq_append_getElem h, dval_append]
  simp [dval, Int.mul_comm, Nat.min_eq_left (Nat.le_of_lt h)]
/-- A list whose value reaches the place value of its top word is in least form. -/
theorem dcanon_of_ge {zs : List Int} (hw : DF zs) {xs : List Int} (hx : DCanon xs) (hl : zs.length = xs.length) (hv : dval xs ≤ dval zs) : DCanon zs := by
  refine ⟨hw, ?_⟩
  have h1 := dwid_le zs
  by_cases e : dwid zs = zs.length
  · exact e
  · exfalso
    have := dval_wid_lt hw hx.1 (by rw [hx.2]; omega)
    omega
theorem dcanon_snoc_one {zs : List Int} (hw : DF zs) : DCanon (zs ++ [1]) := by
  refine ⟨hw.append (by intro x hx; simp at hx; subst hx; unfold IsD dwB; omega), ?_⟩
  refine dwid_is (by simp) (fun j h hj => by omega) (fun h h' => ?_)
  simp
theorem dcmp_at : ∀ {xs ys : List Int} {j : Nat}, DF xs → DF ys → (hl : xs.length = ys.length) → (h : j < xs.length) → xs.drop (j + 1) = ys.drop (j + 1) → xs[j] ≠ ys[j]'(by omega) → cmpI (dval xs) (dval ys) = cmpI xs[j] (ys[j]'(by omega))
  | [], _, _, _, _, _, h, _, _ => by simp at h
  | x :: xs, [], _, _, _, hl, _, _, _ => by simp at hl
  | x :: xs, y :: ys, 0, hx, hy, _, _, hd, hne => by
    simp only [List.drop_succ_cons, List.drop_zero] at hd
    simp only [List.getElem_cons_zero] at hne ⊢
    have hx1 := hx.head; have hy1 := hy.head
    unfold IsD dwB at hx1 hy1
    subst hd
    simp only [cmpI, dval]
    have e1 : (x + dwB * dval xs < y + dwB * dval xs) ↔ x < y := by omega
    have e2 : (y + dwB * dval xs < x + dwB * dval xs) ↔ y < x := by omega
    simp only [e1, e2]
  | x :: xs, y :: ys, j + 1, hx, hy, hl, h, hd, hne => by
    simp only [List.drop_succ_cons] at hd
    simp only [List.getElem_cons_succ] at hne ⊢
    have ih := dcmp_at hx.tail hy.tail (by simpa using hl) (by simpa using h) hd hne
    have hx1 := hx.head; have hy1 := hy.head
    unfold IsD dwB at hx1 hy1
    rw [← ih]
    have hne' : dval xs ≠ dval ys := by
      intro e
      rw [e, cmpI_self] at ih
      exact hne (cmpI_zero ih.symm)
    rcases Int.lt_or_gt_of_ne hne' with q | q
    · rw [cmpI_lt q, cmpI_lt (by unfold dval dwB; omega)]
    · rw [cmpI_gt q, cmpI_gt (by unfold dval dwB; omega)]
theorem dcmp_widths {xs ys : List Int} (hx : DF xs) (hy : DF ys) (h : dwid xs ≠ dwid ys) : cmpI (dval xs) (dval ys) = cmpI (dwid xs) (dwid ys) := by
  rcases Nat.lt_or_gt_of_ne h with q | q
  · rw [cmpI_lt (dval_wid_lt hx hy q), cmpI_lt (by omega)]
  · rw [cmpI_gt (dval_wid_lt hy hx q), cmpI_gt (by omega)]
theorem dlst_get {xs : List Int} {j : Nat} (h : j < dwid xs) : (dlst xs)[j]'(by rw [dlength_lst]; exact h) = xs[j]'(by have := dwid_le xs; omega) := by simp [dlst]
theorem dcmp_end {xs ys : List Int} {n : Nat} (hn : dwid xs = n) (hn' : dwid ys = n)
    (he : ∀ j (h1 : j < xs.length) (h2 : j < ys.length), j < n → xs[j] = ys[j]) : cmpI (dval xs) (dval ys) = 0 := by
  have e : dlst xs = dlst ys := by
    refine List.ext_getElem (by rw [dlength_lst, dlength_lst]; omega) (fun j h1 h2 => ?_)
    rw [dlength_lst] at h1 h2
    rw [dlst_get h1, dlst_get h2]
    exact he j _ _ (by omega)
  rw [← dval_lst xs, ← dval_lst ys, e, cmpI_self]
theorem dcmp_here {xs ys : List Int} {n j : Nat} (hx : DF xs) (hy : DF ys) (hn : dwid xs = n) (hn' : dwid ys = n) (hj : j < n)
    (he : ∀ i (h1 : i < xs.length) (h2 : i < ys.length), j < i → i < n → xs[i] = ys[i]) (h1 : j < xs.length) (h2 : j < ys.length) (hne : xs[j] ≠ ys[j]) : cmpI (dval xs) (dval ys) = cmpI xs[j] ys[j] := by
  have l1 := dlength_lst xs
  have l2 := dlength_lst ys
  have g1 : (dlst xs)[j]'(by omega) = xs[j] := dlst_get (by omega)
  have g2 : (dlst ys)[j]'(by omega) = ys[j] := dlst_get (by omega)
  rw [← dval_lst xs, ← dval_lst ys, ← g1, ← g2]
  refine dcmp_at (xs := dlst xs) (ys := dlst ys) (hx.take _) (hy.take _) (by omega) (by omega) ?_ (by rw [g1, g2]; exact hne)
  refine List.ext_getElem (by simp [dlength_lst]; omega) (fun i h3 h4 => ?_)
  simp only [List.getElem_drop]
  simp only [List.length_drop] at h3 h4
  rw [dlst_get (by omega), dlst_get (by omega)]
  exact he _ _ _ (by omega) (by omega)

theorem dcarry_step {xs zs : List Int} {ysT ysT' p y s d c : Int} {i : Nat} (hi : i < zs.length) (hv : dval zs + dpw i * c = dval xs + ysT) (hT : ysT' = ysT + y * dpw i)
    (hs : s + dwB * d = zs[i] + y + c) (hp : p = dpw (i + 1)) : dval (zs.set i s) + p * d = dval xs + ysT' := by
  subst hp
  rw [dval_set zs i s hi, hT]
  generalize hz : zs[i] = z at *
  have e : s = z + y + c - dwB * d := by omega
  subst e
  simp only [dpw, Int.sub_mul, Int.add_mul, Int.mul_assoc, Int.mul_comm c (dpw i), Int.mul_comm d (dpw i)]
  omega
theorem dborrow_step {xs zs : List Int} {ysT ysT' p y s d c : Int} {i : Nat} (hi : i < zs.length) (hv : dval zs - dpw i * c = dval xs - ysT) (hT : ysT' = ysT + y * dpw i)
    (hs : s - dwB * d = zs[i] - y - c) (hp : p = dpw (i + 1)) : dval (zs.set i s) - p * d = dval xs - ysT' := by
  subst hp
  rw [dval_set zs i s hi, hT]
  generalize hz : zs[i] = z at *
  have e : s = z - y - c + dwB * d := by omega
  subst e
  simp only [dpw, Int.sub_mul, Int.add_mul, Int.mul_assoc, Int.mul_comm c (dpw i), Int.mul_comm d (dpw i)]
  omega
theorem dwid_top : ∀ {xs : List Int} {n : Nat}, dwid xs = n + 1 → ∃ h : n < xs.length, xs[n] ≠ 0
  | [], n, h => by simp [dwid] at h
  | x :: r, n, h => by
    unfold dwid at h
    split at h
    · split at h
      · cases h
      · have : n = 0 := by omega
        subst this
        exact ⟨by simp, by simpa⟩
    · rename_i hr
      obtain ⟨m, hm⟩ : ∃ m, dwid r = m + 1 := ⟨dwid r - 1, by omega⟩
      obtain ⟨h1, h2⟩ := dwid_top hm
      have : n = m + 1 := by omega
      subst this
      exact ⟨by simpa using h1, by simpa using h2⟩
end Go.Proofs.Ytkikiddoiigbjaa
