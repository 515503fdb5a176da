/-
  QSp13ToSs13: Sp13, Bl13, Ss13, joined.
-/
import Derived.Test.YtlhbcdapinacgaaGreatQUq13ToSl13
import Derived.Test.YtlhbcdapinacgaaGreatQCr13ToRs13
import Derived.Test.YtlhbcdapinacgaaGreatQWk13ToRf13
import Derived.Test.YtlhbcdapinacgaaGreatQCo13
import Derived.Deep.CutRange

/- Sp13 -/
namespace Go.Proofs.YtlhbcdapinacgaaGreat
set_option linter.unusedVariables false

/-- A number that is not 0 times v is a combination of t lines, as far as n columns go. -/
def Sp (n t : Nat) (L : Nat → Nat → Int) (v : Nat → Int) : Prop := ∃ (N : Int) (e : Nat → Int), N ≠ 0 ∧ ∀ j, j < n → N * v j = su t fun a => e a * L a j
section
variable {n t : Nat} {L : Nat → Nat → Int} {u v : Nat → Int}
theorem Sp.zero (h : ∀ j, j < n → v j = 0) : Sp n t L v := ⟨1, fun _ => 0, by decide, fun j hj => by rw [h j hj, su_zero fun k _ => by simp]; simp⟩
theorem Sp.one {a : Nat} (ha : a < t) (h : ∀ j, j < n → v j = L a j) : Sp n t L v := ⟨1, dlz a, by decide, fun j hj => by
  rw [h j hj, su_one (i := a) ha fun k _ hk => by unfold dlz; rw [if_neg (Ne.symm hk)]; simp]
  unfold dlz; simp⟩
theorem Sp.add (hu : Sp n t L u) (hv : Sp n t L v) : Sp n t L fun j => u j + v j := by
  obtain ⟨N, e, hN, he⟩ := hu
  obtain ⟨M, f, hM, hf⟩ := hv
  refine ⟨N * M, fun a => M * e a + N * f a, Int.mul_ne_zero hN hM, fun j hj => ?_⟩
  have e1 : su t (fun a => (M * e a + N * f a) * L a j) = M * su t (fun a => e a * L a j) + N * su t (fun a => f a * L a j) := by
    rw [← su_mul, ← su_mul, ← su_add]
    exact su_congr fun k _ => by grind
  rw [e1, ← he j hj, ← hf j hj]
  grind
theorem Sp.mul (x : Int) (hu : Sp n t L u) : Sp n t L fun j => x * u j := by
  obtain ⟨N, e, hN, he⟩ := hu
  refine ⟨N, fun a => x * e a, hN, fun j hj => ?_⟩
  have e1 : su t (fun a => (x * e a) * L a j) = x * su t (fun a => e a * L a j) := by
    rw [← su_mul]
    exact su_congr fun k _ => by grind
  rw [e1, ← he j hj]
  grind
theorem Sp.div {x : Int} (hx : x ≠ 0) (hu : Sp n t L fun j => x * u j) : Sp n t L u := by
  obtain ⟨N, e, hN, he⟩ := hu
  exact ⟨N * x, e, Int.mul_ne_zero hN hx, fun j hj => by rw [← he j hj]; grind⟩
theorem Sp.congr (hu : Sp n t L u) (h : ∀ j, j < n → v j = u j) : Sp n t L v := by
  obtain ⟨N, e, hN, he⟩ := hu
  exact ⟨N, e, hN, fun j hj => by rw [h j hj]; exact he j hj⟩
theorem Sp.sum {K : Nat → Nat → Int} (x : Nat → Int) : ∀ {s : Nat}, (∀ a, a < s → Sp n t L (K a)) → Sp n t L fun j => su s fun a => x a * K a j
  | 0, _ => Sp.zero fun j _ => rfl
  | s + 1, h => (Sp.sum x (s := s) fun a ha => h a (by omega)).add ((h s (by omega)).mul (x s))
theorem Sp.trans {K : Nat → Nat → Int} {s : Nat} (hv : Sp n s K v) (h : ∀ a, a < s → Sp n t L (K a)) : Sp n t L v := by
  obtain ⟨N, e, hN, he⟩ := hv
  exact Sp.div hN ((Sp.sum e h).congr he)
theorem Sp.less {m : Nat} (hv : Sp n t L v) (h : m ≤ n) : Sp m t L v := by
  obtain ⟨N, e, hN, he⟩ := hv
  exact ⟨N, e, hN, fun j hj => he j (by omega)⟩
end
def prn : Nat → (Nat → Int) → Int
  | 0, _ => 1
  | n + 1, N => N 0 * prn n fun k => N (k + 1)
theorem prn_ne : ∀ {n : Nat} {N : Nat → Int}, (∀ k, k < n → N k ≠ 0) → prn n N ≠ 0
  | 0, _, _ => by show (1 : Int) ≠ 0; decide
  | n + 1, N, h => Int.mul_ne_zero (h 0 (by omega)) (prn_ne fun k hk => h (k + 1) (by omega))
theorem det_scale : ∀ (n : Nat) (N : Nat → Int) (A : Nat → Nat → Int), det n (fun a b => N a * A a b) = prn n N * det n A
  | 0, _, _ => rfl
  | n + 1, N, A => by
    rw [det_row, det_row]
    unfold exd
    show _ = (N 0 * prn n fun k => N (k + 1)) * _
    rw [← su_mul]
    refine su_congr fun j _ => ?_
    rw [det_scale n (fun k => N (k + 1)) (fun r c => A (r + 1) (skd j c))]
    grind
/-- More rows than lines that span them. -/
theorem Sp.det0 {n t s : Nat} {L X : Nat → Nat → Int} (h : ∀ a, a < s → Sp n t L (X a)) (hts : t < s) {M : Nat → Nat} (hM : ∀ b, b < s → M b < n) : det s (fun a b => X a (M b)) = 0 := by
  have hc : ∀ a, ∃ (N : Int) (e : Nat → Int), N ≠ 0 ∧ (a < s → ∀ j, j < n → N * X a j = su t fun k => e k * L k j) := fun a => by
    by_cases q : a < s
    · obtain ⟨N, e, h1, h2⟩ := h a q
      exact ⟨N, e, h1, fun _ => h2⟩
    · exact ⟨1, fun _ => 0, by decide, fun q' => absurd q' q⟩
  have hN := fun a => (hc a).choose_spec
  obtain ⟨N, hNd⟩ : ∃ N : Nat → Int, N = fun a => (hc a).choose := ⟨_, rfl⟩
  have hE : ∀ a, ∃ e : Nat → Int, N a ≠ 0 ∧ (a < s → ∀ j, j < n → N a * X a j = su t fun k => e k * L k j) := fun a => by
    rw [hNd]; exact hN a
  obtain ⟨E, hEd⟩ : ∃ E : Nat → Nat → Int, E = fun a => (hE a).choose := ⟨_, rfl⟩
  have hF : ∀ a, N a ≠ 0 ∧ (a < s → ∀ j, j < n → N a * X a j = su t fun k => E a k * L k j) := fun a => by
    rw [hEd]; exact (hE a).choose_spec
  have e1 : det s (fun a b => N a * X a (M b)) = det s (muz s (fun a k => if k < t then E a k else 0) fun k b => L k (M b)) := det_congr fun a b ha hb => by
    unfold muz
    rw [(hF a).2 ha _ (hM b hb), su_cut (r := t) (m := s) (by omega) (fun k h1 _ => by simp only []; rw [if_neg (by omega)]; simp)]
    exact su_congr fun k hk => by simp only []; rw [if_pos hk]
  have e2 : det s (fun a k => if k < t then E a k else 0) = 0 := by
    rw [← det_turn]
    exact (det_alt s).nul (i := t) hts fun j _ => by rw [if_neg (by omega)]
  rw [det_mul, e2, det_scale s N (fun a b => X a (M b))] at e1
  have e3 := prn_ne (n := s) (N := N) fun k _ => (hF k).1
  rcases Int.mul_eq_zero.1 (e1.trans (Int.zero_mul _)) with q | q
  · exact absurd q e3
  · exact q
theorem det_tri : ∀ {s : Nat} {X : Nat → Nat → Int}, (∀ a b, a < s → b < a → X a b = 0) → (∀ a, a < s → X a a ≠ 0) → det s X ≠ 0
  | 0, _, _, _ => by show (1 : Int) ≠ 0; decide
  | s + 1, X, h1, h2 => by
    show su (s + 1) _ ≠ 0
    rw [su_one (i := 0) (by omega) fun k hk h0 => by rw [h1 k 0 hk (by omega)]; simp]
    have e : (fun r c => X (skd 0 r) (c + 1)) = fun r c => X (r + 1) (c + 1) := by funext r c; simp [skd]
    rw [e]
    have := det_tri (s := s) (X := fun r c => X (r + 1) (c + 1)) (fun a b ha hb => h1 _ _ (by omega) (by omega)) (fun a ha => h2 _ (by omega))
    exact Int.mul_ne_zero (Int.mul_ne_zero (by decide) (h2 0 (by omega))) this
section
variable {A : Nat → Nat → Int} {n i : Nat} {rs cs : List Nat} {odd : Bool}
/-- The lines of the stairs. -/
abbrev lnm (A : Nat → Nat → Int) (rs cs : List Nat) : Nat → Nat → Int := fun a j => mi A (gd rs) (gd cs) a (gd rs a) j
theorem Stz.back (h : Stz A n i rs cs odd) {r t : Nat} : ∀ k, k ≤ t → t ≤ rs.length → Sp n t (lnm A rs cs) (fun j => mi A (gd rs) (gd cs) k r j) → Sp n t (lnm A rs cs) (A r)
  | 0, _, _, hs => hs.congr fun j _ => (mi_zero A _ _ r j).symm
  | k + 1, hk, ht, hs => by
    refine h.back k (by omega) ht (Sp.div (h.nz (k + 1) (by omega)) ?_)
    refine Sp.congr (u := fun j => dd A (gd rs) (gd cs) k * mi A (gd rs) (gd cs) (k + 1) r j + mi A (gd rs) (gd cs) k r (gd cs k) * lnm A rs cs k j) ((hs.mul _).add ((Sp.one (a := k) (by omega) fun j _ => rfl).mul _)) fun j _ => ?_
    have := mi_step A (gd rs) (gd cs) k r j (h.nz k (by omega))
    show _ = _ + mi A (gd rs) (gd cs) k r (gd cs k) * mi A (gd rs) (gd cs) k (gd rs k) j
    omega
/-- The rows up to a row are spanned by the lines up to it. -/
theorem Stz.rows (h : Stz A n i rs cs odd) {r t : Nat} (hr : r < i) (ht : t ≤ rs.length) (hb : ∀ a, a < rs.length → rs.getD a 0 ≤ r → a < t) : Sp n t (lnm A rs cs) (A r) := by
  by_cases q : r ∈ rs
  · obtain ⟨a, ha, e⟩ := List.getElem_of_mem q
    have e2 : rs.getD a 0 = r := by simp [ha, e]
    have hat := hb a ha (by omega)
    refine h.back a (by omega) ht (Sp.one hat fun j _ => ?_)
    show _ = mi A (gd rs) (gd cs) a (gd rs a) j
    rw [show gd rs a = r from e2]
  · obtain ⟨k, hk, h1, h2⟩ := h.drop r hr q
    have hkt : k ≤ t := by
      by_cases k0 : k = 0
      · omega
      · have := hb (k - 1) (by omega) (by have := h1 (k - 1) (by omega); omega)
        omega
    exact h.back k hkt ht (Sp.zero h2)
theorem Stz.all (h : Stz A n i rs cs odd) {r : Nat} (hr : r < i) : Sp n rs.length (lnm A rs cs) (A r) := h.rows hr (Nat.le_refl _) fun a ha _ => ha
theorem Stz.upper (h : Stz A n i rs cs odd) {t : Nat} {L : Nat → Nat → Int} (hs : ∀ r, r < i → Sp n t L (A r)) : rs.length ≤ t := by
  apply Classical.byContradiction
  intro q
  have := Sp.det0 (X := fun a => A (rs.getD a 0)) (M := gd cs) (n := n) (s := rs.length) (fun a ha => hs _ (h.lt _ (by simp [ha]))) (by omega) fun b hb => h.colt hb
  exact h.nz rs.length (Nat.le_refl _) this
theorem Stz.lower (h : Stz A n i rs cs odd) {s : Nat} {X : Nat → Nat → Int} {M : Nat → Nat} (hs : ∀ a, a < s → Sp n rs.length (lnm A rs cs) (X a)) (hM : ∀ b, b < s → M b < n) (hd : det s (fun a b => X a (M b)) ≠ 0) : s ≤ rs.length := by
  apply Classical.byContradiction
  intro q
  exact hd (Sp.det0 hs (by omega) hM)
theorem Stz.inj (h : Stz A n i rs cs odd) {a b : Nat} (hab : a < b) (hb : b < rs.length) : cs.getD a 0 ≠ cs.getD b 0 := fun e => by
  have h1 := mi_old A (gd rs) (gd cs) (gd rs b) hab
  have h2 := mi_dd A (gd rs) (gd cs) b
  rw [show gd cs a = gd cs b from e, h2] at h1
  exact h.nz (b + 1) (by omega) h1
end
/-- How many of a list are below k. -/
def blw (l : List Nat) (k : Nat) : Nat := (l.filter fun x => decide (x < k)).length
theorem blw_le (l : List Nat) (k : Nat) : blw l k ≤ l.length := List.length_filter_le _ _
theorem blw_up : ∀ {l : List Nat} {k : Nat}, l.Pairwise (· < ·) → ∀ a, a < l.length → (a < blw l k ↔ l.getD a 0 < k)
  | [], _, _, a, ha => by simp at ha
  | x :: l, k, h, a, ha => by
    have h' := List.pairwise_cons.1 h
    by_cases q : x < k
    · have e : blw (x :: l) k = blw l k + 1 := by simp [blw, q]
      cases a with
      | zero => simp [e, q]
      | succ a =>
        have := blw_up (k := k) h'.2 a (by simpa using ha)
        rw [e]
        simp only [List.getD_cons_succ]
        omega
    · have e0 : blw l k = 0 := by
        unfold blw
        rw [List.length_eq_zero_iff, List.filter_eq_nil_iff]
        intro y hy
        have := h'.1 y hy
        simp; omega
      have e : blw (x :: l) k = 0 := by
        have : blw (x :: l) k = blw l k := by simp [blw, q]
        omega
      cases a with
      | zero => simp [e]; omega
      | succ a =>
        have h2 := h'.1 ((x :: l).getD (a + 1) 0) (by
          have : a < l.length := by simpa using ha
          simp [this])
        rw [e]
        omega
section
variable {A B : Nat → Nat → Int} {n i k : Nat} {rs cs rs' cs' : List Nat} {odd odd' : Bool}
/-- The first k rows. -/
theorem Stz.first (h : Stz A n i rs cs odd) (hk : k ≤ i) (h' : Stz B n k rs' cs' odd') (hB : ∀ a b, a < k → b < n → B a b = A a b) : rs'.length = blw rs k := by
  have ht : blw rs k ≤ rs.length := blw_le _ _
  apply Nat.le_antisymm
  · refine h'.upper (L := lnm A rs cs) fun r hr => Sp.congr (h.rows (t := blw rs k) (show r < i by omega) ht fun a ha hle => ?_) fun j hj => hB r j hr hj
    exact (blw_up h.up a ha).2 (by omega)
  · refine h'.lower (X := fun a => A (rs.getD a 0)) (M := gd cs) (fun a ha => ?_) (fun b hb => h.colt (by omega)) (h.nz _ ht)
    have hr := (blw_up h.up a (by omega)).1 ha
    exact (h'.all hr).congr fun j hj => (hB _ j hr hj).symm
/-- The first k columns. -/
theorem left13 (h : Stz A n i rs cs odd) (hk : k ≤ n) (h' : Stz B k i rs' cs' odd') (hB : ∀ a b, a < i → b < k → B a b = A a b) : rs'.length = blw (srt cs) k := by
  have hl : (srt cs).length = rs.length := by rw [h.srt.2.1, h.len]
  have ht : blw (srt cs) k ≤ rs.length := by rw [← hl]; exact blw_le _ _
  have hσ : ∀ y, ∃ a, y < rs.length → a < rs.length ∧ cs.getD a 0 = (srt cs).getD y 0 := fun y => by
    by_cases q : y < rs.length
    · have hm : (srt cs).getD y 0 ∈ srt cs := by simp [show y < (srt cs).length by omega]
      obtain ⟨a, ha, e⟩ := List.getElem_of_mem ((h.srt.2.2 _).1 hm)
      exact ⟨a, fun _ => ⟨by rw [← h.len]; exact ha, by rw [← e]; simp [ha]⟩⟩
    · exact ⟨0, fun q' => absurd q' q⟩
  obtain ⟨σ, hσd⟩ : ∃ σ : Nat → Nat, σ = fun y => (hσ y).choose := ⟨_, rfl⟩
  have hs : ∀ y, y < rs.length → σ y < rs.length ∧ cs.getD (σ y) 0 = (srt cs).getD y 0 := fun y hy => by
    rw [hσd]; exact (hσ y).choose_spec hy
  clear hσd hσ
  apply Nat.le_antisymm
  · refine h'.upper (L := fun y => lnm A rs cs (σ y)) fun r hr => ?_
    refine Sp.trans (K := lnm A rs cs) (s := rs.length) (((h.all hr).less hk).congr fun j hj => hB r j hr hj) fun a ha => ?_
    by_cases q : cs.getD a 0 < k
    · have hm : cs.getD a 0 ∈ srt cs := (h.srt.2.2 _).2 (by simp [show a < cs.length by rw [h.len]; exact ha])
      obtain ⟨y, hy, e⟩ := List.getElem_of_mem hm
      have e2 : (srt cs).getD y 0 = cs.getD a 0 := by rw [← e]; simp [hy]
      have hy' : y < rs.length := by omega
      have hyt : y < blw (srt cs) k := (blw_up h.srt.1 y hy).2 (by omega)
      obtain ⟨g1, g2⟩ := hs y hy'
      have ea : σ y = a := by
        rcases Nat.lt_trichotomy (σ y) a with c | c | c
        · exact absurd (g2.trans e2) (h.inj c ha)
        · exact c
        · exact absurd (g2.trans e2).symm (h.inj c g1)
      refine Sp.one hyt fun j _ => ?_
      show _ = lnm A rs cs (σ y) j
      rw [ea]
    · exact Sp.zero fun j hj => h.low a j ha (by omega)
  · refine h'.lower (X := fun y => lnm A rs cs (σ y)) (M := fun y => (srt cs).getD y 0) (fun y hy => ?_) (fun y hy => (blw_up h.srt.1 y (by omega)).1 hy) ?_
    · obtain ⟨g1, g2⟩ := hs y (by omega)
      obtain ⟨e, -, he⟩ := mi_lin A (gd rs) (gd cs) (σ y) (gd rs (σ y))
      refine Sp.congr (Sp.sum e (K := fun a => A (bor (σ y) (gd rs) (gd rs (σ y)) a)) (s := σ y + 1) fun a ha => ?_) fun j _ => he j
      have hr : bor (σ y) (gd rs) (gd rs (σ y)) a < i := by
        unfold bor
        split
        · exact h.lt _ (by simp [show a < rs.length by omega])
        · exact h.lt _ (by simp [g1])
      exact (h'.all hr).congr fun j hj => (hB _ j hr hj).symm
    · refine det_tri (fun a b ha hb => ?_) fun a ha => ?_
      · obtain ⟨g1, g2⟩ := hs a (by omega)
        exact h.low (σ a) _ g1 (by rw [g2]; exact up_lt h.srt.1 hb (by omega))
      · obtain ⟨g1, g2⟩ := hs a (by omega)
        have := mi_dd A (gd rs) (gd cs) (σ a)
        show mi A (gd rs) (gd cs) (σ a) (gd rs (σ a)) ((srt cs).getD a 0) ≠ 0
        rw [← g2]
        show mi A (gd rs) (gd cs) (σ a) (gd rs (σ a)) (gd cs (σ a)) ≠ 0
        rw [this]
        exact h.nz _ (by omega)
end
end Go.Proofs.YtlhbcdapinacgaaGreat

/- Bl13 -/
namespace Go.Proofs.YtlhbcdapinacgaaGreat
open Go.RowKit Go.Shelf
set_option linter.unusedVariables false

theorem blw_take (l : List Nat) (k t : Nat) (ht : t < l.length) : blw (l.take (t + 1)) k = if l.getD t 0 < k then blw (l.take t) k + 1 else blw (l.take t) k := by
  have e : l.take (t + 1) = l.take t ++ [l.getD t 0] := by
    rw [List.take_add_one]
    simp [ht]
  rw [e]
  unfold blw
  rw [List.filter_append, List.length_append]
  by_cases q : l.getD t 0 < k
  · rw [if_pos q, List.filter_cons, if_pos (by simpa using q)]; rfl
  · rw [if_neg q, List.filter_cons, if_neg (by simpa using q)]; rfl
def BlH (w : World) (q : Nat → Nat) (ll gk : Nat) (s5 s6 : Value) (wx : World) : Prop := ∃ t : Nat, s5 = .int .i64 (q t : Nat) ∧ s6 = .int .i64 (t : Int) ∧ t ≤ ll ∧ gk = ll - t ∧ wx = w
set_option maxHeartbeats 1600000 in
set_option maxRecDepth 100000 in
theorem below13 {B : Nat} {w : World} {v : Value} {l : List Nat} {k : Nat} (h : Ivs B w v l) (hl : l.length ≤ 64) : Calls Tryz.prog 29 #[v, .int .i64 (k : Int)] w fun e w' => e = .returned (.int .i64 (blw l k : Nat)) ∧ Below w.heap.size w w' := by
  obtain ⟨q, hq⟩ : ∃ q : Nat → Nat, q = fun t => blw (l.take t) k := ⟨_, rfl⟩
  have HQ0 : Hid (q 0 = 0) := by rw [hq]; rfl
  have HQS : Hid (∀ t, t < l.length → q (t + 1) = if l.getD t 0 < k then q t + 1 else q t) := fun t ht => by rw [hq]; exact blw_take l k t ht
  have HQL : Hid (q l.length = blw l k) := by rw [hq]; show blw (l.take l.length) k = _; rw [List.take_length]
  have HQB : Hid (∀ t, q t ≤ 64) := fun t => by
    rw [hq]
    have := blw_le (l.take t) k
    have := List.length_take_le t l
    have h3 : (l.take t).length ≤ l.length := by rw [List.length_take]; omega
    show blw (l.take t) k ≤ 64
    omega
  clear hq
  obtain ⟨aa, cap, rfl, hcap, hgg⟩ := h.form
  have HI := hid h
  have HGG := hid hgg
  obtain ⟨ll, hll⟩ : ∃ ll, l.length = ll := ⟨_, rfl⟩
  have ELL := hid hll
  have H0 : Hid (BlH w q ll ll (.int .i64 0) (.int .i64 0) w) := ⟨0, by rw [HQ0.out]; rfl, rfl, Nat.zero_le _, rfl, rfl⟩
  rw [hll] at HI hl hcap HQL ⊢
  clear h hgg hll
  go_enter Tryz.func29, Tryz.ntmps29
  go_wp2_with fail
  go_loopg [5, 6] ll (fun gk s5 s6 wx => BlH w q ll gk s5 s6 wx)
  case atStart => exact H0.out
  case round =>
    clear H0
    obtain ⟨t, rfl, rfl, htl, hgk, hwx⟩ := hrel
    rw [hwx]
    clear hwx wr
    have HG := hid hgk
    clear hgk
    by_cases hlt : t < ll
    · have hlt' : (t : Int) < (ll : Int) := by omega
      have hw := wrapI9 (i := t) (by omega)
      have HMM : Hid (ll - (t + 1) < gk) := by unfold Hid; rw [HG.out]; omega
      obtain ⟨g, rfl⟩ := HGG.out (by rw [ELL.out]; omega)
      have c0 := HI.out.at (i := t) (by rw [ELL.out]; exact hlt)
      have hs := HQS.out t (by rw [ELL.out]; exact hlt)
      have hqb := HQB.out t
      have hw2 := wrapI9 (i := q t) (by omega)
      by_cases hx : l.getD t 0 < k
      · rw [if_pos hx] at hs
        have HN1 : Hid (BlH w q ll (ll - (t + 1)) (.int .i64 ((q t + 1 : Nat) : Int)) (.int .i64 ((t + 1 : Nat) : Int)) w) := ⟨t + 1, by rw [hs], rfl, by omega, rfl, rfl⟩
        have hxi : ((l.getD t 0 : Nat) : Int) < (k : Int) := by omega
        generalize l.getD t 0 = x at *
        generalize q t = qt at *
        clear HI HG HQ0 HQS HQL HQB HGG ELL hs hx
        go_wp2_with fail
        go_roundg (ll - (t + 1))
        case rel => exact HN1.out
        case measure => exact HMM.out
      · rw [if_neg hx] at hs
        have HN1 : Hid (BlH w q ll (ll - (t + 1)) (.int .i64 ((q t : Nat) : Int)) (.int .i64 ((t + 1 : Nat) : Int)) w) := ⟨t + 1, by rw [hs], rfl, by omega, rfl, rfl⟩
        have hxi : ¬ ((l.getD t 0 : Nat) : Int) < (k : Int) := by omega
        generalize l.getD t 0 = x at *
        generalize q t = qt at *
        clear HI HG HQ0 HQS HQL HQB HGG ELL hs hx
        go_wp2_with fail
        go_roundg (ll - (t + 1))
        case rel => exact HN1.out
        case measure => exact HMM.out
    · have hlt' : ¬ (t : Int) < (ll : Int) := by omega
      obtain rfl : t = ll := by omega
      have FIN : Hid ((Ending.returned (.int .i64 ((q t : Nat) : Int)) = .returned (.int .i64 ((blw l k : Nat) : Int))) ∧ Below w.heap.size w w) := ⟨by rw [HQL.out], Below.refl _ _⟩
      clear HI HG HQ0 HQS HQL HQB HGG
      generalize q t = qt at *
      go_wp2
      go_ret
      exact FIN.out
set_option maxHeartbeats 800000 in
set_option maxRecDepth 100000 in
theorem rowSet_un {w : World} {r c : Int} {a : Option Addr} {l cap : Nat} (h : ¬ Snd r c l) : Calls Tryz.prog 26 #[.agg #[.int .i64 r, .int .i64 c, .slice a l cap]] w fun e w' => e = .returned (.tuple #[.slice none 0 0, .int .i64 1]) ∧ Below w.heap.size w w' := by
  obtain ⟨W0, hW⟩ : ∃ W0, w.alloc (.cells #[.int .i64 r, .int .i64 c, .slice a l cap] 24) = W0 := ⟨_, rfl⟩
  obtain ⟨b0, sz0⟩ := alo1 w (.cells #[.int .i64 r, .int .i64 c, .slice a l cap] 24)
  rw [hW] at b0 sz0
  have HC := hid (core_un (w := W0) (a := a) (cap := cap) h)
  have G := hid b0
  have EW := hid hW
  clear h b0 sz0 hW
  go_enter Tryz.func26, Tryz.ntmps26
  go_wp2_with fail
  rw [EW.out]
  refine HC.out.mono ?_
  rintro e w1 ⟨rfl, b⟩
  have FIN : Hid (Below w.heap.size w (w1.alloc (.cells #[.bool false, .slice none 0 0] 30))) := below_step (below_step G.out b) ((Below.refl _ _).alloc (Nat.le_refl _) _)
  clear HC b
  go_wp2
  go_ret2
  exact ⟨rfl, FIN.out⟩
set_option maxHeartbeats 800000 in
set_option maxRecDepth 100000 in
theorem pivots_un {w : World} {r c : Int} {a : Option Addr} {l cap : Nat} (h : ¬ Snd r c l) : Calls Tryz.prog 27 #[.agg #[.int .i64 r, .int .i64 c, .slice a l cap]] w fun e w' => e = .returned (.tuple #[.slice none 0 0, .int .i64 1]) ∧ Below w.heap.size w w' := by
  obtain ⟨W0, hW⟩ : ∃ W0, w.alloc (.cells #[.int .i64 r, .int .i64 c, .slice a l cap] 24) = W0 := ⟨_, rfl⟩
  obtain ⟨b0, sz0⟩ := alo1 w (.cells #[.int .i64 r, .int .i64 c, .slice a l cap] 24)
  rw [hW] at b0 sz0
  have HC := hid (core_un (w := W0) (a := a) (cap := cap) h)
  have G := hid b0
  have EW := hid hW
  clear h b0 sz0 hW
  go_enter Tryz.func27, Tryz.ntmps27
  go_wp2_with fail
  rw [EW.out]
  refine HC.out.mono ?_
  rintro e w1 ⟨rfl, b⟩
  have FIN : Hid (Below w.heap.size w (w1.alloc (.cells #[.bool false, .slice none 0 0] 30))) := below_step (below_step G.out b) ((Below.refl _ _).alloc (Nat.le_refl _) _)
  clear HC b
  go_wp2
  go_ret2
  exact ⟨rfl, FIN.out⟩
theorem part_rows {r c k : Nat} {xs : List Int} (hk : k ≤ r) : ∀ a b, a < k → b < c → en c (pickL r c xs (List.range k) (List.range c)) a b = en c xs a b := fun a b ha hb => by
  have := pick_en (r := r) (c := c) (zs := xs) (is := List.range k) (js := List.range c) (a := a) (b := b) (fun i hi => Nat.lt_of_lt_of_le (List.mem_range.1 hi) hk) (fun j hj => by simpa using hj) (by simpa using ha) (by simpa using hb)
  rw [List.length_range] at this
  rw [this]
  simp [ha, hb]
theorem part_cols {r c k : Nat} {xs : List Int} (hk : k ≤ c) : ∀ a b, a < r → b < k → en k (pickL r c xs (List.range r) (List.range k)) a b = en c xs a b := fun a b ha hb => by
  have := pick_en (r := r) (c := c) (zs := xs) (is := List.range r) (js := List.range k) (a := a) (b := b) (fun i hi => by simpa using hi) (fun j hj => Nat.lt_of_lt_of_le (List.mem_range.1 hj) hk) (by simpa using ha) (by simpa using hb)
  rw [List.length_range] at this
  rw [this]
  simp [ha, hb]
/-- A matrix in a box, made anywhere in a statement. -/
def PkR (W wx : World) (s1 s2 : Value) (r c : Nat) (zs : List Int) : Prop :=
  ∃ bk ap lp qp, s1 = .pointer (some ⟨bk, 0, none⟩) ∧ s2 = .int .i64 0 ∧ Below W.heap.size W wx ∧ Cel wx bk 24 [.int .i64 (r : Int), .int .i64 (c : Int), .slice ap lp qp] ∧ Mx wx (matv r c (.slice ap lp qp)) r c zs 1048576
theorem pkr_put {W w : World} {bk r c la qa : Nat} {aa : Option Addr} {zs : List Int} (d : Cel w bk 24 [.int .i64 0, .int .i64 0, .slice none 0 0]) (m : Mx w (matv r c (.slice aa la qa)) r c zs 1048576) (hb : Below W.heap.size W w) (hs : W.heap.size ≤ bk) :
    PkR W (((w.setCell ⟨bk, 0, none⟩ (.int .i64 (r : Int))).setCell ⟨bk, 1, none⟩ (.int .i64 (c : Int))).setCell ⟨bk, 2, none⟩ (.slice aa la qa)) (.pointer (some ⟨bk, 0, none⟩)) (.int .i64 0) r c zs := by
  have d1 := d.set 0 (.int .i64 (r : Int))
  have d2 := d1.set 1 (.int .i64 (c : Int))
  have d3 := d2.set 2 (.slice aa la qa)
  exact ⟨bk, aa, la, qa, rfl, rfl, bset (bset (bset hb hs) hs) hs, d3, ((m.off13 d mats13).off13 d1 mats13).off13 d2 mats13⟩
end Go.Proofs.YtlhbcdapinacgaaGreat

/- Ss13 -/
namespace Go.Proofs.YtlhbcdapinacgaaGreat
open Go.RowKit
set_option linter.unusedVariables false

set_option maxHeartbeats 6400000 in
set_option maxRecDepth 100000 in
theorem bareissSets_any {w : World} {va : Value} {ra ca : Int} {la : Nat} {xs : List Int} {k : Int} (ha : Raw w va ra ca la xs) :
    Calls Tryz.prog 6 #[va, .int .i64 k] w (Tru w) := by
  have RA := hid ha
  obtain ⟨aa, qa, -, rfl, -, -, -, hla⟩ := ha
  obtain ⟨W0, hV⟩ : ∃ W0, w.alloc (.cells #[.int .i64 ra, .int .i64 ca, .slice aa la qa] 24) = W0 := ⟨_, rfl⟩
  obtain ⟨b0, sz0⟩ := alo1 w (.cells #[.int .i64 ra, .int .i64 ca, .slice aa la qa] 24)
  rw [hV] at b0 sz0
  have PA : Hid (Cel W0 w.heap.size 24 [.int .i64 ra, .int .i64 ca, .slice aa la qa]) := by unfold Hid; rw [← hV]; exact Cel.new w _ _
  replace RA := hid (RA.out.now b0)
  have G := hid b0
  clear b0 sz0
  have EV := hid hV
  clear hV
  go_enter Tryz.func6, Tryz.ntmps6
  go_wp2_with fail
  rw [EV.out]
  clear EV
  by_cases hsa : Snd ra ca la
  · obtain ⟨r, c, rfl, rfl⟩ := snd13 hsa
    obtain ⟨ma, -⟩ := RA.out.mx13 hsa
    have MA := hid ma
    clear ma hsa
    clear RA
    have hr64 : r ≤ 64 := by obtain ⟨_, _, _, _, _, _, h, _⟩ := MA.out; exact h
    have hc64 : c ≤ 64 := by obtain ⟨_, _, _, _, _, _, _, h⟩ := MA.out; exact h
    refine (rowSet_yes MA.out (by decide)).mono ?_
    rintro e w1 ⟨rs, cs, odd, hz, rv, rfl, i1, b⟩
    replace PA := hid (PA.out.step b)
    replace MA := hid (MA.out.now b)
    replace G := hid (below_step G.out b)
    have HZ := hid hz
    have HRL : Hid (rs.length ≤ 64) := Nat.le_trans hz.le hr64
    have HUR : Hid (rs.Pairwise (· < ·)) := hz.up
    have HBR : Hid (∀ i ∈ rs, i < r) := hz.lt
    have HSL : Hid ((srt cs).length ≤ 64) := by unfold Hid; rw [hz.srt.2.1, hz.len]; exact HRL.out
    have HUC : Hid ((srt cs).Pairwise (· < ·)) := hz.srt.1
    have HBC : Hid (∀ j ∈ srt cs, j < c) := fun j hj => hz.cl j ((hz.srt.2.2 j).1 hj)
    have IR := hid i1
    obtain ⟨ar, capr, rfl, -, -⟩ := i1.form
    obtain ⟨rl, hrl⟩ : ∃ rl, rs.length = rl := ⟨_, rfl⟩
    rw [hrl] at IR ⊢
    clear hz i1 hrl
    clear b
    have cA0 := PA.out.at (i := 0) rfl
    have cA1 := PA.out.at (i := 1) rfl
    have cA2 := PA.out.at (i := 2) rfl
    go_wp2_with fail
    clear cA0 cA1 cA2
    refine (pivots_yes MA.out (by decide)).mono ?_
    rintro e w2 ⟨rs2, cs2, odd2, hz2, cv, rfl, i2, b⟩
    replace PA := hid (PA.out.step b)
    replace MA := hid (MA.out.now b)
    replace IR := hid (IR.out.now b)
    replace G := hid (below_step G.out b)
    have e2 : cs2 = cs := (hz2.unique HZ.out).2
    rw [e2] at i2
    have IC := hid i2
    obtain ⟨ac, capc, rfl, -, -⟩ := i2.form
    obtain ⟨cl, hcl⟩ : ∃ cl, (srt cs).length = cl := ⟨_, rfl⟩
    rw [hcl] at IC ⊢
    clear hz2 i2 e2 hcl
    clear b
    go_wp2_with fail
    refine (awake13 _).mono ?_
    rintro e w3 ⟨rfl, b⟩
    replace PA := hid (PA.out.step b)
    replace MA := hid (MA.out.now b)
    replace IR := hid (IR.out.now b)
    replace IC := hid (IC.out.now b)
    replace G := hid (below_step G.out b)
    clear b
    have cA0 := PA.out.at (i := 0) rfl
    have cA1 := PA.out.at (i := 1) rfl
    have cA2 := PA.out.at (i := 2) rfl
    go_wp2_with fail
    clear cA0 cA1 cA2
    refine (check_yes MA.out).mono ?_
    rintro e w4 ⟨rfl, b⟩
    replace PA := hid (PA.out.step b)
    replace MA := hid (MA.out.now b)
    replace IR := hid (IR.out.now b)
    replace IC := hid (IC.out.now b)
    replace G := hid (below_step G.out b)
    clear b
    have cA0 := PA.out.at (i := 0) rfl
    have cA1 := PA.out.at (i := 1) rfl
    have cA2 := PA.out.at (i := 2) rfl
    go_wp2_with fail
    clear cA0 cA1 cA2
    refine (rising13 IR.out HUR.out HBR.out HRL.out).mono ?_
    rintro e w5 ⟨rfl, b⟩
    replace PA := hid (PA.out.step b)
    replace MA := hid (MA.out.now b)
    replace IR := hid (IR.out.now b)
    replace IC := hid (IC.out.now b)
    replace G := hid (below_step G.out b)
    clear b
    have cA0 := PA.out.at (i := 0) rfl
    have cA1 := PA.out.at (i := 1) rfl
    have cA2 := PA.out.at (i := 2) rfl
    go_wp2_with fail
    clear cA0 cA1 cA2
    refine (rising13 IC.out HUC.out HBC.out HSL.out).mono ?_
    rintro e w6 ⟨rfl, b⟩
    replace PA := hid (PA.out.step b)
    replace MA := hid (MA.out.now b)
    replace IR := hid (IR.out.now b)
    replace IC := hid (IC.out.now b)
    replace G := hid (below_step G.out b)
    clear b
    go_upto_region 9 with fail
    go_cut [75] from 68 (fun s1 wx => s1 = .bool (decide (0 ≤ k ∧ k ≤ (r : Int))) ∧ wx = w6)
    case first =>
      have cA0 := PA.out.at (i := 0) rfl
      have cA1 := PA.out.at (i := 1) rfl
      by_cases hk0 : 0 ≤ k
      · by_cases hk1 : k ≤ (r : Int)
        · go_wp2_with fail
          go_meet
          exact ⟨congrArg Value.bool (decide_eq_true (p := 0 ≤ k ∧ k ≤ (r : Int)) ⟨hk0, hk1⟩).symm, rfl⟩
        · go_wp2_with fail
          go_meet
          exact ⟨congrArg Value.bool (decide_eq_false (p := 0 ≤ k ∧ k ≤ (r : Int)) (by omega)).symm, rfl⟩
      · go_wp2_with fail
        go_meet
        exact ⟨congrArg Value.bool (decide_eq_false (p := 0 ≤ k ∧ k ≤ (r : Int)) (by omega)).symm, rfl⟩
    case rest =>
    obtain ⟨rfl, hwc⟩ := hcut
    rw [hwc]
    clear hwc wc
    go_upto_if 75 with fail
    go_cut [9, 10, 11, 12] from 68 (fun _ _ _ _ wx => Below w6.heap.size w6 wx)
    case first =>
      by_cases hbad : 0 ≤ k ∧ k ≤ (r : Int)
      · have hd : decide (0 ≤ k ∧ k ≤ (r : Int)) = true := decide_eq_true hbad
        rw [hd]
        obtain ⟨kk, rfl⟩ : ∃ kk : Nat, k = (kk : Int) := ⟨k.toNat, by omega⟩
        have hkb : kk ≤ r := by omega
        have HKB := hid hkb
        have hk64 : kk ≤ 64 := by omega
        clear hbad hd hkb
        go_upto_region 10 with fail
        go_cut [9, 10] from 76 (fun s1 s2 wx => PkR w6 wx s1 s2 kk c (pickL r c xs (List.range kk) (List.range c)))
        case first =>
          have cA0 := PA.out.at (i := 0) rfl
          have cA1 := PA.out.at (i := 1) rfl
          have cA2 := PA.out.at (i := 2) rfl
          have HB1 : Hid (∀ i ∈ List.range kk, i < r) := fun i hi => by
            have h1 := List.mem_range.1 hi
            have h2 := HKB.out
            omega
          have HB2 : Hid (∀ i ∈ List.range c, i < c) := fun i hi => by
            have h1 := List.mem_range.1 hi
            have h2 := HKB.out
            omega
          have HW1 : Hid ((List.range kk).length = kk) := List.length_range
          have HW2 : Hid ((List.range c).length = c) := List.length_range
          have HWA : Hid (∀ w', Calls Tryz.prog 28 #[.int .i64 (kk : Int)] w' (GivesI w' (List.range kk))) := fun w' => upto13 (by omega)
          have HWB : Hid (∀ w', Calls Tryz.prog 28 #[.int .i64 (c : Int)] w' (GivesI w' (List.range c))) := fun w' => upto13 (by omega)
          generalize List.range kk = L1 at *
          generalize List.range c = L2 at *
          have KB : Hid (∀ w', Below w6.heap.size w6 w' → w'.cell? ⟨w.heap.size, 0, none⟩ = some (.int .i64 (r : Int)) ∧ w'.cell? ⟨w.heap.size, 1, none⟩ = some (.int .i64 (c : Int)) ∧ w'.cell? ⟨w.heap.size, 2, none⟩ = some (.slice aa la qa)) := fun w' h => ⟨cnow h cA0, cnow h cA1, cnow h cA2⟩
          refine wp_region_tail (fun w' => w'.cell? ⟨w.heap.size, 0, none⟩ = some (.int .i64 (r : Int)) ∧ w'.cell? ⟨w.heap.size, 1, none⟩ = some (.int .i64 (c : Int)) ∧ w'.cell? ⟨w.heap.size, 2, none⟩ = some (.slice aa la qa)) 12 (by kernel_rfl) ?_
          obtain ⟨D81, hD⟩ : ∃ D81, w6.drew = D81 := ⟨_, rfl⟩
          have GB : Hid (Below w6.heap.size w6 D81) := by unfold Hid; rw [← hD]; exact (Below.refl _ _).drew
          rw [hD]
          clear hD
          have GZ : Hid (w6.heap.size ≤ D81.heap.size) := GB.out.size
          refine wpAnyT_take (i := 0) (oi := { dst := some 77, op := Op.load 24 (Operand.tmp 2), type := 24, pos := "outright.go:166", after := #[], guard := none }) (v := (.agg #[.int .i64 (r : Int), .int .i64 (c : Int), .slice aa la qa])) rfl (by kernel_rfl) (fun _ _ _ h => h) (Or.inl ⟨by rfl, ?_⟩) (KB.out _ GB.out) ?_
          · intro w hSw
            (try dsimp only at hSw)
            go_simp
          simp only [Act.put, List.setIfInBounds_toArray, List.set_cons_zero, List.set_cons_succ]
          refine wpAnyT_take (i := 1) (oi := { dst := some 78, op := Op.move (Operand.tmp 1), type := 3, pos := "outright.go:166", after := #[], guard := none }) (v := (.int .i64 (kk : Int))) rfl (by kernel_rfl) (fun _ _ _ h => h) (Or.inl ⟨by rfl, ?_⟩) (KB.out _ GB.out) ?_
          · intro w hSw
            (try dsimp only at hSw)
            go_simp
          simp only [Act.put, List.setIfInBounds_toArray, List.set_cons_zero, List.set_cons_succ]
          refine wpAnyT_take (i := 3) (oi := { dst := some 80, op := Op.fieldAddr 24 (Operand.tmp 2) 1, type := 0, pos := "outright.go:166", after := #[], guard := none }) (v := (.pointer (some ⟨w.heap.size, 1, none⟩))) rfl (by kernel_rfl) (fun _ _ _ h => h) (Or.inl ⟨by rfl, ?_⟩) (KB.out _ GB.out) ?_
          · intro w hSw
            (try dsimp only at hSw)
            go_simp
          simp only [Act.put, List.setIfInBounds_toArray, List.set_cons_zero, List.set_cons_succ]
          refine wpAnyT_take (i := 4) (oi := { dst := some 81, op := Op.load 3 (Operand.tmp 80), type := 3, pos := "outright.go:166", after := #[{ on := 3, ground := Ground.data }], guard := none }) (v := (.int .i64 (c : Int))) rfl (by kernel_rfl) (fun _ _ _ h => h) (Or.inl ⟨by rfl, ?_⟩) (KB.out _ GB.out) ?_
          · intro w hSw
            (try dsimp only at hSw)
            go_simp
          simp only [Act.put, List.setIfInBounds_toArray, List.set_cons_zero, List.set_cons_succ]
          refine wpAnyT_two (i := 2) (j := 10) (oi := { dst := some 79, op := Op.call { callee := Callee.value (Operand.func 28), args := #[Operand.tmp 78], argTypes := #[3] }, type := 38, pos := "outright.go:166", after := #[{ on := 1, ground := Ground.data }], guard := none }) (oj := { dst := some 9, op := Op.alloc 24, type := 0, pos := "outright.go:166", after := #[], guard := none }) (by kernel_rfl) rfl rfl (fun K hK => ?_) (fun K hK => ?_)
          · skip
            replace GZ : Hid (w6.heap.size ≤ D81.heap.size) := GB.out.size
            go_simp
            go_at_call 28
            refine (HWA.out _).mono ?_
            rintro e w82 ⟨v1, rfl, u1, b⟩
            have lz82 := (show Below _ _ _ from b).size
            replace GB := hid (below_step GB.out b)
            obtain ⟨au1, cu1, hv, -, -⟩ := u1.form
            rw [HW1.out] at hv
            subst hv
            have U1 := hid u1
            clear u1
            clear b
            refine hK.out _ _ (fun _ => KB.out _ GB.out) ?_
            clear hK
            refine wpAnyT_two (i := 5) (j := 10) (oi := { dst := some 82, op := Op.call { callee := Callee.value (Operand.func 28), args := #[Operand.tmp 81], argTypes := #[3] }, type := 38, pos := "outright.go:166", after := #[{ on := 4, ground := Ground.data }, { on := 2, ground := Ground.chain }], guard := none }) (oj := { dst := some 9, op := Op.alloc 24, type := 0, pos := "outright.go:166", after := #[], guard := none }) (by kernel_rfl) rfl rfl (fun K hK => ?_) (fun K hK => ?_)
            · skip
              replace GZ : Hid (w6.heap.size ≤ w82.heap.size) := GB.out.size
              go_simp
              go_at_call 28
              refine (HWB.out _).mono ?_
              rintro e w83 ⟨v1, rfl, u1, b⟩
              have lz83 := (show Below _ _ _ from b).size
              replace GB := hid (below_step GB.out b)
              obtain ⟨au2, cu2, hv, -, -⟩ := u1.form
              rw [HW2.out] at hv
              subst hv
              have U2 := hid u1
              clear u1
              replace U1 := hid (U1.out.now b)
              clear b
              refine hK.out _ _ (fun _ => KB.out _ GB.out) ?_
              clear hK
              refine wpAnyT_two (i := 6) (j := 10) (oi := { dst := some 83, op := Op.call { callee := Callee.value (Operand.func 14), args := #[Operand.tmp 77, Operand.tmp 79, Operand.tmp 82], argTypes := #[24, 38, 38] }, type := 36, pos := "outright.go:166", after := #[{ on := 0, ground := Ground.data }, { on := 2, ground := Ground.data }, { on := 5, ground := Ground.data }, { on := 5, ground := Ground.chain }], guard := none }) (oj := { dst := some 9, op := Op.alloc 24, type := 0, pos := "outright.go:166", after := #[], guard := none }) (by kernel_rfl) rfl rfl (fun K hK => ?_) (fun K hK => ?_)
              · skip
                replace GZ : Hid (w6.heap.size ≤ w83.heap.size) := GB.out.size
                go_simp
                go_at_call 14
                refine (pick_yes (MA.out.now GB.out) (U1.out.in9 (by rw [HW1.out]; omega)) (U2.out.in9 (by rw [HW2.out]; omega)) HB1.out HB2.out (by rw [HW1.out]; omega) (by rw [HW2.out]; omega)).mono ?_
                rintro e w84 ⟨vp, rfl, mp, b⟩
                have lz84 := (show Below _ _ _ from b).size
                replace GB := hid (below_step GB.out b)
                rw [HW1.out, HW2.out] at mp
                obtain ⟨ap, qp, hvp, -, -⟩ := mp.mx.form
                obtain ⟨lp, hlp⟩ : ∃ lp, kk * c = lp := ⟨_, rfl⟩
                rw [hlp] at hvp
                subst hvp
                have MP := hid mp.mx
                clear mp U1 U2 hlp
                clear b
                refine hK.out _ _ (fun _ => KB.out _ GB.out) ?_
                clear hK
                refine wpAnyT_take (i := 7) (oi := { dst := some 76, op := Op.move (Operand.tmp 83), type := 36, pos := "outright.go:166", after := #[{ on := 6, ground := Ground.data }], guard := none }) (v := (.tuple #[(.agg #[.int .i64 (kk : Int), .int .i64 (c : Int), .slice ap lp qp]), (.int .i64 0)])) rfl (by kernel_rfl) (fun _ _ _ h => h) (Or.inl ⟨by rfl, ?_⟩) (KB.out _ GB.out) ?_
                · intro w hSw
                  (try dsimp only at hSw)
                  go_simp
                simp only [Act.put, List.setIfInBounds_toArray, List.set_cons_zero, List.set_cons_succ]
                refine wpAnyT_take (i := 8) (oi := { dst := some 84, op := Op.extract (Operand.tmp 76) 0, type := 24, pos := "outright.go:166", after := #[{ on := 7, ground := Ground.data }], guard := none }) (v := (.agg #[.int .i64 (kk : Int), .int .i64 (c : Int), .slice ap lp qp])) rfl (by kernel_rfl) (fun _ _ _ h => h) (Or.inl ⟨by rfl, ?_⟩) (KB.out _ GB.out) ?_
                · intro w hSw
                  (try dsimp only at hSw)
                  go_simp
                simp only [Act.put, List.setIfInBounds_toArray, List.set_cons_zero, List.set_cons_succ]
                refine wpAnyT_take (i := 9) (oi := { dst := some 85, op := Op.extract (Operand.tmp 76) 1, type := 35, pos := "outright.go:166", after := #[{ on := 7, ground := Ground.data }, { on := 11, ground := Ground.gcOnly Departure.lateStores }], guard := none }) (v := (.int .i64 0)) rfl (by kernel_rfl) (fun _ _ _ h => h) (Or.inl ⟨by rfl, ?_⟩) (KB.out _ GB.out) ?_
                · intro w hSw
                  (try dsimp only at hSw)
                  go_simp
                simp only [Act.put, List.setIfInBounds_toArray, List.set_cons_zero, List.set_cons_succ]
                refine wpAnyT_one (i := 10) (o := { dst := some 9, op := Op.alloc 24, type := 0, pos := "outright.go:166", after := #[], guard := none }) (by kernel_rfl) rfl (fun K hK => ?_)
                replace GZ : Hid (w6.heap.size ≤ w84.heap.size) := GB.out.size
                go_simp
                obtain ⟨V85, hW⟩ : ∃ V85, w84.alloc mbox = V85 := ⟨_, rfl⟩
                obtain ⟨b, sz85⟩ := alo1 w84 mbox
                rw [hW] at b sz85
                replace GB := hid (below_step GB.out b)
                have DB : Hid (Cel V85 w84.heap.size 24 [.int .i64 0, .int .i64 0, .slice none 0 0]) := by unfold Hid; rw [← hW]; exact Cel.new w84 _ _
                clear sz85
                have SB := hid (show w6.heap.size ≤ w84.heap.size from GZ.out)
                replace MP := hid (MP.out.now b)
                rw [hW]
                clear hW b
                refine hK.out _ _ (fun _ => KB.out _ GB.out) ?_
                clear hK
                try simp only [Act.put]
                refine wpAnyT_one (i := 11) (o := { dst := none, op := Op.store 24 (Operand.tmp 9) (Operand.tmp 84), type := 0, pos := "outright.go:166", after := #[{ on := 10, ground := Ground.data }, { on := 8, ground := Ground.data }, { on := 6, ground := Ground.chain }, { on := 0, ground := Ground.phase }, { on := 1, ground := Ground.phase }, { on := 2, ground := Ground.phase }, { on := 3, ground := Ground.phase }, { on := 4, ground := Ground.phase }, { on := 5, ground := Ground.phase }, { on := 6, ground := Ground.phase }, { on := 7, ground := Ground.phase }, { on := 8, ground := Ground.phase }, { on := 9, ground := Ground.textOnly Departure.lateStores }, { on := 10, ground := Ground.phase }], guard := none }) (by kernel_rfl) rfl (fun K hK => ?_)
                have e0 := DB.out.at (i := 0) rfl
                have e1 := DB.out.at (i := 1) rfl
                have e2 := DB.out.at (i := 2) rfl
                have e3 := DB.out.fz 0
                have e4 := DB.out.fz 1
                have e5 := DB.out.fz 2
                go_simp
                clear e0 e1 e2 e3 e4 e5
                obtain ⟨V86, hW⟩ : ∃ V86, (((V85.setCell ⟨w84.heap.size, 0, none⟩ (.int .i64 (kk : Int))).setCell ⟨w84.heap.size, 1, none⟩ (.int .i64 (c : Int))).setCell ⟨w84.heap.size, 2, none⟩ (.slice ap lp qp)) = V86 := ⟨_, rfl⟩
                have FP : Hid (PkR w6 V86 (.pointer (some ⟨w84.heap.size, 0, none⟩)) (.int .i64 0) kk c (pickL r c xs L1 L2)) := by
                  unfold Hid; rw [← hW]
                  exact pkr_put DB.out MP.out GB.out SB.out
                replace GB : Hid (Below w6.heap.size w6 V86) := by unfold Hid; rw [← hW]; exact bset (bset (bset GB.out SB.out) SB.out) SB.out
                rw [hW]
                clear hW
                refine hK.out _ _ (fun _ => KB.out _ GB.out) ?_
                clear hK
                try simp only [Act.put]
                refine wpAnyT_one (i := 12) (o := { dst := some 10, op := Op.assign (Operand.tmp 85), type := 35, pos := "outright.go:166", after := #[{ on := 9, ground := Ground.data }, { on := 11, ground := Ground.chain }, { on := 0, ground := Ground.phase }, { on := 1, ground := Ground.phase }, { on := 2, ground := Ground.phase }, { on := 3, ground := Ground.phase }, { on := 4, ground := Ground.phase }, { on := 5, ground := Ground.phase }, { on := 6, ground := Ground.phase }, { on := 7, ground := Ground.phase }, { on := 8, ground := Ground.phase }, { on := 9, ground := Ground.phase }, { on := 10, ground := Ground.phase }, { on := 11, ground := Ground.phase }], guard := none }) (by kernel_rfl) rfl (fun K hK => ?_)
                go_simp
                refine hK.out _ _ (fun h => absurd h (by decide)) ?_
                clear hK
                try simp only [Act.put]
                refine wpAnyT_done (by kernel_rfl) ?_ _
                clear DB SB MP GB GZ
                go_wp2_with fail
                go_meet
                exact FP.out
              · skip
                replace GZ : Hid (w6.heap.size ≤ w83.heap.size) := GB.out.size
                go_simp
                obtain ⟨V87, hW⟩ : ∃ V87, w83.alloc mbox = V87 := ⟨_, rfl⟩
                obtain ⟨b, sz87⟩ := alo1 w83 mbox
                rw [hW] at b sz87
                replace GB := hid (below_step GB.out b)
                have DB : Hid (Cel V87 w83.heap.size 24 [.int .i64 0, .int .i64 0, .slice none 0 0]) := by unfold Hid; rw [← hW]; exact Cel.new w83 _ _
                clear sz87
                have SB := hid (show w6.heap.size ≤ w83.heap.size from GZ.out)
                replace U1 := hid (U1.out.now b)
                replace U2 := hid (U2.out.now b)
                rw [hW]
                clear hW b
                refine hK.out _ _ (fun _ => KB.out _ GB.out) ?_
                clear hK
                try simp only [Act.put]
                refine wpAnyT_one (i := 6) (o := { dst := some 83, op := Op.call { callee := Callee.value (Operand.func 14), args := #[Operand.tmp 77, Operand.tmp 79, Operand.tmp 82], argTypes := #[24, 38, 38] }, type := 36, pos := "outright.go:166", after := #[{ on := 0, ground := Ground.data }, { on := 2, ground := Ground.data }, { on := 5, ground := Ground.data }, { on := 5, ground := Ground.chain }], guard := none }) (by kernel_rfl) rfl (fun K hK => ?_)
                replace GZ : Hid (w6.heap.size ≤ V87.heap.size) := GB.out.size
                go_simp
                go_at_call 14
                refine (pick_yes (MA.out.now GB.out) (U1.out.in9 (by rw [HW1.out]; omega)) (U2.out.in9 (by rw [HW2.out]; omega)) HB1.out HB2.out (by rw [HW1.out]; omega) (by rw [HW2.out]; omega)).mono ?_
                rintro e w88 ⟨vp, rfl, mp, b⟩
                have lz88 := (show Below _ _ _ from b).size
                replace GB := hid (below_step GB.out b)
                rw [HW1.out, HW2.out] at mp
                obtain ⟨ap, qp, hvp, -, -⟩ := mp.mx.form
                obtain ⟨lp, hlp⟩ : ∃ lp, kk * c = lp := ⟨_, rfl⟩
                rw [hlp] at hvp
                subst hvp
                have MP := hid mp.mx
                clear mp U1 U2 hlp
                replace DB := hid (DB.out.step b)
                clear b
                refine hK.out _ _ (fun _ => KB.out _ GB.out) ?_
                clear hK
                refine wpAnyT_take (i := 7) (oi := { dst := some 76, op := Op.move (Operand.tmp 83), type := 36, pos := "outright.go:166", after := #[{ on := 6, ground := Ground.data }], guard := none }) (v := (.tuple #[(.agg #[.int .i64 (kk : Int), .int .i64 (c : Int), .slice ap lp qp]), (.int .i64 0)])) rfl (by kernel_rfl) (fun _ _ _ h => h) (Or.inl ⟨by rfl, ?_⟩) (KB.out _ GB.out) ?_
                · intro w hSw
                  (try dsimp only at hSw)
                  go_simp
                simp only [Act.put, List.setIfInBounds_toArray, List.set_cons_zero, List.set_cons_succ]
                refine wpAnyT_take (i := 8) (oi := { dst := some 84, op := Op.extract (Operand.tmp 76) 0, type := 24, pos := "outright.go:166", after := #[{ on := 7, ground := Ground.data }], guard := none }) (v := (.agg #[.int .i64 (kk : Int), .int .i64 (c : Int), .slice ap lp qp])) rfl (by kernel_rfl) (fun _ _ _ h => h) (Or.inl ⟨by rfl, ?_⟩) (KB.out _ GB.out) ?_
                · intro w hSw
                  (try dsimp only at hSw)
                  go_simp
                simp only [Act.put, List.setIfInBounds_toArray, List.set_cons_zero, List.set_cons_succ]
                refine wpAnyT_take (i := 9) (oi := { dst := some 85, op := Op.extract (Operand.tmp 76) 1, type := 35, pos := "outright.go:166", after := #[{ on := 7, ground := Ground.data }, { on := 11, ground := Ground.gcOnly Departure.lateStores }], guard := none }) (v := (.int .i64 0)) rfl (by kernel_rfl) (fun _ _ _ h => h) (Or.inl ⟨by rfl, ?_⟩) (KB.out _ GB.out) ?_
                · intro w hSw
                  (try dsimp only at hSw)
                  go_simp
                simp only [Act.put, List.setIfInBounds_toArray, List.set_cons_zero, List.set_cons_succ]
                refine wpAnyT_one (i := 11) (o := { dst := none, op := Op.store 24 (Operand.tmp 9) (Operand.tmp 84), type := 0, pos := "outright.go:166", after := #[{ on := 10, ground := Ground.data }, { on := 8, ground := Ground.data }, { on := 6, ground := Ground.chain }, { on := 0, ground := Ground.phase }, { on := 1, ground := Ground.phase }, { on := 2, ground := Ground.phase }, { on := 3, ground := Ground.phase }, { on := 4, ground := Ground.phase }, { on := 5, ground := Ground.phase }, { on := 6, ground := Ground.phase }, { on := 7, ground := Ground.phase }, { on := 8, ground := Ground.phase }, { on := 9, ground := Ground.textOnly Departure.lateStores }, { on := 10, ground := Ground.phase }], guard := none }) (by kernel_rfl) rfl (fun K hK => ?_)
                have e0 := DB.out.at (i := 0) rfl
                have e1 := DB.out.at (i := 1) rfl
                have e2 := DB.out.at (i := 2) rfl
                have e3 := DB.out.fz 0
                have e4 := DB.out.fz 1
                have e5 := DB.out.fz 2
                go_simp
                clear e0 e1 e2 e3 e4 e5
                obtain ⟨V89, hW⟩ : ∃ V89, (((w88.setCell ⟨w83.heap.size, 0, none⟩ (.int .i64 (kk : Int))).setCell ⟨w83.heap.size, 1, none⟩ (.int .i64 (c : Int))).setCell ⟨w83.heap.size, 2, none⟩ (.slice ap lp qp)) = V89 := ⟨_, rfl⟩
                have FP : Hid (PkR w6 V89 (.pointer (some ⟨w83.heap.size, 0, none⟩)) (.int .i64 0) kk c (pickL r c xs L1 L2)) := by
                  unfold Hid; rw [← hW]
                  exact pkr_put DB.out MP.out GB.out SB.out
                replace GB : Hid (Below w6.heap.size w6 V89) := by unfold Hid; rw [← hW]; exact bset (bset (bset GB.out SB.out) SB.out) SB.out
                rw [hW]
                clear hW
                refine hK.out _ _ (fun _ => KB.out _ GB.out) ?_
                clear hK
                try simp only [Act.put]
                refine wpAnyT_one (i := 12) (o := { dst := some 10, op := Op.assign (Operand.tmp 85), type := 35, pos := "outright.go:166", after := #[{ on := 9, ground := Ground.data }, { on := 11, ground := Ground.chain }, { on := 0, ground := Ground.phase }, { on := 1, ground := Ground.phase }, { on := 2, ground := Ground.phase }, { on := 3, ground := Ground.phase }, { on := 4, ground := Ground.phase }, { on := 5, ground := Ground.phase }, { on := 6, ground := Ground.phase }, { on := 7, ground := Ground.phase }, { on := 8, ground := Ground.phase }, { on := 9, ground := Ground.phase }, { on := 10, ground := Ground.phase }, { on := 11, ground := Ground.phase }], guard := none }) (by kernel_rfl) rfl (fun K hK => ?_)
                go_simp
                refine hK.out _ _ (fun h => absurd h (by decide)) ?_
                clear hK
                try simp only [Act.put]
                refine wpAnyT_done (by kernel_rfl) ?_ _
                clear DB SB MP GB GZ
                go_wp2_with fail
                go_meet
                exact FP.out
            · skip
              replace GZ : Hid (w6.heap.size ≤ w82.heap.size) := GB.out.size
              go_simp
              obtain ⟨V90, hW⟩ : ∃ V90, w82.alloc mbox = V90 := ⟨_, rfl⟩
              obtain ⟨b, sz90⟩ := alo1 w82 mbox
              rw [hW] at b sz90
              replace GB := hid (below_step GB.out b)
              have DB : Hid (Cel V90 w82.heap.size 24 [.int .i64 0, .int .i64 0, .slice none 0 0]) := by unfold Hid; rw [← hW]; exact Cel.new w82 _ _
              clear sz90
              have SB := hid (show w6.heap.size ≤ w82.heap.size from GZ.out)
              replace U1 := hid (U1.out.now b)
              rw [hW]
              clear hW b
              refine hK.out _ _ (fun _ => KB.out _ GB.out) ?_
              clear hK
              try simp only [Act.put]
              refine wpAnyT_one (i := 5) (o := { dst := some 82, op := Op.call { callee := Callee.value (Operand.func 28), args := #[Operand.tmp 81], argTypes := #[3] }, type := 38, pos := "outright.go:166", after := #[{ on := 4, ground := Ground.data }, { on := 2, ground := Ground.chain }], guard := none }) (by kernel_rfl) rfl (fun K hK => ?_)
              replace GZ : Hid (w6.heap.size ≤ V90.heap.size) := GB.out.size
              go_simp
              go_at_call 28
              refine (HWB.out _).mono ?_
              rintro e w91 ⟨v1, rfl, u1, b⟩
              have lz91 := (show Below _ _ _ from b).size
              replace GB := hid (below_step GB.out b)
              obtain ⟨au2, cu2, hv, -, -⟩ := u1.form
              rw [HW2.out] at hv
              subst hv
              have U2 := hid u1
              clear u1
              replace U1 := hid (U1.out.now b)
              replace DB := hid (DB.out.step b)
              clear b
              refine hK.out _ _ (fun _ => KB.out _ GB.out) ?_
              clear hK
              refine wpAnyT_one (i := 6) (o := { dst := some 83, op := Op.call { callee := Callee.value (Operand.func 14), args := #[Operand.tmp 77, Operand.tmp 79, Operand.tmp 82], argTypes := #[24, 38, 38] }, type := 36, pos := "outright.go:166", after := #[{ on := 0, ground := Ground.data }, { on := 2, ground := Ground.data }, { on := 5, ground := Ground.data }, { on := 5, ground := Ground.chain }], guard := none }) (by kernel_rfl) rfl (fun K hK => ?_)
              replace GZ : Hid (w6.heap.size ≤ w91.heap.size) := GB.out.size
              go_simp
              go_at_call 14
              refine (pick_yes (MA.out.now GB.out) (U1.out.in9 (by rw [HW1.out]; omega)) (U2.out.in9 (by rw [HW2.out]; omega)) HB1.out HB2.out (by rw [HW1.out]; omega) (by rw [HW2.out]; omega)).mono ?_
              rintro e w92 ⟨vp, rfl, mp, b⟩
              have lz92 := (show Below _ _ _ from b).size
              replace GB := hid (below_step GB.out b)
              rw [HW1.out, HW2.out] at mp
              obtain ⟨ap, qp, hvp, -, -⟩ := mp.mx.form
              obtain ⟨lp, hlp⟩ : ∃ lp, kk * c = lp := ⟨_, rfl⟩
              rw [hlp] at hvp
              subst hvp
              have MP := hid mp.mx
              clear mp U1 U2 hlp
              replace DB := hid (DB.out.step b)
              clear b
              refine hK.out _ _ (fun _ => KB.out _ GB.out) ?_
              clear hK
              refine wpAnyT_take (i := 7) (oi := { dst := some 76, op := Op.move (Operand.tmp 83), type := 36, pos := "outright.go:166", after := #[{ on := 6, ground := Ground.data }], guard := none }) (v := (.tuple #[(.agg #[.int .i64 (kk : Int), .int .i64 (c : Int), .slice ap lp qp]), (.int .i64 0)])) rfl (by kernel_rfl) (fun _ _ _ h => h) (Or.inl ⟨by rfl, ?_⟩) (KB.out _ GB.out) ?_
              · intro w hSw
                (try dsimp only at hSw)
                go_simp
              simp only [Act.put, List.setIfInBounds_toArray, List.set_cons_zero, List.set_cons_succ]
              refine wpAnyT_take (i := 8) (oi := { dst := some 84, op := Op.extract (Operand.tmp 76) 0, type := 24, pos := "outright.go:166", after := #[{ on := 7, ground := Ground.data }], guard := none }) (v := (.agg #[.int .i64 (kk : Int), .int .i64 (c : Int), .slice ap lp qp])) rfl (by kernel_rfl) (fun _ _ _ h => h) (Or.inl ⟨by rfl, ?_⟩) (KB.out _ GB.out) ?_
              · intro w hSw
                (try dsimp only at hSw)
                go_simp
              simp only [Act.put, List.setIfInBounds_toArray, List.set_cons_zero, List.set_cons_succ]
              refine wpAnyT_take (i := 9) (oi := { dst := some 85, op := Op.extract (Operand.tmp 76) 1, type := 35, pos := "outright.go:166", after := #[{ on := 7, ground := Ground.data }, { on := 11, ground := Ground.gcOnly Departure.lateStores }], guard := none }) (v := (.int .i64 0)) rfl (by kernel_rfl) (fun _ _ _ h => h) (Or.inl ⟨by rfl, ?_⟩) (KB.out _ GB.out) ?_
              · intro w hSw
                (try dsimp only at hSw)
                go_simp
              simp only [Act.put, List.setIfInBounds_toArray, List.set_cons_zero, List.set_cons_succ]
              refine wpAnyT_one (i := 11) (o := { dst := none, op := Op.store 24 (Operand.tmp 9) (Operand.tmp 84), type := 0, pos := "outright.go:166", after := #[{ on := 10, ground := Ground.data }, { on := 8, ground := Ground.data }, { on := 6, ground := Ground.chain }, { on := 0, ground := Ground.phase }, { on := 1, ground := Ground.phase }, { on := 2, ground := Ground.phase }, { on := 3, ground := Ground.phase }, { on := 4, ground := Ground.phase }, { on := 5, ground := Ground.phase }, { on := 6, ground := Ground.phase }, { on := 7, ground := Ground.phase }, { on := 8, ground := Ground.phase }, { on := 9, ground := Ground.textOnly Departure.lateStores }, { on := 10, ground := Ground.phase }], guard := none }) (by kernel_rfl) rfl (fun K hK => ?_)
              have e0 := DB.out.at (i := 0) rfl
              have e1 := DB.out.at (i := 1) rfl
              have e2 := DB.out.at (i := 2) rfl
              have e3 := DB.out.fz 0
              have e4 := DB.out.fz 1
              have e5 := DB.out.fz 2
              go_simp
              clear e0 e1 e2 e3 e4 e5
              obtain ⟨V93, hW⟩ : ∃ V93, (((w92.setCell ⟨w82.heap.size, 0, none⟩ (.int .i64 (kk : Int))).setCell ⟨w82.heap.size, 1, none⟩ (.int .i64 (c : Int))).setCell ⟨w82.heap.size, 2, none⟩ (.slice ap lp qp)) = V93 := ⟨_, rfl⟩
              have FP : Hid (PkR w6 V93 (.pointer (some ⟨w82.heap.size, 0, none⟩)) (.int .i64 0) kk c (pickL r c xs L1 L2)) := by
                unfold Hid; rw [← hW]
                exact pkr_put DB.out MP.out GB.out SB.out
              replace GB : Hid (Below w6.heap.size w6 V93) := by unfold Hid; rw [← hW]; exact bset (bset (bset GB.out SB.out) SB.out) SB.out
              rw [hW]
              clear hW
              refine hK.out _ _ (fun _ => KB.out _ GB.out) ?_
              clear hK
              try simp only [Act.put]
              refine wpAnyT_one (i := 12) (o := { dst := some 10, op := Op.assign (Operand.tmp 85), type := 35, pos := "outright.go:166", after := #[{ on := 9, ground := Ground.data }, { on := 11, ground := Ground.chain }, { on := 0, ground := Ground.phase }, { on := 1, ground := Ground.phase }, { on := 2, ground := Ground.phase }, { on := 3, ground := Ground.phase }, { on := 4, ground := Ground.phase }, { on := 5, ground := Ground.phase }, { on := 6, ground := Ground.phase }, { on := 7, ground := Ground.phase }, { on := 8, ground := Ground.phase }, { on := 9, ground := Ground.phase }, { on := 10, ground := Ground.phase }, { on := 11, ground := Ground.phase }], guard := none }) (by kernel_rfl) rfl (fun K hK => ?_)
              go_simp
              refine hK.out _ _ (fun h => absurd h (by decide)) ?_
              clear hK
              try simp only [Act.put]
              refine wpAnyT_done (by kernel_rfl) ?_ _
              clear DB SB MP GB GZ
              go_wp2_with fail
              go_meet
              exact FP.out
          · skip
            replace GZ : Hid (w6.heap.size ≤ D81.heap.size) := GB.out.size
            go_simp
            obtain ⟨V94, hW⟩ : ∃ V94, D81.alloc mbox = V94 := ⟨_, rfl⟩
            obtain ⟨b, sz94⟩ := alo1 D81 mbox
            rw [hW] at b sz94
            replace GB := hid (below_step GB.out b)
            have DB : Hid (Cel V94 D81.heap.size 24 [.int .i64 0, .int .i64 0, .slice none 0 0]) := by unfold Hid; rw [← hW]; exact Cel.new D81 _ _
            clear sz94
            have SB := hid (show w6.heap.size ≤ D81.heap.size from GZ.out)
            rw [hW]
            clear hW b
            refine hK.out _ _ (fun _ => KB.out _ GB.out) ?_
            clear hK
            try simp only [Act.put]
            refine wpAnyT_one (i := 2) (o := { dst := some 79, op := Op.call { callee := Callee.value (Operand.func 28), args := #[Operand.tmp 78], argTypes := #[3] }, type := 38, pos := "outright.go:166", after := #[{ on := 1, ground := Ground.data }], guard := none }) (by kernel_rfl) rfl (fun K hK => ?_)
            replace GZ : Hid (w6.heap.size ≤ V94.heap.size) := GB.out.size
            go_simp
            go_at_call 28
            refine (HWA.out _).mono ?_
            rintro e w95 ⟨v1, rfl, u1, b⟩
            have lz95 := (show Below _ _ _ from b).size
            replace GB := hid (below_step GB.out b)
            obtain ⟨au1, cu1, hv, -, -⟩ := u1.form
            rw [HW1.out] at hv
            subst hv
            have U1 := hid u1
            clear u1
            replace DB := hid (DB.out.step b)
            clear b
            refine hK.out _ _ (fun _ => KB.out _ GB.out) ?_
            clear hK
            refine wpAnyT_one (i := 5) (o := { dst := some 82, op := Op.call { callee := Callee.value (Operand.func 28), args := #[Operand.tmp 81], argTypes := #[3] }, type := 38, pos := "outright.go:166", after := #[{ on := 4, ground := Ground.data }, { on := 2, ground := Ground.chain }], guard := none }) (by kernel_rfl) rfl (fun K hK => ?_)
            replace GZ : Hid (w6.heap.size ≤ w95.heap.size) := GB.out.size
            go_simp
            go_at_call 28
            refine (HWB.out _).mono ?_
            rintro e w96 ⟨v1, rfl, u1, b⟩
            have lz96 := (show Below _ _ _ from b).size
            replace GB := hid (below_step GB.out b)
            obtain ⟨au2, cu2, hv, -, -⟩ := u1.form
            rw [HW2.out] at hv
            subst hv
            have U2 := hid u1
            clear u1
            replace U1 := hid (U1.out.now b)
            replace DB := hid (DB.out.step b)
            clear b
            refine hK.out _ _ (fun _ => KB.out _ GB.out) ?_
            clear hK
            refine wpAnyT_one (i := 6) (o := { dst := some 83, op := Op.call { callee := Callee.value (Operand.func 14), args := #[Operand.tmp 77, Operand.tmp 79, Operand.tmp 82], argTypes := #[24, 38, 38] }, type := 36, pos := "outright.go:166", after := #[{ on := 0, ground := Ground.data }, { on := 2, ground := Ground.data }, { on := 5, ground := Ground.data }, { on := 5, ground := Ground.chain }], guard := none }) (by kernel_rfl) rfl (fun K hK => ?_)
            replace GZ : Hid (w6.heap.size ≤ w96.heap.size) := GB.out.size
            go_simp
            go_at_call 14
            refine (pick_yes (MA.out.now GB.out) (U1.out.in9 (by rw [HW1.out]; omega)) (U2.out.in9 (by rw [HW2.out]; omega)) HB1.out HB2.out (by rw [HW1.out]; omega) (by rw [HW2.out]; omega)).mono ?_
            rintro e w97 ⟨vp, rfl, mp, b⟩
            have lz97 := (show Below _ _ _ from b).size
            replace GB := hid (below_step GB.out b)
            rw [HW1.out, HW2.out] at mp
            obtain ⟨ap, qp, hvp, -, -⟩ := mp.mx.form
            obtain ⟨lp, hlp⟩ : ∃ lp, kk * c = lp := ⟨_, rfl⟩
            rw [hlp] at hvp
            subst hvp
            have MP := hid mp.mx
            clear mp U1 U2 hlp
            replace DB := hid (DB.out.step b)
            clear b
            refine hK.out _ _ (fun _ => KB.out _ GB.out) ?_
            clear hK
            refine wpAnyT_take (i := 7) (oi := { dst := some 76, op := Op.move (Operand.tmp 83), type := 36, pos := "outright.go:166", after := #[{ on := 6, ground := Ground.data }], guard := none }) (v := (.tuple #[(.agg #[.int .i64 (kk : Int), .int .i64 (c : Int), .slice ap lp qp]), (.int .i64 0)])) rfl (by kernel_rfl) (fun _ _ _ h => h) (Or.inl ⟨by rfl, ?_⟩) (KB.out _ GB.out) ?_
            · intro w hSw
              (try dsimp only at hSw)
              go_simp
            simp only [Act.put, List.setIfInBounds_toArray, List.set_cons_zero, List.set_cons_succ]
            refine wpAnyT_take (i := 8) (oi := { dst := some 84, op := Op.extract (Operand.tmp 76) 0, type := 24, pos := "outright.go:166", after := #[{ on := 7, ground := Ground.data }], guard := none }) (v := (.agg #[.int .i64 (kk : Int), .int .i64 (c : Int), .slice ap lp qp])) rfl (by kernel_rfl) (fun _ _ _ h => h) (Or.inl ⟨by rfl, ?_⟩) (KB.out _ GB.out) ?_
            · intro w hSw
              (try dsimp only at hSw)
              go_simp
            simp only [Act.put, List.setIfInBounds_toArray, List.set_cons_zero, List.set_cons_succ]
            refine wpAnyT_take (i := 9) (oi := { dst := some 85, op := Op.extract (Operand.tmp 76) 1, type := 35, pos := "outright.go:166", after := #[{ on := 7, ground := Ground.data }, { on := 11, ground := Ground.gcOnly Departure.lateStores }], guard := none }) (v := (.int .i64 0)) rfl (by kernel_rfl) (fun _ _ _ h => h) (Or.inl ⟨by rfl, ?_⟩) (KB.out _ GB.out) ?_
            · intro w hSw
              (try dsimp only at hSw)
              go_simp
            simp only [Act.put, List.setIfInBounds_toArray, List.set_cons_zero, List.set_cons_succ]
            refine wpAnyT_one (i := 11) (o := { dst := none, op := Op.store 24 (Operand.tmp 9) (Operand.tmp 84), type := 0, pos := "outright.go:166", after := #[{ on := 10, ground := Ground.data }, { on := 8, ground := Ground.data }, { on := 6, ground := Ground.chain }, { on := 0, ground := Ground.phase }, { on := 1, ground := Ground.phase }, { on := 2, ground := Ground.phase }, { on := 3, ground := Ground.phase }, { on := 4, ground := Ground.phase }, { on := 5, ground := Ground.phase }, { on := 6, ground := Ground.phase }, { on := 7, ground := Ground.phase }, { on := 8, ground := Ground.phase }, { on := 9, ground := Ground.textOnly Departure.lateStores }, { on := 10, ground := Ground.phase }], guard := none }) (by kernel_rfl) rfl (fun K hK => ?_)
            have e0 := DB.out.at (i := 0) rfl
            have e1 := DB.out.at (i := 1) rfl
            have e2 := DB.out.at (i := 2) rfl
            have e3 := DB.out.fz 0
            have e4 := DB.out.fz 1
            have e5 := DB.out.fz 2
            go_simp
            clear e0 e1 e2 e3 e4 e5
            obtain ⟨V98, hW⟩ : ∃ V98, (((w97.setCell ⟨D81.heap.size, 0, none⟩ (.int .i64 (kk : Int))).setCell ⟨D81.heap.size, 1, none⟩ (.int .i64 (c : Int))).setCell ⟨D81.heap.size, 2, none⟩ (.slice ap lp qp)) = V98 := ⟨_, rfl⟩
            have FP : Hid (PkR w6 V98 (.pointer (some ⟨D81.heap.size, 0, none⟩)) (.int .i64 0) kk c (pickL r c xs L1 L2)) := by
              unfold Hid; rw [← hW]
              exact pkr_put DB.out MP.out GB.out SB.out
            replace GB : Hid (Below w6.heap.size w6 V98) := by unfold Hid; rw [← hW]; exact bset (bset (bset GB.out SB.out) SB.out) SB.out
            rw [hW]
            clear hW
            refine hK.out _ _ (fun _ => KB.out _ GB.out) ?_
            clear hK
            try simp only [Act.put]
            refine wpAnyT_one (i := 12) (o := { dst := some 10, op := Op.assign (Operand.tmp 85), type := 35, pos := "outright.go:166", after := #[{ on := 9, ground := Ground.data }, { on := 11, ground := Ground.chain }, { on := 0, ground := Ground.phase }, { on := 1, ground := Ground.phase }, { on := 2, ground := Ground.phase }, { on := 3, ground := Ground.phase }, { on := 4, ground := Ground.phase }, { on := 5, ground := Ground.phase }, { on := 6, ground := Ground.phase }, { on := 7, ground := Ground.phase }, { on := 8, ground := Ground.phase }, { on := 9, ground := Ground.phase }, { on := 10, ground := Ground.phase }, { on := 11, ground := Ground.phase }], guard := none }) (by kernel_rfl) rfl (fun K hK => ?_)
            go_simp
            refine hK.out _ _ (fun h => absurd h (by decide)) ?_
            clear hK
            try simp only [Act.put]
            refine wpAnyT_done (by kernel_rfl) ?_ _
            clear DB SB MP GB GZ
            go_wp2_with fail
            go_meet
            exact FP.out
        case rest =>
        rename World => Wc
        obtain ⟨bk, ap, lp, qp, rfl, rfl, b, dp, mp⟩ := hcut
        have PP := hid dp
        have HRK := hid (rank_yes mp (by decide))
        have BC := hid b
        have II := hid (IR.out.now b)
        clear b dp mp
        have cP0 := PP.out.at (i := 0) rfl
        have cP1 := PP.out.at (i := 1) rfl
        have cP2 := PP.out.at (i := 2) rfl
        go_wp2_with fail
        clear cP0 cP1 cP2
        refine HRK.out.mono ?_
        rintro e w20 ⟨rs3, cs3, odd3, hz3, rfl, b⟩
        have e3 : rs3.length = blw rs kk := HZ.out.first HKB.out hz3 (part_rows HKB.out)
        rw [e3]
        obtain ⟨bl, hbl⟩ : ∃ bl, blw rs kk = bl := ⟨_, rfl⟩
        rw [hbl]
        have HBL := hid (below13 (k := kk) (II.out.now b) HRL.out)
        rw [hbl] at HBL
        have BD := hid (below_step BC.out b)
        clear hz3 e3 hbl b HRK
        go_wp2_with fail
        refine HBL.out.mono ?_
        rintro e w21 ⟨rfl, b⟩
        have BE := hid (below_step BD.out b)
        clear b HBL
        go_wp2_with fail
        go_meet
        exact BE.out
      · have hd : decide (0 ≤ k ∧ k ≤ (r : Int)) = false := decide_eq_false hbad
        rw [hd]
        go_wp2_with fail
        go_meet
        exact Below.refl _ _
    case rest =>
    rename World => Wf
    have b : Below w6.heap.size w6 Wf := hcut
    clear hcut
    replace PA := hid (PA.out.step b)
    replace MA := hid (MA.out.now b)
    replace IR := hid (IR.out.now b)
    replace IC := hid (IC.out.now b)
    replace G := hid (below_step G.out b)
    clear b
    go_upto_region 14 with fail
    go_cut [107] from 100 (fun s1 wx => s1 = .bool (decide (0 ≤ k ∧ k ≤ (c : Int))) ∧ wx = Wf)
    case first =>
      have cA0 := PA.out.at (i := 0) rfl
      have cA1 := PA.out.at (i := 1) rfl
      by_cases hk0 : 0 ≤ k
      · by_cases hk1 : k ≤ (c : Int)
        · go_wp2_with fail
          go_meet
          exact ⟨congrArg Value.bool (decide_eq_true (p := 0 ≤ k ∧ k ≤ (c : Int)) ⟨hk0, hk1⟩).symm, rfl⟩
        · go_wp2_with fail
          go_meet
          exact ⟨congrArg Value.bool (decide_eq_false (p := 0 ≤ k ∧ k ≤ (c : Int)) (by omega)).symm, rfl⟩
      · go_wp2_with fail
        go_meet
        exact ⟨congrArg Value.bool (decide_eq_false (p := 0 ≤ k ∧ k ≤ (c : Int)) (by omega)).symm, rfl⟩
    case rest =>
    obtain ⟨rfl, hwc⟩ := hcut
    rw [hwc]
    clear hwc wc
    go_upto_if 107 with fail
    go_cut [13, 14, 15, 16] from 100 (fun _ _ _ _ wx => Below Wf.heap.size Wf wx)
    case first =>
      by_cases hbad : 0 ≤ k ∧ k ≤ (c : Int)
      · have hd : decide (0 ≤ k ∧ k ≤ (c : Int)) = true := decide_eq_true hbad
        rw [hd]
        obtain ⟨kk, rfl⟩ : ∃ kk : Nat, k = (kk : Int) := ⟨k.toNat, by omega⟩
        have hkb : kk ≤ c := by omega
        have HKB := hid hkb
        have hk64 : kk ≤ 64 := by omega
        clear hbad hd hkb
        go_upto_region 15 with fail
        go_cut [13, 14] from 108 (fun s1 s2 wx => PkR Wf wx s1 s2 r kk (pickL r c xs (List.range r) (List.range kk)))
        case first =>
          have cA0 := PA.out.at (i := 0) rfl
          have cA1 := PA.out.at (i := 1) rfl
          have cA2 := PA.out.at (i := 2) rfl
          have HB1 : Hid (∀ i ∈ List.range r, i < r) := fun i hi => by
            have h1 := List.mem_range.1 hi
            have h2 := HKB.out
            omega
          have HB2 : Hid (∀ i ∈ List.range kk, i < c) := fun i hi => by
            have h1 := List.mem_range.1 hi
            have h2 := HKB.out
            omega
          have HW1 : Hid ((List.range r).length = r) := List.length_range
          have HW2 : Hid ((List.range kk).length = kk) := List.length_range
          have HWA : Hid (∀ w', Calls Tryz.prog 28 #[.int .i64 (r : Int)] w' (GivesI w' (List.range r))) := fun w' => upto13 (by omega)
          have HWB : Hid (∀ w', Calls Tryz.prog 28 #[.int .i64 (kk : Int)] w' (GivesI w' (List.range kk))) := fun w' => upto13 (by omega)
          generalize List.range r = L1 at *
          generalize List.range kk = L2 at *
          have KB : Hid (∀ w', Below Wf.heap.size Wf w' → w'.cell? ⟨w.heap.size, 0, none⟩ = some (.int .i64 (r : Int)) ∧ w'.cell? ⟨w.heap.size, 1, none⟩ = some (.int .i64 (c : Int)) ∧ w'.cell? ⟨w.heap.size, 2, none⟩ = some (.slice aa la qa)) := fun w' h => ⟨cnow h cA0, cnow h cA1, cnow h cA2⟩
          refine wp_region_tail (fun w' => w'.cell? ⟨w.heap.size, 0, none⟩ = some (.int .i64 (r : Int)) ∧ w'.cell? ⟨w.heap.size, 1, none⟩ = some (.int .i64 (c : Int)) ∧ w'.cell? ⟨w.heap.size, 2, none⟩ = some (.slice aa la qa)) 12 (by kernel_rfl) ?_
          obtain ⟨D81, hD⟩ : ∃ D81, Wf.drew = D81 := ⟨_, rfl⟩
          have GB : Hid (Below Wf.heap.size Wf D81) := by unfold Hid; rw [← hD]; exact (Below.refl _ _).drew
          rw [hD]
          clear hD
          have GZ : Hid (Wf.heap.size ≤ D81.heap.size) := GB.out.size
          refine wpAnyT_take (i := 0) (oi := { dst := some 109, op := Op.load 24 (Operand.tmp 2), type := 24, pos := "outright.go:173", after := #[], guard := none }) (v := (.agg #[.int .i64 (r : Int), .int .i64 (c : Int), .slice aa la qa])) rfl (by kernel_rfl) (fun _ _ _ h => h) (Or.inl ⟨by rfl, ?_⟩) (KB.out _ GB.out) ?_
          · intro w hSw
            (try dsimp only at hSw)
            go_simp
          simp only [Act.put, List.setIfInBounds_toArray, List.set_cons_zero, List.set_cons_succ]
          refine wpAnyT_take (i := 1) (oi := { dst := some 110, op := Op.fieldAddr 24 (Operand.tmp 2) 0, type := 0, pos := "outright.go:173", after := #[], guard := none }) (v := (.pointer (some ⟨w.heap.size, 0, none⟩))) rfl (by kernel_rfl) (fun _ _ _ h => h) (Or.inl ⟨by rfl, ?_⟩) (KB.out _ GB.out) ?_
          · intro w hSw
            (try dsimp only at hSw)
            go_simp
          simp only [Act.put, List.setIfInBounds_toArray, List.set_cons_zero, List.set_cons_succ]
          refine wpAnyT_take (i := 2) (oi := { dst := some 111, op := Op.load 3 (Operand.tmp 110), type := 3, pos := "outright.go:173", after := #[{ on := 1, ground := Ground.data }], guard := none }) (v := (.int .i64 (r : Int))) rfl (by kernel_rfl) (fun _ _ _ h => h) (Or.inl ⟨by rfl, ?_⟩) (KB.out _ GB.out) ?_
          · intro w hSw
            (try dsimp only at hSw)
            go_simp
          simp only [Act.put, List.setIfInBounds_toArray, List.set_cons_zero, List.set_cons_succ]
          refine wpAnyT_take (i := 4) (oi := { dst := some 113, op := Op.move (Operand.tmp 1), type := 3, pos := "outright.go:173", after := #[], guard := none }) (v := (.int .i64 (kk : Int))) rfl (by kernel_rfl) (fun _ _ _ h => h) (Or.inl ⟨by rfl, ?_⟩) (KB.out _ GB.out) ?_
          · intro w hSw
            (try dsimp only at hSw)
            go_simp
          simp only [Act.put, List.setIfInBounds_toArray, List.set_cons_zero, List.set_cons_succ]
          refine wpAnyT_two (i := 3) (j := 10) (oi := { dst := some 112, op := Op.call { callee := Callee.value (Operand.func 28), args := #[Operand.tmp 111], argTypes := #[3] }, type := 38, pos := "outright.go:173", after := #[{ on := 2, ground := Ground.data }], guard := none }) (oj := { dst := some 13, op := Op.alloc 24, type := 0, pos := "outright.go:173", after := #[], guard := none }) (by kernel_rfl) rfl rfl (fun K hK => ?_) (fun K hK => ?_)
          · skip
            replace GZ : Hid (Wf.heap.size ≤ D81.heap.size) := GB.out.size
            go_simp
            go_at_call 28
            refine (HWA.out _).mono ?_
            rintro e w82 ⟨v1, rfl, u1, b⟩
            have lz82 := (show Below _ _ _ from b).size
            replace GB := hid (below_step GB.out b)
            obtain ⟨au1, cu1, hv, -, -⟩ := u1.form
            rw [HW1.out] at hv
            subst hv
            have U1 := hid u1
            clear u1
            clear b
            refine hK.out _ _ (fun _ => KB.out _ GB.out) ?_
            clear hK
            refine wpAnyT_two (i := 5) (j := 10) (oi := { dst := some 114, op := Op.call { callee := Callee.value (Operand.func 28), args := #[Operand.tmp 113], argTypes := #[3] }, type := 38, pos := "outright.go:173", after := #[{ on := 4, ground := Ground.data }, { on := 3, ground := Ground.chain }], guard := none }) (oj := { dst := some 13, op := Op.alloc 24, type := 0, pos := "outright.go:173", after := #[], guard := none }) (by kernel_rfl) rfl rfl (fun K hK => ?_) (fun K hK => ?_)
            · skip
              replace GZ : Hid (Wf.heap.size ≤ w82.heap.size) := GB.out.size
              go_simp
              go_at_call 28
              refine (HWB.out _).mono ?_
              rintro e w83 ⟨v1, rfl, u1, b⟩
              have lz83 := (show Below _ _ _ from b).size
              replace GB := hid (below_step GB.out b)
              obtain ⟨au2, cu2, hv, -, -⟩ := u1.form
              rw [HW2.out] at hv
              subst hv
              have U2 := hid u1
              clear u1
              replace U1 := hid (U1.out.now b)
              clear b
              refine hK.out _ _ (fun _ => KB.out _ GB.out) ?_
              clear hK
              refine wpAnyT_two (i := 6) (j := 10) (oi := { dst := some 115, op := Op.call { callee := Callee.value (Operand.func 14), args := #[Operand.tmp 109, Operand.tmp 112, Operand.tmp 114], argTypes := #[24, 38, 38] }, type := 36, pos := "outright.go:173", after := #[{ on := 0, ground := Ground.data }, { on := 3, ground := Ground.data }, { on := 5, ground := Ground.data }, { on := 5, ground := Ground.chain }], guard := none }) (oj := { dst := some 13, op := Op.alloc 24, type := 0, pos := "outright.go:173", after := #[], guard := none }) (by kernel_rfl) rfl rfl (fun K hK => ?_) (fun K hK => ?_)
              · skip
                replace GZ : Hid (Wf.heap.size ≤ w83.heap.size) := GB.out.size
                go_simp
                go_at_call 14
                refine (pick_yes (MA.out.now GB.out) (U1.out.in9 (by rw [HW1.out]; omega)) (U2.out.in9 (by rw [HW2.out]; omega)) HB1.out HB2.out (by rw [HW1.out]; omega) (by rw [HW2.out]; omega)).mono ?_
                rintro e w84 ⟨vp, rfl, mp, b⟩
                have lz84 := (show Below _ _ _ from b).size
                replace GB := hid (below_step GB.out b)
                rw [HW1.out, HW2.out] at mp
                obtain ⟨ap, qp, hvp, -, -⟩ := mp.mx.form
                obtain ⟨lp, hlp⟩ : ∃ lp, r * kk = lp := ⟨_, rfl⟩
                rw [hlp] at hvp
                subst hvp
                have MP := hid mp.mx
                clear mp U1 U2 hlp
                clear b
                refine hK.out _ _ (fun _ => KB.out _ GB.out) ?_
                clear hK
                refine wpAnyT_take (i := 7) (oi := { dst := some 108, op := Op.move (Operand.tmp 115), type := 36, pos := "outright.go:173", after := #[{ on := 6, ground := Ground.data }], guard := none }) (v := (.tuple #[(.agg #[.int .i64 (r : Int), .int .i64 (kk : Int), .slice ap lp qp]), (.int .i64 0)])) rfl (by kernel_rfl) (fun _ _ _ h => h) (Or.inl ⟨by rfl, ?_⟩) (KB.out _ GB.out) ?_
                · intro w hSw
                  (try dsimp only at hSw)
                  go_simp
                simp only [Act.put, List.setIfInBounds_toArray, List.set_cons_zero, List.set_cons_succ]
                refine wpAnyT_take (i := 8) (oi := { dst := some 116, op := Op.extract (Operand.tmp 108) 0, type := 24, pos := "outright.go:173", after := #[{ on := 7, ground := Ground.data }], guard := none }) (v := (.agg #[.int .i64 (r : Int), .int .i64 (kk : Int), .slice ap lp qp])) rfl (by kernel_rfl) (fun _ _ _ h => h) (Or.inl ⟨by rfl, ?_⟩) (KB.out _ GB.out) ?_
                · intro w hSw
                  (try dsimp only at hSw)
                  go_simp
                simp only [Act.put, List.setIfInBounds_toArray, List.set_cons_zero, List.set_cons_succ]
                refine wpAnyT_take (i := 9) (oi := { dst := some 117, op := Op.extract (Operand.tmp 108) 1, type := 35, pos := "outright.go:173", after := #[{ on := 7, ground := Ground.data }, { on := 11, ground := Ground.gcOnly Departure.lateStores }], guard := none }) (v := (.int .i64 0)) rfl (by kernel_rfl) (fun _ _ _ h => h) (Or.inl ⟨by rfl, ?_⟩) (KB.out _ GB.out) ?_
                · intro w hSw
                  (try dsimp only at hSw)
                  go_simp
                simp only [Act.put, List.setIfInBounds_toArray, List.set_cons_zero, List.set_cons_succ]
                refine wpAnyT_one (i := 10) (o := { dst := some 13, op := Op.alloc 24, type := 0, pos := "outright.go:173", after := #[], guard := none }) (by kernel_rfl) rfl (fun K hK => ?_)
                replace GZ : Hid (Wf.heap.size ≤ w84.heap.size) := GB.out.size
                go_simp
                obtain ⟨V85, hW⟩ : ∃ V85, w84.alloc mbox = V85 := ⟨_, rfl⟩
                obtain ⟨b, sz85⟩ := alo1 w84 mbox
                rw [hW] at b sz85
                replace GB := hid (below_step GB.out b)
                have DB : Hid (Cel V85 w84.heap.size 24 [.int .i64 0, .int .i64 0, .slice none 0 0]) := by unfold Hid; rw [← hW]; exact Cel.new w84 _ _
                clear sz85
                have SB := hid (show Wf.heap.size ≤ w84.heap.size from GZ.out)
                replace MP := hid (MP.out.now b)
                rw [hW]
                clear hW b
                refine hK.out _ _ (fun _ => KB.out _ GB.out) ?_
                clear hK
                try simp only [Act.put]
                refine wpAnyT_one (i := 11) (o := { dst := none, op := Op.store 24 (Operand.tmp 13) (Operand.tmp 116), type := 0, pos := "outright.go:173", after := #[{ on := 10, ground := Ground.data }, { on := 8, ground := Ground.data }, { on := 6, ground := Ground.chain }, { on := 0, ground := Ground.phase }, { on := 1, ground := Ground.phase }, { on := 2, ground := Ground.phase }, { on := 3, ground := Ground.phase }, { on := 4, ground := Ground.phase }, { on := 5, ground := Ground.phase }, { on := 6, ground := Ground.phase }, { on := 7, ground := Ground.phase }, { on := 8, ground := Ground.phase }, { on := 9, ground := Ground.textOnly Departure.lateStores }, { on := 10, ground := Ground.phase }], guard := none }) (by kernel_rfl) rfl (fun K hK => ?_)
                have e0 := DB.out.at (i := 0) rfl
                have e1 := DB.out.at (i := 1) rfl
                have e2 := DB.out.at (i := 2) rfl
                have e3 := DB.out.fz 0
                have e4 := DB.out.fz 1
                have e5 := DB.out.fz 2
                go_simp
                clear e0 e1 e2 e3 e4 e5
                obtain ⟨V86, hW⟩ : ∃ V86, (((V85.setCell ⟨w84.heap.size, 0, none⟩ (.int .i64 (r : Int))).setCell ⟨w84.heap.size, 1, none⟩ (.int .i64 (kk : Int))).setCell ⟨w84.heap.size, 2, none⟩ (.slice ap lp qp)) = V86 := ⟨_, rfl⟩
                have FP : Hid (PkR Wf V86 (.pointer (some ⟨w84.heap.size, 0, none⟩)) (.int .i64 0) r kk (pickL r c xs L1 L2)) := by
                  unfold Hid; rw [← hW]
                  exact pkr_put DB.out MP.out GB.out SB.out
                replace GB : Hid (Below Wf.heap.size Wf V86) := by unfold Hid; rw [← hW]; exact bset (bset (bset GB.out SB.out) SB.out) SB.out
                rw [hW]
                clear hW
                refine hK.out _ _ (fun _ => KB.out _ GB.out) ?_
                clear hK
                try simp only [Act.put]
                refine wpAnyT_one (i := 12) (o := { dst := some 14, op := Op.assign (Operand.tmp 117), type := 35, pos := "outright.go:173", after := #[{ on := 9, ground := Ground.data }, { on := 11, ground := Ground.chain }, { on := 0, ground := Ground.phase }, { on := 1, ground := Ground.phase }, { on := 2, ground := Ground.phase }, { on := 3, ground := Ground.phase }, { on := 4, ground := Ground.phase }, { on := 5, ground := Ground.phase }, { on := 6, ground := Ground.phase }, { on := 7, ground := Ground.phase }, { on := 8, ground := Ground.phase }, { on := 9, ground := Ground.phase }, { on := 10, ground := Ground.phase }, { on := 11, ground := Ground.phase }], guard := none }) (by kernel_rfl) rfl (fun K hK => ?_)
                go_simp
                refine hK.out _ _ (fun h => absurd h (by decide)) ?_
                clear hK
                try simp only [Act.put]
                refine wpAnyT_done (by kernel_rfl) ?_ _
                clear DB SB MP GB GZ
                go_wp2_with fail
                go_meet
                exact FP.out
              · skip
                replace GZ : Hid (Wf.heap.size ≤ w83.heap.size) := GB.out.size
                go_simp
                obtain ⟨V87, hW⟩ : ∃ V87, w83.alloc mbox = V87 := ⟨_, rfl⟩
                obtain ⟨b, sz87⟩ := alo1 w83 mbox
                rw [hW] at b sz87
                replace GB := hid (below_step GB.out b)
                have DB : Hid (Cel V87 w83.heap.size 24 [.int .i64 0, .int .i64 0, .slice none 0 0]) := by unfold Hid; rw [← hW]; exact Cel.new w83 _ _
                clear sz87
                have SB := hid (show Wf.heap.size ≤ w83.heap.size from GZ.out)
                replace U1 := hid (U1.out.now b)
                replace U2 := hid (U2.out.now b)
                rw [hW]
                clear hW b
                refine hK.out _ _ (fun _ => KB.out _ GB.out) ?_
                clear hK
                try simp only [Act.put]
                refine wpAnyT_one (i := 6) (o := { dst := some 115, op := Op.call { callee := Callee.value (Operand.func 14), args := #[Operand.tmp 109, Operand.tmp 112, Operand.tmp 114], argTypes := #[24, 38, 38] }, type := 36, pos := "outright.go:173", after := #[{ on := 0, ground := Ground.data }, { on := 3, ground := Ground.data }, { on := 5, ground := Ground.data }, { on := 5, ground := Ground.chain }], guard := none }) (by kernel_rfl) rfl (fun K hK => ?_)
                replace GZ : Hid (Wf.heap.size ≤ V87.heap.size) := GB.out.size
                go_simp
                go_at_call 14
                refine (pick_yes (MA.out.now GB.out) (U1.out.in9 (by rw [HW1.out]; omega)) (U2.out.in9 (by rw [HW2.out]; omega)) HB1.out HB2.out (by rw [HW1.out]; omega) (by rw [HW2.out]; omega)).mono ?_
                rintro e w88 ⟨vp, rfl, mp, b⟩
                have lz88 := (show Below _ _ _ from b).size
                replace GB := hid (below_step GB.out b)
                rw [HW1.out, HW2.out] at mp
                obtain ⟨ap, qp, hvp, -, -⟩ := mp.mx.form
                obtain ⟨lp, hlp⟩ : ∃ lp, r * kk = lp := ⟨_, rfl⟩
                rw [hlp] at hvp
                subst hvp
                have MP := hid mp.mx
                clear mp U1 U2 hlp
                replace DB := hid (DB.out.step b)
                clear b
                refine hK.out _ _ (fun _ => KB.out _ GB.out) ?_
                clear hK
                refine wpAnyT_take (i := 7) (oi := { dst := some 108, op := Op.move (Operand.tmp 115), type := 36, pos := "outright.go:173", after := #[{ on := 6, ground := Ground.data }], guard := none }) (v := (.tuple #[(.agg #[.int .i64 (r : Int), .int .i64 (kk : Int), .slice ap lp qp]), (.int .i64 0)])) rfl (by kernel_rfl) (fun _ _ _ h => h) (Or.inl ⟨by rfl, ?_⟩) (KB.out _ GB.out) ?_
                · intro w hSw
                  (try dsimp only at hSw)
                  go_simp
                simp only [Act.put, List.setIfInBounds_toArray, List.set_cons_zero, List.set_cons_succ]
                refine wpAnyT_take (i := 8) (oi := { dst := some 116, op := Op.extract (Operand.tmp 108) 0, type := 24, pos := "outright.go:173", after := #[{ on := 7, ground := Ground.data }], guard := none }) (v := (.agg #[.int .i64 (r : Int), .int .i64 (kk : Int), .slice ap lp qp])) rfl (by kernel_rfl) (fun _ _ _ h => h) (Or.inl ⟨by rfl, ?_⟩) (KB.out _ GB.out) ?_
                · intro w hSw
                  (try dsimp only at hSw)
                  go_simp
                simp only [Act.put, List.setIfInBounds_toArray, List.set_cons_zero, List.set_cons_succ]
                refine wpAnyT_take (i := 9) (oi := { dst := some 117, op := Op.extract (Operand.tmp 108) 1, type := 35, pos := "outright.go:173", after := #[{ on := 7, ground := Ground.data }, { on := 11, ground := Ground.gcOnly Departure.lateStores }], guard := none }) (v := (.int .i64 0)) rfl (by kernel_rfl) (fun _ _ _ h => h) (Or.inl ⟨by rfl, ?_⟩) (KB.out _ GB.out) ?_
                · intro w hSw
                  (try dsimp only at hSw)
                  go_simp
                simp only [Act.put, List.setIfInBounds_toArray, List.set_cons_zero, List.set_cons_succ]
                refine wpAnyT_one (i := 11) (o := { dst := none, op := Op.store 24 (Operand.tmp 13) (Operand.tmp 116), type := 0, pos := "outright.go:173", after := #[{ on := 10, ground := Ground.data }, { on := 8, ground := Ground.data }, { on := 6, ground := Ground.chain }, { on := 0, ground := Ground.phase }, { on := 1, ground := Ground.phase }, { on := 2, ground := Ground.phase }, { on := 3, ground := Ground.phase }, { on := 4, ground := Ground.phase }, { on := 5, ground := Ground.phase }, { on := 6, ground := Ground.phase }, { on := 7, ground := Ground.phase }, { on := 8, ground := Ground.phase }, { on := 9, ground := Ground.textOnly Departure.lateStores }, { on := 10, ground := Ground.phase }], guard := none }) (by kernel_rfl) rfl (fun K hK => ?_)
                have e0 := DB.out.at (i := 0) rfl
                have e1 := DB.out.at (i := 1) rfl
                have e2 := DB.out.at (i := 2) rfl
                have e3 := DB.out.fz 0
                have e4 := DB.out.fz 1
                have e5 := DB.out.fz 2
                go_simp
                clear e0 e1 e2 e3 e4 e5
                obtain ⟨V89, hW⟩ : ∃ V89, (((w88.setCell ⟨w83.heap.size, 0, none⟩ (.int .i64 (r : Int))).setCell ⟨w83.heap.size, 1, none⟩ (.int .i64 (kk : Int))).setCell ⟨w83.heap.size, 2, none⟩ (.slice ap lp qp)) = V89 := ⟨_, rfl⟩
                have FP : Hid (PkR Wf V89 (.pointer (some ⟨w83.heap.size, 0, none⟩)) (.int .i64 0) r kk (pickL r c xs L1 L2)) := by
                  unfold Hid; rw [← hW]
                  exact pkr_put DB.out MP.out GB.out SB.out
                replace GB : Hid (Below Wf.heap.size Wf V89) := by unfold Hid; rw [← hW]; exact bset (bset (bset GB.out SB.out) SB.out) SB.out
                rw [hW]
                clear hW
                refine hK.out _ _ (fun _ => KB.out _ GB.out) ?_
                clear hK
                try simp only [Act.put]
                refine wpAnyT_one (i := 12) (o := { dst := some 14, op := Op.assign (Operand.tmp 117), type := 35, pos := "outright.go:173", after := #[{ on := 9, ground := Ground.data }, { on := 11, ground := Ground.chain }, { on := 0, ground := Ground.phase }, { on := 1, ground := Ground.phase }, { on := 2, ground := Ground.phase }, { on := 3, ground := Ground.phase }, { on := 4, ground := Ground.phase }, { on := 5, ground := Ground.phase }, { on := 6, ground := Ground.phase }, { on := 7, ground := Ground.phase }, { on := 8, ground := Ground.phase }, { on := 9, ground := Ground.phase }, { on := 10, ground := Ground.phase }, { on := 11, ground := Ground.phase }], guard := none }) (by kernel_rfl) rfl (fun K hK => ?_)
                go_simp
                refine hK.out _ _ (fun h => absurd h (by decide)) ?_
                clear hK
                try simp only [Act.put]
                refine wpAnyT_done (by kernel_rfl) ?_ _
                clear DB SB MP GB GZ
                go_wp2_with fail
                go_meet
                exact FP.out
            · skip
              replace GZ : Hid (Wf.heap.size ≤ w82.heap.size) := GB.out.size
              go_simp
              obtain ⟨V90, hW⟩ : ∃ V90, w82.alloc mbox = V90 := ⟨_, rfl⟩
              obtain ⟨b, sz90⟩ := alo1 w82 mbox
              rw [hW] at b sz90
              replace GB := hid (below_step GB.out b)
              have DB : Hid (Cel V90 w82.heap.size 24 [.int .i64 0, .int .i64 0, .slice none 0 0]) := by unfold Hid; rw [← hW]; exact Cel.new w82 _ _
              clear sz90
              have SB := hid (show Wf.heap.size ≤ w82.heap.size from GZ.out)
              replace U1 := hid (U1.out.now b)
              rw [hW]
              clear hW b
              refine hK.out _ _ (fun _ => KB.out _ GB.out) ?_
              clear hK
              try simp only [Act.put]
              refine wpAnyT_one (i := 5) (o := { dst := some 114, op := Op.call { callee := Callee.value (Operand.func 28), args := #[Operand.tmp 113], argTypes := #[3] }, type := 38, pos := "outright.go:173", after := #[{ on := 4, ground := Ground.data }, { on := 3, ground := Ground.chain }], guard := none }) (by kernel_rfl) rfl (fun K hK => ?_)
              replace GZ : Hid (Wf.heap.size ≤ V90.heap.size) := GB.out.size
              go_simp
              go_at_call 28
              refine (HWB.out _).mono ?_
              rintro e w91 ⟨v1, rfl, u1, b⟩
              have lz91 := (show Below _ _ _ from b).size
              replace GB := hid (below_step GB.out b)
              obtain ⟨au2, cu2, hv, -, -⟩ := u1.form
              rw [HW2.out] at hv
              subst hv
              have U2 := hid u1
              clear u1
              replace U1 := hid (U1.out.now b)
              replace DB := hid (DB.out.step b)
              clear b
              refine hK.out _ _ (fun _ => KB.out _ GB.out) ?_
              clear hK
              refine wpAnyT_one (i := 6) (o := { dst := some 115, op := Op.call { callee := Callee.value (Operand.func 14), args := #[Operand.tmp 109, Operand.tmp 112, Operand.tmp 114], argTypes := #[24, 38, 38] }, type := 36, pos := "outright.go:173", after := #[{ on := 0, ground := Ground.data }, { on := 3, ground := Ground.data }, { on := 5, ground := Ground.data }, { on := 5, ground := Ground.chain }], guard := none }) (by kernel_rfl) rfl (fun K hK => ?_)
              replace GZ : Hid (Wf.heap.size ≤ w91.heap.size) := GB.out.size
              go_simp
              go_at_call 14
              refine (pick_yes (MA.out.now GB.out) (U1.out.in9 (by rw [HW1.out]; omega)) (U2.out.in9 (by rw [HW2.out]; omega)) HB1.out HB2.out (by rw [HW1.out]; omega) (by rw [HW2.out]; omega)).mono ?_
              rintro e w92 ⟨vp, rfl, mp, b⟩
              have lz92 := (show Below _ _ _ from b).size
              replace GB := hid (below_step GB.out b)
              rw [HW1.out, HW2.out] at mp
              obtain ⟨ap, qp, hvp, -, -⟩ := mp.mx.form
              obtain ⟨lp, hlp⟩ : ∃ lp, r * kk = lp := ⟨_, rfl⟩
              rw [hlp] at hvp
              subst hvp
              have MP := hid mp.mx
              clear mp U1 U2 hlp
              replace DB := hid (DB.out.step b)
              clear b
              refine hK.out _ _ (fun _ => KB.out _ GB.out) ?_
              clear hK
              refine wpAnyT_take (i := 7) (oi := { dst := some 108, op := Op.move (Operand.tmp 115), type := 36, pos := "outright.go:173", after := #[{ on := 6, ground := Ground.data }], guard := none }) (v := (.tuple #[(.agg #[.int .i64 (r : Int), .int .i64 (kk : Int), .slice ap lp qp]), (.int .i64 0)])) rfl (by kernel_rfl) (fun _ _ _ h => h) (Or.inl ⟨by rfl, ?_⟩) (KB.out _ GB.out) ?_
              · intro w hSw
                (try dsimp only at hSw)
                go_simp
              simp only [Act.put, List.setIfInBounds_toArray, List.set_cons_zero, List.set_cons_succ]
              refine wpAnyT_take (i := 8) (oi := { dst := some 116, op := Op.extract (Operand.tmp 108) 0, type := 24, pos := "outright.go:173", after := #[{ on := 7, ground := Ground.data }], guard := none }) (v := (.agg #[.int .i64 (r : Int), .int .i64 (kk : Int), .slice ap lp qp])) rfl (by kernel_rfl) (fun _ _ _ h => h) (Or.inl ⟨by rfl, ?_⟩) (KB.out _ GB.out) ?_
              · intro w hSw
                (try dsimp only at hSw)
                go_simp
              simp only [Act.put, List.setIfInBounds_toArray, List.set_cons_zero, List.set_cons_succ]
              refine wpAnyT_take (i := 9) (oi := { dst := some 117, op := Op.extract (Operand.tmp 108) 1, type := 35, pos := "outright.go:173", after := #[{ on := 7, ground := Ground.data }, { on := 11, ground := Ground.gcOnly Departure.lateStores }], guard := none }) (v := (.int .i64 0)) rfl (by kernel_rfl) (fun _ _ _ h => h) (Or.inl ⟨by rfl, ?_⟩) (KB.out _ GB.out) ?_
              · intro w hSw
                (try dsimp only at hSw)
                go_simp
              simp only [Act.put, List.setIfInBounds_toArray, List.set_cons_zero, List.set_cons_succ]
              refine wpAnyT_one (i := 11) (o := { dst := none, op := Op.store 24 (Operand.tmp 13) (Operand.tmp 116), type := 0, pos := "outright.go:173", after := #[{ on := 10, ground := Ground.data }, { on := 8, ground := Ground.data }, { on := 6, ground := Ground.chain }, { on := 0, ground := Ground.phase }, { on := 1, ground := Ground.phase }, { on := 2, ground := Ground.phase }, { on := 3, ground := Ground.phase }, { on := 4, ground := Ground.phase }, { on := 5, ground := Ground.phase }, { on := 6, ground := Ground.phase }, { on := 7, ground := Ground.phase }, { on := 8, ground := Ground.phase }, { on := 9, ground := Ground.textOnly Departure.lateStores }, { on := 10, ground := Ground.phase }], guard := none }) (by kernel_rfl) rfl (fun K hK => ?_)
              have e0 := DB.out.at (i := 0) rfl
              have e1 := DB.out.at (i := 1) rfl
              have e2 := DB.out.at (i := 2) rfl
              have e3 := DB.out.fz 0
              have e4 := DB.out.fz 1
              have e5 := DB.out.fz 2
              go_simp
              clear e0 e1 e2 e3 e4 e5
              obtain ⟨V93, hW⟩ : ∃ V93, (((w92.setCell ⟨w82.heap.size, 0, none⟩ (.int .i64 (r : Int))).setCell ⟨w82.heap.size, 1, none⟩ (.int .i64 (kk : Int))).setCell ⟨w82.heap.size, 2, none⟩ (.slice ap lp qp)) = V93 := ⟨_, rfl⟩
              have FP : Hid (PkR Wf V93 (.pointer (some ⟨w82.heap.size, 0, none⟩)) (.int .i64 0) r kk (pickL r c xs L1 L2)) := by
                unfold Hid; rw [← hW]
                exact pkr_put DB.out MP.out GB.out SB.out
              replace GB : Hid (Below Wf.heap.size Wf V93) := by unfold Hid; rw [← hW]; exact bset (bset (bset GB.out SB.out) SB.out) SB.out
              rw [hW]
              clear hW
              refine hK.out _ _ (fun _ => KB.out _ GB.out) ?_
              clear hK
              try simp only [Act.put]
              refine wpAnyT_one (i := 12) (o := { dst := some 14, op := Op.assign (Operand.tmp 117), type := 35, pos := "outright.go:173", after := #[{ on := 9, ground := Ground.data }, { on := 11, ground := Ground.chain }, { on := 0, ground := Ground.phase }, { on := 1, ground := Ground.phase }, { on := 2, ground := Ground.phase }, { on := 3, ground := Ground.phase }, { on := 4, ground := Ground.phase }, { on := 5, ground := Ground.phase }, { on := 6, ground := Ground.phase }, { on := 7, ground := Ground.phase }, { on := 8, ground := Ground.phase }, { on := 9, ground := Ground.phase }, { on := 10, ground := Ground.phase }, { on := 11, ground := Ground.phase }], guard := none }) (by kernel_rfl) rfl (fun K hK => ?_)
              go_simp
              refine hK.out _ _ (fun h => absurd h (by decide)) ?_
              clear hK
              try simp only [Act.put]
              refine wpAnyT_done (by kernel_rfl) ?_ _
              clear DB SB MP GB GZ
              go_wp2_with fail
              go_meet
              exact FP.out
          · skip
            replace GZ : Hid (Wf.heap.size ≤ D81.heap.size) := GB.out.size
            go_simp
            obtain ⟨V94, hW⟩ : ∃ V94, D81.alloc mbox = V94 := ⟨_, rfl⟩
            obtain ⟨b, sz94⟩ := alo1 D81 mbox
            rw [hW] at b sz94
            replace GB := hid (below_step GB.out b)
            have DB : Hid (Cel V94 D81.heap.size 24 [.int .i64 0, .int .i64 0, .slice none 0 0]) := by unfold Hid; rw [← hW]; exact Cel.new D81 _ _
            clear sz94
            have SB := hid (show Wf.heap.size ≤ D81.heap.size from GZ.out)
            rw [hW]
            clear hW b
            refine hK.out _ _ (fun _ => KB.out _ GB.out) ?_
            clear hK
            try simp only [Act.put]
            refine wpAnyT_one (i := 3) (o := { dst := some 112, op := Op.call { callee := Callee.value (Operand.func 28), args := #[Operand.tmp 111], argTypes := #[3] }, type := 38, pos := "outright.go:173", after := #[{ on := 2, ground := Ground.data }], guard := none }) (by kernel_rfl) rfl (fun K hK => ?_)
            replace GZ : Hid (Wf.heap.size ≤ V94.heap.size) := GB.out.size
            go_simp
            go_at_call 28
            refine (HWA.out _).mono ?_
            rintro e w95 ⟨v1, rfl, u1, b⟩
            have lz95 := (show Below _ _ _ from b).size
            replace GB := hid (below_step GB.out b)
            obtain ⟨au1, cu1, hv, -, -⟩ := u1.form
            rw [HW1.out] at hv
            subst hv
            have U1 := hid u1
            clear u1
            replace DB := hid (DB.out.step b)
            clear b
            refine hK.out _ _ (fun _ => KB.out _ GB.out) ?_
            clear hK
            refine wpAnyT_one (i := 5) (o := { dst := some 114, op := Op.call { callee := Callee.value (Operand.func 28), args := #[Operand.tmp 113], argTypes := #[3] }, type := 38, pos := "outright.go:173", after := #[{ on := 4, ground := Ground.data }, { on := 3, ground := Ground.chain }], guard := none }) (by kernel_rfl) rfl (fun K hK => ?_)
            replace GZ : Hid (Wf.heap.size ≤ w95.heap.size) := GB.out.size
            go_simp
            go_at_call 28
            refine (HWB.out _).mono ?_
            rintro e w96 ⟨v1, rfl, u1, b⟩
            have lz96 := (show Below _ _ _ from b).size
            replace GB := hid (below_step GB.out b)
            obtain ⟨au2, cu2, hv, -, -⟩ := u1.form
            rw [HW2.out] at hv
            subst hv
            have U2 := hid u1
            clear u1
            replace U1 := hid (U1.out.now b)
            replace DB := hid (DB.out.step b)
            clear b
            refine hK.out _ _ (fun _ => KB.out _ GB.out) ?_
            clear hK
            refine wpAnyT_one (i := 6) (o := { dst := some 115, op := Op.call { callee := Callee.value (Operand.func 14), args := #[Operand.tmp 109, Operand.tmp 112, Operand.tmp 114], argTypes := #[24, 38, 38] }, type := 36, pos := "outright.go:173", after := #[{ on := 0, ground := Ground.data }, { on := 3, ground := Ground.data }, { on := 5, ground := Ground.data }, { on := 5, ground := Ground.chain }], guard := none }) (by kernel_rfl) rfl (fun K hK => ?_)
            replace GZ : Hid (Wf.heap.size ≤ w96.heap.size) := GB.out.size
            go_simp
            go_at_call 14
            refine (pick_yes (MA.out.now GB.out) (U1.out.in9 (by rw [HW1.out]; omega)) (U2.out.in9 (by rw [HW2.out]; omega)) HB1.out HB2.out (by rw [HW1.out]; omega) (by rw [HW2.out]; omega)).mono ?_
            rintro e w97 ⟨vp, rfl, mp, b⟩
            have lz97 := (show Below _ _ _ from b).size
            replace GB := hid (below_step GB.out b)
            rw [HW1.out, HW2.out] at mp
            obtain ⟨ap, qp, hvp, -, -⟩ := mp.mx.form
            obtain ⟨lp, hlp⟩ : ∃ lp, r * kk = lp := ⟨_, rfl⟩
            rw [hlp] at hvp
            subst hvp
            have MP := hid mp.mx
            clear mp U1 U2 hlp
            replace DB := hid (DB.out.step b)
            clear b
            refine hK.out _ _ (fun _ => KB.out _ GB.out) ?_
            clear hK
            refine wpAnyT_take (i := 7) (oi := { dst := some 108, op := Op.move (Operand.tmp 115), type := 36, pos := "outright.go:173", after := #[{ on := 6, ground := Ground.data }], guard := none }) (v := (.tuple #[(.agg #[.int .i64 (r : Int), .int .i64 (kk : Int), .slice ap lp qp]), (.int .i64 0)])) rfl (by kernel_rfl) (fun _ _ _ h => h) (Or.inl ⟨by rfl, ?_⟩) (KB.out _ GB.out) ?_
            · intro w hSw
              (try dsimp only at hSw)
              go_simp
            simp only [Act.put, List.setIfInBounds_toArray, List.set_cons_zero, List.set_cons_succ]
            refine wpAnyT_take (i := 8) (oi := { dst := some 116, op := Op.extract (Operand.tmp 108) 0, type := 24, pos := "outright.go:173", after := #[{ on := 7, ground := Ground.data }], guard := none }) (v := (.agg #[.int .i64 (r : Int), .int .i64 (kk : Int), .slice ap lp qp])) rfl (by kernel_rfl) (fun _ _ _ h => h) (Or.inl ⟨by rfl, ?_⟩) (KB.out _ GB.out) ?_
            · intro w hSw
              (try dsimp only at hSw)
              go_simp
            simp only [Act.put, List.setIfInBounds_toArray, List.set_cons_zero, List.set_cons_succ]
            refine wpAnyT_take (i := 9) (oi := { dst := some 117, op := Op.extract (Operand.tmp 108) 1, type := 35, pos := "outright.go:173", after := #[{ on := 7, ground := Ground.data }, { on := 11, ground := Ground.gcOnly Departure.lateStores }], guard := none }) (v := (.int .i64 0)) rfl (by kernel_rfl) (fun _ _ _ h => h) (Or.inl ⟨by rfl, ?_⟩) (KB.out _ GB.out) ?_
            · intro w hSw
              (try dsimp only at hSw)
              go_simp
            simp only [Act.put, List.setIfInBounds_toArray, List.set_cons_zero, List.set_cons_succ]
            refine wpAnyT_one (i := 11) (o := { dst := none, op := Op.store 24 (Operand.tmp 13) (Operand.tmp 116), type := 0, pos := "outright.go:173", after := #[{ on := 10, ground := Ground.data }, { on := 8, ground := Ground.data }, { on := 6, ground := Ground.chain }, { on := 0, ground := Ground.phase }, { on := 1, ground := Ground.phase }, { on := 2, ground := Ground.phase }, { on := 3, ground := Ground.phase }, { on := 4, ground := Ground.phase }, { on := 5, ground := Ground.phase }, { on := 6, ground := Ground.phase }, { on := 7, ground := Ground.phase }, { on := 8, ground := Ground.phase }, { on := 9, ground := Ground.textOnly Departure.lateStores }, { on := 10, ground := Ground.phase }], guard := none }) (by kernel_rfl) rfl (fun K hK => ?_)
            have e0 := DB.out.at (i := 0) rfl
            have e1 := DB.out.at (i := 1) rfl
            have e2 := DB.out.at (i := 2) rfl
            have e3 := DB.out.fz 0
            have e4 := DB.out.fz 1
            have e5 := DB.out.fz 2
            go_simp
            clear e0 e1 e2 e3 e4 e5
            obtain ⟨V98, hW⟩ : ∃ V98, (((w97.setCell ⟨D81.heap.size, 0, none⟩ (.int .i64 (r : Int))).setCell ⟨D81.heap.size, 1, none⟩ (.int .i64 (kk : Int))).setCell ⟨D81.heap.size, 2, none⟩ (.slice ap lp qp)) = V98 := ⟨_, rfl⟩
            have FP : Hid (PkR Wf V98 (.pointer (some ⟨D81.heap.size, 0, none⟩)) (.int .i64 0) r kk (pickL r c xs L1 L2)) := by
              unfold Hid; rw [← hW]
              exact pkr_put DB.out MP.out GB.out SB.out
            replace GB : Hid (Below Wf.heap.size Wf V98) := by unfold Hid; rw [← hW]; exact bset (bset (bset GB.out SB.out) SB.out) SB.out
            rw [hW]
            clear hW
            refine hK.out _ _ (fun _ => KB.out _ GB.out) ?_
            clear hK
            try simp only [Act.put]
            refine wpAnyT_one (i := 12) (o := { dst := some 14, op := Op.assign (Operand.tmp 117), type := 35, pos := "outright.go:173", after := #[{ on := 9, ground := Ground.data }, { on := 11, ground := Ground.chain }, { on := 0, ground := Ground.phase }, { on := 1, ground := Ground.phase }, { on := 2, ground := Ground.phase }, { on := 3, ground := Ground.phase }, { on := 4, ground := Ground.phase }, { on := 5, ground := Ground.phase }, { on := 6, ground := Ground.phase }, { on := 7, ground := Ground.phase }, { on := 8, ground := Ground.phase }, { on := 9, ground := Ground.phase }, { on := 10, ground := Ground.phase }, { on := 11, ground := Ground.phase }], guard := none }) (by kernel_rfl) rfl (fun K hK => ?_)
            go_simp
            refine hK.out _ _ (fun h => absurd h (by decide)) ?_
            clear hK
            try simp only [Act.put]
            refine wpAnyT_done (by kernel_rfl) ?_ _
            clear DB SB MP GB GZ
            go_wp2_with fail
            go_meet
            exact FP.out
        case rest =>
        rename World => Wc
        obtain ⟨bk, ap, lp, qp, rfl, rfl, b, dp, mp⟩ := hcut
        have PP := hid dp
        have HRK := hid (rank_yes mp (by decide))
        have BC := hid b
        have II := hid (IC.out.now b)
        clear b dp mp
        have cP0 := PP.out.at (i := 0) rfl
        have cP1 := PP.out.at (i := 1) rfl
        have cP2 := PP.out.at (i := 2) rfl
        go_wp2_with fail
        clear cP0 cP1 cP2
        refine HRK.out.mono ?_
        rintro e w20 ⟨rs3, cs3, odd3, hz3, rfl, b⟩
        have e3 : rs3.length = blw (srt cs) kk := left13 HZ.out HKB.out hz3 (part_cols HKB.out)
        rw [e3]
        obtain ⟨bl, hbl⟩ : ∃ bl, blw (srt cs) kk = bl := ⟨_, rfl⟩
        rw [hbl]
        have HBL := hid (below13 (k := kk) (II.out.now b) HSL.out)
        rw [hbl] at HBL
        have BD := hid (below_step BC.out b)
        clear hz3 e3 hbl b HRK
        go_wp2_with fail
        refine HBL.out.mono ?_
        rintro e w21 ⟨rfl, b⟩
        have BE := hid (below_step BD.out b)
        clear b HBL
        go_wp2_with fail
        go_meet
        exact BE.out
      · have hd : decide (0 ≤ k ∧ k ≤ (c : Int)) = false := decide_eq_false hbad
        rw [hd]
        go_wp2_with fail
        go_meet
        exact Below.refl _ _
    case rest =>
    rename World => Wg
    have b : Below Wf.heap.size Wf Wg := hcut
    clear hcut
    replace PA := hid (PA.out.step b)
    replace MA := hid (MA.out.now b)
    replace IR := hid (IR.out.now b)
    replace IC := hid (IC.out.now b)
    replace G := hid (below_step G.out b)
    clear b
    go_wp2
    go_ret
    exact ⟨rfl, G.out⟩
  · have hsa2 := hid hsa
    refine (rowSet_un hsa).mono ?_
    rintro e w7 ⟨rfl, b⟩
    replace PA := hid (PA.out.step b)
    replace RA := hid (RA.out.now b)
    replace G := hid (below_step G.out b)
    clear b
    have cA0 := PA.out.at (i := 0) rfl
    have cA1 := PA.out.at (i := 1) rfl
    have cA2 := PA.out.at (i := 2) rfl
    go_wp2_with fail
    clear cA0 cA1 cA2
    refine (pivots_un hsa).mono ?_
    rintro e w8 ⟨rfl, b⟩
    replace PA := hid (PA.out.step b)
    replace RA := hid (RA.out.now b)
    replace G := hid (below_step G.out b)
    clear b
    go_wp2_with fail
    refine (awake13 _).mono ?_
    rintro e w9 ⟨rfl, b⟩
    replace PA := hid (PA.out.step b)
    replace RA := hid (RA.out.now b)
    replace G := hid (below_step G.out b)
    clear b
    have cA0 := PA.out.at (i := 0) rfl
    have cA1 := PA.out.at (i := 1) rfl
    have cA2 := PA.out.at (i := 2) rfl
    go_wp2_with fail
    clear cA0 cA1 cA2
    refine (check_no hsa).mono ?_
    rintro e w10 ⟨rfl, b⟩
    replace PA := hid (PA.out.step b)
    replace RA := hid (RA.out.now b)
    replace G := hid (below_step G.out b)
    clear b
    go_wp2
    go_ret
    exact ⟨rfl, G.out⟩
end Go.Proofs.YtlhbcdapinacgaaGreat
