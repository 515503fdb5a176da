/-
  QEr13ToRs13: Er13, Ex13, Cr13, Rs13, joined.
-/
import Derived.Test.YtakkmpkkoecnhaaQBz13
import Derived.Test.YtakkmpkkoecnhaaQPickB9ToSd13
import Derived.Test.YtakkmpkkoecnhaaQSt13
import Derived.Test.YtakkmpkkoecnhaaQGi10ToLike11
import Derived.Test.YtakkmpkkoecnhaaQEach9ToColsP9

/- Er13 -/
namespace Go.Proofs.Ytakkmpkkoecnhaa
set_option linter.unusedVariables false

/-- Row r moved to the top. -/
def topR (A : Nat → Nat → Int) (r : Nat) : Nat → Nat → Int
  | 0 => A r
  | i + 1 => A (skd r i)
theorem det_top : ∀ (n r : Nat) (A : Nat → Nat → Int), r ≤ n → det (n + 1) A = sgd r * det (n + 1) (topR A r)
  | n, 0, A, _ => by
    show _ = 1 * _
    rw [Int.one_mul]
    exact det_congr fun i j _ _ => by
      cases i with
      | zero => rfl
      | succ i => show A (i + 1) j = A (skd 0 i) j; unfold skd; rw [if_neg (by omega)]
  | n, r + 1, A, h => by
    have h1 := (det_alt (n + 1)).swap1 (A := A) (i := r) (by omega)
    have h2 := det_top n r (stR (stR A r (A (r + 1))) (r + 1) (A r)) (by omega)
    rw [h1] at h2
    have e : det (n + 1) (topR (stR (stR A r (A (r + 1))) (r + 1) (A r)) r) = det (n + 1) (topR A (r + 1)) := det_congr fun i j _ _ => by
      cases i with
      | zero =>
        show stR (stR A r (A (r + 1))) (r + 1) (A r) r j = A (r + 1) j
        rw [stR_off _ (by omega), stR_at]
      | succ i =>
        show stR (stR A r (A (r + 1))) (r + 1) (A r) (skd r i) j = A (skd (r + 1) i) j
        by_cases q : i < r
        · have e1 : skd r i = i := by unfold skd; rw [if_pos q]
          have e2 : skd (r + 1) i = i := by unfold skd; rw [if_pos (by omega)]
          rw [e1, e2, stR_off _ (by omega), stR_off _ (by omega)]
        · by_cases q2 : i = r
          · subst q2
            have e1 : skd i i = i + 1 := by unfold skd; rw [if_neg (by omega)]
            have e2 : skd (i + 1) i = i := by unfold skd; rw [if_pos (by omega)]
            rw [e1, e2, stR_at]
          · have e1 : skd r i = i + 1 := by unfold skd; rw [if_neg (by omega)]
            have e2 : skd (r + 1) i = i + 1 := by unfold skd; rw [if_neg (by omega)]
            rw [e1, e2, stR_off _ (by omega), stR_off _ (by omega)]
    rw [e] at h2
    show _ = - sgd r * _
    rw [Int.neg_mul, ← h2]
    omega
/-- The term of column j. -/
def exT (A : Nat → Nat → Int) (n r j : Nat) : Int := A r j * (sgd (r + j) * det n fun a b => A (skd r a) (skd j b))
theorem sgd_add : ∀ a b : Nat, sgd (a + b) = sgd a * sgd b
  | 0, b => by show sgd (0 + b) = 1 * sgd b; rw [Nat.zero_add, Int.one_mul]
  | a + 1, b => by
    rw [show a + 1 + b = (a + b) + 1 by omega]
    show - sgd (a + b) = - sgd a * sgd b
    rw [sgd_add a b, Int.neg_mul]
theorem det_any (n r : Nat) (A : Nat → Nat → Int) (h : r ≤ n) : det (n + 1) A = su (n + 1) (exT A n r) := by
  rw [det_top n r A h, det_row]
  unfold exd
  rw [← su_mul]
  refine su_congr fun j _ => ?_
  show sgd r * (sgd j * A r j * det n (fun a b => A (skd r a) (skd j b))) = A r j * (sgd (r + j) * det n fun a b => A (skd r a) (skd j b))
  rw [sgd_add]
  grind
theorem sgd_par (n : Nat) : sgd n = if n % 2 = 1 then -1 else 1 := by
  induction n with
  | zero => rfl
  | succ n ih =>
    show - sgd n = _
    rw [ih]
    by_cases q : n % 2 = 1
    · rw [if_pos q, if_neg (by omega)]; rfl
    · rw [if_neg q, if_pos (by omega)]
/-- All places but k. -/
theorem without_map (k : Nat) : ∀ m : Nat, (List.range m).filter (fun t => t != k) = if m ≤ k then List.range m else (List.range (m - 1)).map (skd k)
  | 0 => by simp
  | m + 1 => by
    rw [List.range_succ, List.filter_append, without_map k m]
    by_cases q : m < k
    · rw [if_pos (by omega), if_pos (by omega)]
      have : (m != k) = true := by simp; omega
      simp [this]
    · by_cases q2 : m = k
      · subst q2
        rw [if_pos (Nat.le_refl _), if_neg (by omega)]
        have : (m != m) = false := by simp
        simp only [List.filter_cons, this, List.filter_nil, Nat.add_sub_cancel]
        simp only [Bool.false_eq_true, if_false, List.append_nil]
        apply List.ext_getElem
        · simp
        · intro i h1 h2
          have hi : i < m := by simpa using h1
          simp [skd, hi]
      · rw [if_neg (by omega), if_neg (by omega)]
        have : (m != k) = true := by simp; omega
        obtain ⟨m', rfl⟩ : ∃ m', m = m' + 1 := ⟨m - 1, by omega⟩
        simp only [List.filter_cons, this, List.filter_nil, if_true, Nat.add_sub_cancel]
        rw [List.range_succ, List.map_append]
        have e : skd k m' = m' + 1 := by unfold skd; rw [if_neg (by omega)]
        simp [e]
theorem without_len {n k : Nat} (hk : k ≤ n) : ((List.range (n + 1)).filter (fun t => t != k)).length = n := by
  rw [without_map, if_neg (by omega)]; simp
theorem without_at {n k a : Nat} (hk : k ≤ n) (ha : a < n) : ((List.range (n + 1)).filter (fun t => t != k)).getD a 0 = skd k a := by
  rw [without_map, if_neg (by omega)]; simp [ha]
end Go.Proofs.Ytakkmpkkoecnhaa

/- Ex13 -/
namespace Go.Proofs.Ytakkmpkkoecnhaa
open Go.RowKit
set_option linter.unusedVariables false

/-- The sums on the way are no longer than a determinant may be. -/
theorem exT_fit {k n r j : Nat} {c : Nat} {zs : List Int} (h : ∀ z ∈ zs, (z.natAbs : Int) < pw k) (hn : n + 1 ≤ 64) (hj : j ≤ 64) : ((su j (exT (en c zs) n r)).natAbs : Int) < pw (64 * k + 7) := by
  have ha := en_abs (c := c) h
  have h1 : (su j (exT (en c zs) n r)).natAbs ≤ j * (2 ^ (64 * k) * (64 * 2 ^ (64 * k)) ^ n) := su_abs fun t _ => by
    unfold exT
    rw [Int.natAbs_mul, Int.natAbs_mul, sgd_abs, Nat.one_mul]
    exact Nat.mul_le_mul (ha _ _) (det_abs (X := 2 ^ (64 * k)) (N := 64) (by omega) fun _ _ _ _ => ha _ _)
  have h2 : j * (2 ^ (64 * k) * (64 * 2 ^ (64 * k)) ^ n) ≤ 64 * (2 ^ (64 * k) * (64 * 2 ^ (64 * k)) ^ n) := Nat.mul_le_mul_right _ hj
  have h3 : 64 * (2 ^ (64 * k) * (64 * 2 ^ (64 * k)) ^ n) = (64 * 2 ^ (64 * k)) ^ (n + 1) := by rw [Nat.pow_succ, Nat.mul_comm _ (64 * 2 ^ (64 * k)), Nat.mul_assoc]
  have h4 : (64 * 2 ^ (64 * k)) ^ (n + 1) ≤ (64 * 2 ^ (64 * k)) ^ 64 := Nat.pow_le_pow_right (by have := Nat.two_pow_pos (64 * k); omega) hn
  have h5 : (64 * 2 ^ (64 * k)) ^ 64 = 2 ^ (384 + 64 * k * 64) := by
    rw [show (64 : Nat) = 2 ^ 6 from rfl, ← Nat.pow_add, ← Nat.pow_mul]
    congr 1
    omega
  have h6 : 2 ^ (384 + 64 * k * 64) < 2 ^ (64 * (64 * k + 7)) := Nat.pow_lt_pow_right (by omega) (by omega)
  have e := pw13 (64 * k + 7)
  rw [e]
  omega
/-- An entry in memory. -/
theorem Mx.ent13 {w : World} {r c k la qa p : Nat} {aa : Option Addr} {zs : List Int} (h : Mx w (matv r c (.slice aa la qa)) r c zs k) (hp : p < r * c) :
    ∃ ba off nv av lv cv, aa = some ⟨ba, off, none⟩ ∧ p < la ∧ w.cell? ⟨ba, off + p * 2, none⟩ = some (.bool nv) ∧ w.cell? ⟨ba, off + p * 2 + 1, none⟩ = some (.slice av lv cv) ∧ Zi w (.agg #[.bool nv, .slice av lv cv]) (zs.getD p 0) k := by
  obtain ⟨at_, ps, h1, h2, h3, h4, h5⟩ := h
  have h1' : Value.slice aa la qa = at_ := by simp only [matv, Value.agg.injEq] at h1; simp at h1; exact h1
  subst h1'
  obtain ⟨a', c', e1, e2, e3, e4, e5⟩ := h2
  simp only [Value.slice.injEq] at e1
  obtain ⟨rfl, rfl, rfl⟩ := e1
  have hl : ps.length = r * c := by rw [h3.1, h4]
  rcases e5 with rfl | ⟨b, off, rfl, _, _, e9⟩
  · simp at hl; omega
  · have hq : ps[p]? = some (ps[p]'(by omega)) := List.getElem?_eq_getElem _
    have hz : zs[p]? = some (zs.getD p 0) := by simp [show p < zs.length by omega]
    have z := h3.2 p _ _ hq hz
    obtain ⟨n0, a0, l0, c0, e⟩ := z.isI
    have q := e9 p _ hq
    have e' : (ps[p]'(by omega)) = (.bool n0, .slice a0 l0 c0) := e
    rw [e'] at q z
    exact ⟨b, off, n0, a0, l0, c0, rfl, by omega, q.1, q.2, z⟩
end Go.Proofs.Ytakkmpkkoecnhaa

/- Cr13 -/
namespace Go.Proofs.Ytakkmpkkoecnhaa
set_option linter.unusedVariables false

theorem su_cut {r : Nat} {f : Nat → Int} : ∀ {m : Nat}, r ≤ m → (∀ k, r ≤ k → k < m → f k = 0) → su m f = su r f
  | 0, h, _ => by
    obtain rfl : r = 0 := by omega
    rfl
  | m + 1, h, hz => by
    by_cases e : r = m + 1
    · subst e; rfl
    · show su m f + f m = su r f
      rw [su_cut (m := m) (by omega) (fun k h1 h2 => hz k h1 (by omega)), hz m (by omega) (by omega)]
      omega
theorem Stz.more {A : Nat → Nat → Int} {n i : Nat} {rs cs : List Nat} {odd : Bool} (h : Stz A n i rs cs odd) {row : Nat} (hr : row < i) (M : Nat → Nat) (hM : ∀ b, b < rs.length + 1 → M b < n) : det (rs.length + 1) (fun a b => A ((rs ++ [row]).getD a 0) (M b)) = 0 := by
  have old : ∀ a, a < rs.length → (rs ++ [row]).getD a 0 = rs.getD a 0 := fun a ha => by simp [List.getElem?_append_left ha]
  have new : (rs ++ [row]).getD rs.length 0 = row := by simp
  by_cases hm : row ∈ rs
  · obtain ⟨t, ht, e⟩ := List.getElem_of_mem hm
    have et : rs.getD t 0 = row := by simp [ht, e]
    exact (det_alt (rs.length + 1)).same (i := t) (k := rs.length) (by omega) (by omega) (by omega) fun j hj => by rw [old t ht, new, et]
  · obtain ⟨k, h1, h2, h3⟩ := h.drop row hr hm
    obtain ⟨e, e0, he⟩ := mi_lin A (gd rs) (gd cs) k row
    refine det_dep (r := rs.length) _ (by omega) (fun q => if q < k then e q else if q = rs.length then e k else 0) ?_ fun j hj => ?_
    · rw [if_neg (by omega), if_pos rfl, e0]
      exact h.nz k h1
    · have hz := h3 (M j) (hM j hj)
      rw [he] at hz
      show su rs.length _ + (if rs.length < k then e rs.length else if rs.length = rs.length then e k else 0) * A ((rs ++ [row]).getD rs.length 0) (M j) = 0
      rw [su_cut (r := k) h1 fun q q1 q2 => by rw [if_neg (by omega), if_neg (by omega)]; simp]
      rw [if_neg (by omega), if_pos rfl, new]
      have e1 : su k (fun q => (if q < k then e q else if q = rs.length then e k else 0) * A ((rs ++ [row]).getD q 0) (M j)) = su k fun a => e a * A (bor k (gd rs) row a) (M j) := su_congr fun q hq => by rw [if_pos hq, old q (by omega), bor_lt hq]
      rw [e1]
      have e2 : su (k + 1) (fun a => e a * A (bor k (gd rs) row a) (M j)) = su k (fun a => e a * A (bor k (gd rs) row a) (M j)) + e k * A row (M j) := by
        show _ + e k * A (bor k (gd rs) row k) (M j) = _
        rw [bor_eq]
      rw [← e2]
      exact hz
end Go.Proofs.Ytakkmpkkoecnhaa

/- Rs13 -/
namespace Go.Proofs.Ytakkmpkkoecnhaa
open Go.RowKit Go.Shelf
set_option linter.unusedVariables false

/-- The two lists, from the world W0 ahead of them on; W is where the statement began. -/
structure R15 (w W0 W X : World) (rv cv : Value) (rs cs : List Nat) : Prop where
  ty : Ty 3 W X
  b0 : Below W0.heap.size W0 X
  bw : Below w.heap.size w X
  r : Ivs W0.heap.size X rv rs
  c : Ivs W0.heap.size X cv cs
  ne : ∀ b, rv.ownBlock = some b → cv.ownBlock ≠ some b
theorem R15.now {w W0 W X X' : World} {rv cv : Value} {rs cs : List Nat} (h : R15 w W0 W X rv cv rs cs) (hb : Below X.heap.size X X') : R15 w W0 W X' rv cv rs cs :=
  ⟨h.ty.trans (Ty.of hb), below_step h.b0 hb, below_step h.bw hb, h.r.now hb, h.c.now hb, h.ne⟩
theorem Ivs.lt13 {B b : Nat} {w : World} {v : Value} {l : List Nat} (h : Ivs B w v l) (hb : v.ownBlock = some b) : b < w.heap.size := (Array.getElem?_eq_some_iff.1 (h.blk hb).2.choose_spec).1
theorem R15.addR {w W0 W X X' : World} {rv cv : Value} {rs cs : List Nat} {g' l' cap' row : Nat} (h : R15 w W0 W X rv cv rs cs) (hw : w.heap.size ≤ W0.heap.size) (hI : Ivs W0.heap.size X' (.slice (some ⟨g', 0, none⟩) l' cap') (rs ++ [row])) (hg : X.grownBy X' rv.ownBlock) (hb : rv.ownBlock = some g' ∨ g' = X.heap.size) :
    R15 w W0 W X' (.slice (some ⟨g', 0, none⟩) l' cap') cv (rs ++ [row]) cs := by
  refine ⟨h.ty.trans (Ty.grown h.r hg), below_own h.b0 h.b0.size h.r hg, below_own h.bw h.bw.size (owns_mono11 h.r hw : Ivs w.heap.size X rv rs) hg, hI, ?_, ?_⟩
  · refine h.c.keep fun b L hb2 e => ?_
    rw [hg.block b (h.c.lt13 hb2) (fun q => h.ne b q.symm hb2)]
    exact e
  · intro b hb1 hb2
    simp only [Value.ownBlock, Option.some.injEq] at hb1
    subst hb1
    rcases hb with q | q
    · exact h.ne _ q hb2
    · have := h.c.lt13 hb2; omega
theorem R15.addC {w W0 W X X' : World} {rv cv : Value} {rs cs : List Nat} {g' l' cap' col : Nat} (h : R15 w W0 W X rv cv rs cs) (hw : w.heap.size ≤ W0.heap.size) (hI : Ivs W0.heap.size X' (.slice (some ⟨g', 0, none⟩) l' cap') (cs ++ [col])) (hg : X.grownBy X' cv.ownBlock) (hb : cv.ownBlock = some g' ∨ g' = X.heap.size) :
    R15 w W0 W X' rv (.slice (some ⟨g', 0, none⟩) l' cap') rs (cs ++ [col]) := by
  refine ⟨h.ty.trans (Ty.grown h.c hg), below_own h.b0 h.b0.size h.c hg, below_own h.bw h.bw.size (owns_mono11 h.c hw : Ivs w.heap.size X cv cs) hg, ?_, hI, ?_⟩
  · refine h.r.keep fun b L hb2 e => ?_
    rw [hg.block b (h.r.lt13 hb2) (fun q => h.ne b hb2 q.symm)]
    exact e
  · intro b hb1 hb2
    simp only [Value.ownBlock, Option.some.injEq] at hb2
    subst hb2
    rcases hb with q | q
    · exact h.ne _ hb1 q
    · have := h.r.lt13 hb1; omega
end Go.Proofs.Ytakkmpkkoecnhaa
