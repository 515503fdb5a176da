/-
  QExact0ToZDiv: Exact0, ZDiv, joined.
-/
import Derived.Test.YtachdicdfhfoaaaQDivMod
import Derived.Test.YtachdicdfhfoaaaQAlike

/- Exact0 -/
namespace Go.Proofs.Ytachdicdfhfoaaa
open Go.RowKit
set_option linter.unusedVariables false

/-- Quotient and rest are one pair. -/
theorem div_one {X Y q r q' r' : Int} (h : X = Y * q + r) (h' : X = Y * q' + r') (a : 0 ≤ r) (b : r < Y) (a' : 0 ≤ r') (b' : r' < Y) : q' = q ∧ r' = r := by
  have e : Y * (q' - q) = r - r' := by rw [Int.mul_sub]; omega
  rcases Int.lt_trichotomy (q' - q) 0 with k | k | k
  · have := Int.mul_le_mul_of_nonneg_left (show q' - q ≤ -1 by omega) (show 0 ≤ Y by omega)
    rw [Int.mul_neg, Int.mul_one] at this
    omega
  · rw [k, Int.mul_zero] at e
    omega
  · have := Int.mul_le_mul_of_nonneg_left (show 1 ≤ q' - q by omega) (show 0 ≤ Y by omega)
    rw [Int.mul_one] at this
    omega

/-- What Exact answers, b not being 0. -/
def Exacted (w : World) (xs ys : List Int) (e : Ending) (w' : World) : Prop :=
  ∃ qs rs, Canon qs ∧ Canon rs ∧ val xs = val ys * val qs + val rs ∧ val rs < val ys ∧ qs.length ≤ xs.length ∧ Below w.heap.size w w' ∧
    ((rs = [] ∧ ∃ q, e = .returned (.tuple #[q, .int .i64 0]) ∧ Own w.heap.size w' q qs) ∨ (rs ≠ [] ∧ e = .returned (.tuple #[.slice none 0 0, .int .i64 8])))

end Go.Proofs.Ytachdicdfhfoaaa

/- ZDiv -/
namespace Go.Proofs.Ytachdicdfhfoaaa
open Go.RowKit
set_option linter.unusedVariables false

theorem bset {B g j : Nat} {w w' : World} {u : Value} (h : Below B w w') (hg : B ≤ g) : Below B w (w'.setCell ⟨g, j, none⟩ u) := h.setCell (p := ⟨g, j, none⟩) hg u
/-- The result of a call that answers two integers and an error. -/
theorem zback2 {f : Func} {s1 s2 s3 : Nat} (hr : f.results = #[ResultVar.cell s1 35, ResultVar.cell s2 35, ResultVar.tmp s3]) {W : World} {b b' : Nat} {x y x' y' e : Value} (h : Duo W b x y) (h' : Duo W b' x' y') (tmps : Array Value) (ht : tmps[s1]? = some (.pointer (some ⟨b, 0, none⟩))) (ht' : tmps[s2]? = some (.pointer (some ⟨b', 0, none⟩))) (he : tmps[s3]? = some e) :
    (results f tmps).run Try.prog W = .ok (.tuple #[.agg #[x, y], .agg #[x', y'], e]) W := by
  simp [results, hr, go_sem, ht, ht', he, h.c0, h.c1, h'.c0, h'.c1]
/-- The result of a call that answers an integer and an error. -/
theorem zback1 {f : Func} {s1 s3 : Nat} (hr : f.results = #[ResultVar.cell s1 35, ResultVar.tmp s3]) {W : World} {b : Nat} {x y e : Value} (h : Duo W b x y) (tmps : Array Value) (ht : tmps[s1]? = some (.pointer (some ⟨b, 0, none⟩))) (he : tmps[s3]? = some e) :
    (results f tmps).run Try.prog W = .ok (.tuple #[.agg #[x, y], e]) W := by
  simp [results, hr, go_sem, ht, he, h.c0, h.c1]
/-- Two integers and an error. -/
def GivesZ2 (E : Int) (w : World) (q r : Int) (k l : Nat) (e : Ending) (w' : World) : Prop := ∃ rq rr, e = .returned (.tuple #[rq, rr, .int .i64 E]) ∧ Zm w.heap.size w' rq q k ∧ Zm w.heap.size w' rr r l ∧ Below w.heap.size w w'
/-- An integer and an error. -/
def GivesZ1 (E : Int) (w : World) (q : Int) (k : Nat) (e : Ending) (w' : World) : Prop := ∃ rq, e = .returned (.tuple #[rq, .int .i64 E]) ∧ Zm w.heap.size w' rq q k ∧ Below w.heap.size w w'
abbrev zzero : Value := .agg #[.bool false, .slice none 0 0]
theorem zm_nil (B : Nat) (w : World) (k : Nat) : Zm B w zzero 0 k := ⟨false, [], none, 0, rfl, Mine.nil _ _, ⟨WF.nil, rfl⟩, fun _ => rfl, by simp [iv, val], Nat.zero_le _⟩
theorem gz2_end {E : Int} {w W : World} {B b b' : Nat} {x y x' y' : Value} {q r : Int} {k l : Nat} (h : Zm B W (.agg #[x, y]) q k) (h' : Zm B W (.agg #[x', y']) r l) (hW : Below w.heap.size w W) (hb : w.heap.size ≤ b) (hB : b < B) (hb' : w.heap.size ≤ b') (hB' : b' < B) :
    GivesZ2 E w q r k l (.returned (.tuple #[.agg #[x, y], .agg #[x', y'], .int .i64 E])) ((((W.setCell ⟨b, 0, none⟩ x).setCell ⟨b, 1, none⟩ y).setCell ⟨b', 0, none⟩ x').setCell ⟨b', 1, none⟩ y') :=
  ⟨_, _, rfl, ((((h.setLow hB 0 x).setLow hB 1 y).setLow hB' 0 x').setLow hB' 1 y').mono (by omega), ((((h'.setLow hB 0 x).setLow hB 1 y).setLow hB' 0 x').setLow hB' 1 y').mono (by omega),
    (((hW.setCell (p := ⟨b, 0, none⟩) hb x).setCell (p := ⟨b, 1, none⟩) hb y).setCell (p := ⟨b', 0, none⟩) hb' x').setCell (p := ⟨b', 1, none⟩) hb' y'⟩
theorem gz1_end {E : Int} {w W : World} {B b : Nat} {x y : Value} {q : Int} {k : Nat} (h : Zm B W (.agg #[x, y]) q k) (hW : Below w.heap.size w W) (hb : w.heap.size ≤ b) (hB : b < B) :
    GivesZ1 E w q k (.returned (.tuple #[.agg #[x, y], .int .i64 E])) ((W.setCell ⟨b, 0, none⟩ x).setCell ⟨b, 1, none⟩ y) :=
  ⟨_, rfl, ((h.setLow hB 0 x).setLow hB 1 y).mono (by omega), (hW.setCell (p := ⟨b, 0, none⟩) hb x).setCell (p := ⟨b, 1, none⟩) hb y⟩
theorem Own.mine5 {B : Nat} {w : World} {v : Value} {zs : List Int} (h : Own B w v zs) : Mine B w v zs := by
  obtain ⟨hw, h1 | ⟨g, r, h1, h2, h3, h4⟩⟩ := h
  · exact ⟨hw, .inl h1⟩
  · exact ⟨hw, .inr ⟨g, r, _, h1, by omega, by omega, .inr ⟨rfl, by unfold maxLen; omega⟩, h3, h4⟩⟩
theorem wid_of_iv {n : Bool} {xs : List Int} {z : Int} (hx : WF xs) (h : iv n xs = z) : wid xs = 0 ↔ z = 0 := by
  have h1 := iv_abs hx h
  constructor
  · intro e
    have := wid_zero_val xs e
    omega
  · intro e
    by_cases q : 0 < wid xs
    · have := wid_pos_val hx q
      omega
    · omega
theorem div_iv {n m : Bool} {xs ys qs rs : List Int} (hx : WF xs) (hr : WF rs) (h : val xs = val ys * val qs + val rs) (h1 : val rs < val ys) : iv (n != m) qs = (iv n xs).tdiv (iv m ys) ∧ iv n rs = (iv n xs).tmod (iv m ys) := by
  have h0 := val_nonneg hr
  have hx0 := val_nonneg hx
  have e1 : (val xs).tdiv (val ys) = val qs := by
    rw [Int.tdiv_eq_ediv_of_nonneg hx0, h, Int.add_comm, Int.add_mul_ediv_left _ _ (by omega), Int.ediv_eq_zero_of_lt h0 h1, Int.zero_add]
  have e2 : (val xs).tmod (val ys) = val rs := by
    rw [Int.tmod_eq_emod_of_nonneg hx0, h, Int.mul_add_emod_self_left, Int.emod_eq_of_lt h0 h1]
  cases n <;> cases m <;> simp [iv, Int.neg_tdiv, Int.tdiv_neg, Int.neg_tmod, Int.tmod_neg, e1, e2]

/-- What Exact answers. -/
def ExactZ (w : World) (z y : Int) (k : Nat) (e : Ending) (w' : World) : Prop := (z.tmod y = 0 ∧ GivesZ1 0 w (z.tdiv y) k e w') ∨ (z.tmod y ≠ 0 ∧ e = .returned (.tuple #[zzero, .int .i64 8]) ∧ Below w.heap.size w w')
theorem iv_zero {n : Bool} {rs : List Int} (h : Canon rs) : iv n rs = 0 ↔ rs = [] := by
  constructor
  · intro e
    refine canon_zero h ?_
    cases n <;> simp [iv] at e <;> exact e
  · rintro rfl
    exact iv_nil n
end Go.Proofs.Ytachdicdfhfoaaa
