/-
  QDivModToZStore: DivMod, Exact0, ZDiv, ZStore, joined.
-/
import Derived.Test.YtbalcjjeakdjkaaQLong3ToShr
import Derived.Test.YtbalcjjeakdjkaaQSubToNow
import Derived.ArgAppend
import Derived.OwnWalk
import Derived.Test.YtbalcjjeakdjkaaQAlikeToOpenV8

/- DivMod -/
namespace Go.Proofs.Ytbalcjjeakdjkaa
open Go.RowKit
set_option linter.unusedVariables false

/-- Two slices that do not begin in one block. -/
def Two (q r : Value) : Prop := ∀ k, q.ownBlock = some k → r.ownBlock = some k → False
theorem Own.block {B : Nat} {w : World} {v : Value} {zs : List Int} (h : Own B w v zs) : ∀ k, v.ownBlock = some k → B ≤ k ∧ k < w.heap.size := by
  intro k hk
  obtain ⟨_, ⟨rfl, _⟩ | ⟨g, r, h1, h2, rfl, h4⟩⟩ := h
  · cases hk
  · simp [Value.ownBlock] at hk
    subst hk
    exact ⟨h1, h4.lt⟩
theorem two_of {B B' : Nat} {w w' : World} {q r : Value} {qs rs : List Int} (h : Own B w q qs) (h' : Own B' w' r rs) (hB : w.heap.size ≤ B') : Two q r := fun k h1 h2 => by
  have := (h.block k h1).2
  have := (h'.block k h2).1
  omega
theorem two_of' {B B' : Nat} {w w' : World} {q r : Value} {qs rs : List Int} (h : Own B w q qs) (h' : Own B' w' r rs) (hB : w.heap.size ≤ B') : Two r q := fun k h1 h2 => two_of h h' hB k h2 h1
theorem Own.lower {B B' : Nat} {w : World} {v : Value} {zs : List Int} (h : Own B w v zs) (hB : B' ≤ B) : Own B' w v zs := by
  obtain ⟨h0, h1 | ⟨g, r, h1, h2⟩⟩ := h
  · exact ⟨h0, .inl h1⟩
  · exact ⟨h0, .inr ⟨g, r, by omega, h2⟩⟩
theorem Own.stay {B : Nat} {w w' : World} {v : Value} {zs : List Int} (h : Own B w v zs) (hb : Below w.heap.size w w') : Own B w' v zs := by
  obtain ⟨h0, h1 | ⟨g, r, h1, h2, h3, h4⟩⟩ := h
  · exact ⟨h0, .inl h1⟩
  · exact ⟨h0, .inr ⟨g, r, h1, h2, h3, h4.below hb h4.lt⟩⟩

theorem wpList_append_one (w : World) {ops : Array Oper} {rest : List Oper} {o : Oper} {a : Act} {Q : Exit → Act → World → Prop}
    (hg : o.guard = none) (s x : Operand) (hop : o.op = Op.call { callee := Callee.builtin Builtin.append, args := #[s, x], argTypes := #[26, 26] })
    (g : Nat) (zs : List Int) (r : List Value) (c : Int) (hs : a.eval s = .slice (some ⟨g, 0, none⟩) zs.length (zs.length + r.length)) (hmx : zs.length + r.length ≤ 35184372088832) (hrow : Row w g (ws zs ++ r)) (hlen : zs.length + 1 ≤ 17592186044000)
    (ad : Addr) (hx : a.eval x = .slice (some ad) 1 1) (hc : w.cell? ad = some (.int .u64 c))
    (hK : ∀ g' cap' r' w', Hid (Row w' g' (ws (zs ++ [c]) ++ r')) → g ≤ g' → zs.length + 1 ≤ cap' → cap' ≤ 9223372036854775807 → Hid (Below g w w') → wpList Try.prog ops Q rest (a.put o.dst (.slice (some ⟨g', 0, none⟩) (zs.length + 1) cap')) w') :
    wpList Try.prog ops Q (o :: rest) a w := by
  obtain ⟨i, hi, hz, hsz, hb⟩ := info_parts Try.infoW
  have hnews : ∀ j u, ([.int .u64 c] : List Value)[j]? = some u → w.cell? (ad.add j) = some u := fun j u hj => by
    match j, hj with
    | 0, hj => simp at hj; subst hj; simpa [Addr.add] using hc
  have h1c : ∀ u ∈ ([.int .u64 c] : List Value), u.oneCell' = true := fun u hu => by simp at hu; subst hu; rfl
  have done : ∀ B v' w', B ≤ w.heap.size → w'.ownsRow B 70 1 v' (zs.length + 1) (ws zs ++ [.int .u64 c]) → ∃ g' cap' r', v' = .slice (some ⟨g', 0, none⟩) (zs.length + 1) cap' ∧ B ≤ g' ∧ zs.length + 1 ≤ cap' ∧ cap' ≤ 9223372036854775807 ∧ Row w' g' (ws (zs ++ [c]) ++ r') := fun B v' w' hB ho => by
    obtain ⟨_, ⟨_, h2⟩ | ⟨g', cap', cur, h2, h3, h4, h5, h6, h7, h8⟩⟩ := ho
    · omega
    · refine ⟨g', cap', cur.toList.drop (zs.length + 1), h2, h3, h5, by unfold maxLen at h6; omega, ?_⟩
      rw [Nat.mul_one] at h8
      have e : ws (zs ++ [c]) = cur.toList.take (zs.length + 1) := by rw [h8]; simp [ws]
      unfold Row
      rw [e, List.take_append_drop, Array.toArray_toList]
      exact h4
  by_cases hfit : zs.length + 1 ≤ zs.length + r.length
  · have hown : w.ownsRow 0 70 1 (.slice (some ⟨g, 0, none⟩) zs.length (zs.length + r.length)) zs.length (ws zs) := by
      refine ⟨by simp [length_ws], .inr ⟨g, _, (ws zs ++ r).toArray, rfl, Nat.zero_le _, hrow, by omega, by unfold maxLen; omega, by simp [length_ws], ?_⟩⟩
      rw [Nat.mul_one]
      simp [length_ws]
    refine wpList_append_fits w hg s x 26 hop 0 70 i 1 Try.underlying26 hi hsz g zs.length (zs.length + r.length) (ws zs) hs hown ad 1 1 [.int .u64 c] hx rfl hnews h1c hfit ?_
    intro w' ho hgr
    obtain ⟨g', cap', r', e, _, h5, h6, h7⟩ := done 0 _ w' (Nat.zero_le _) ho
    simp only [Value.slice.injEq, Option.some.injEq, Addr.mk.injEq, and_true] at e
    obtain ⟨rfl, _, rfl⟩ := e
    exact hK g _ r' w' h7 (Nat.le_refl _) hfit (by omega) ((Below.refl _ _).grown hgr (Nat.le_of_lt hrow.lt) (fun k hk => by cases hk; exact Nat.le_refl _))
  · refine wpList_append_grows w hg s x 26 hop 70 i _ 1 8 Try.underlying26 hi hz hsz hb rfl (by omega) (some ⟨g, 0, none⟩) zs.length (zs.length + r.length) (ws zs) hs (fun e => by cases e) (by simp [length_ws]) (fun b e => ?_) ad 1 1 [.int .u64 c] hx rfl hnews h1c (by omega) (by unfold maxLen; omega) (by omega) ?_
    · cases e
      intro j u hj
      have hj' : j < zs.length := by
        have := (List.getElem?_eq_some_iff.1 hj).1
        simpa [length_ws] using this
      have e : (⟨g, 0, none⟩ : Addr).add j = ⟨g, j, none⟩ := by unfold Addr.add; split <;> simp_all
      rw [e, hrow.word hj', ← hj]
      simp [ws, hj']
    · intro v' w' ho hgr
      obtain ⟨g', cap', r', rfl, h4, h5, h6, h7⟩ := done w.heap.size v' w' (Nat.le_refl _) ho
      exact hK g' cap' r' w' h7 (Nat.le_trans (Nat.le_of_lt hrow.lt) h4) h5 h6 ((Below.refl _ _).grown hgr (Nat.le_of_lt hrow.lt) (fun k hk => by cases hk))

/-- What DivMod answers. -/
def DivModed (w : World) (xs ys : List Int) (e : Ending) (w' : World) : Prop :=
  ∃ qs rs q r, e = .returned (.tuple #[q, r, .int .i64 0]) ∧ Own w.heap.size w' q qs ∧ Own w.heap.size w' r rs ∧ Canon qs ∧ Canon rs ∧ val xs = val ys * val qs + val rs ∧ val rs < val ys ∧ qs.length ≤ xs.length ∧ rs.length ≤ xs.length ∧ Two q r ∧ Below w.heap.size w w'

theorem lst_one {ys : List Int} (h : wid ys = 1) : ∃ h : 0 < ys.length, lst ys = [ys[0]] ∧ ys[0] ≠ 0 := by
  obtain ⟨h1, h2⟩ := wid_top (n := 0) h
  exact ⟨h1, by rw [lst_split h h1]; simp, h2⟩

theorem row_sl {w : World} {g : Nat} {zs : List Int} {r : List Value} (h : Row w g (ws zs ++ r)) (hw : WF zs) {cap : Nat} (hl : zs.length ≤ 35184372088832) (hc : zs.length ≤ cap) {B : Nat} (hB : g < B) : Sl B w (.slice (some ⟨g, 0, none⟩) zs.length cap) zs :=
  ⟨hw, _, cap, rfl, hc, hl, .inr ⟨g, 0, rfl, hB, fun j hj => by rw [Nat.zero_add]; exact h.word hj⟩⟩
theorem canon_ge {bs : List Int} {N : Nat} (h : Canon bs) (hl : bs.length = N + 1) : pw N ≤ val bs := by
  rw [val_top1 hl]
  obtain ⟨h1, h2⟩ := wid_top (xs := bs) (n := N) (by rw [← hl]; exact h.2)
  have h3 := (h.1.get h1).1
  have h4 := val_nonneg (h.1.take N)
  have h5 := Int.mul_le_mul_of_nonneg_right (show 1 ≤ bs[N] by omega) (Int.le_of_lt (pw_pos N))
  rw [Int.one_mul] at h5
  omega
theorem canon_len_le {xs ys : List Int} (h : Canon xs) (h' : Canon ys) (hv : val xs ≤ val ys) : xs.length ≤ ys.length := by
  by_cases q : wid ys < wid xs
  · have := val_wid_lt h'.1 h.1 q; omega
  · rw [← h.2, ← h'.2]; omega
/-- The highest words, with a 0 on top, are less than the divisor. -/
theorem top_less {us bs : List Int} {m N : Nat} (ha : WF us) (hb : Canon bs) (hl : bs.length = N + 1) (hm : m + (N + 1) = us.length + 1) : val ((us ++ [0]).drop m) < val bs := by
  have e : (us ++ [0]).drop m = us.drop m ++ [0] := List.drop_append_of_le_length (by omega)
  rw [e, val_append]
  have h1 := val_lt_pw (ha.dropped m)
  rw [List.length_drop, show us.length - m = N by omega] at h1
  have h2 := canon_ge hb hl
  have h3 : val ([0] : List Int) = 0 := by simp [val]
  rw [h3]; omega
/-- Up by P and down again: quotient and rest stay. -/
theorem div_down {X Y P Q Z : Nat} (hP : 0 < P) (h : X * P = Q * (Y * P) + Z) (hz : Z < Y * P) : X = Y * Q + Z / P ∧ Z / P < Y := by
  rw [← Nat.mul_assoc] at h
  have h1 : Q * Y ≤ X := by
    refine Nat.le_of_mul_le_mul_right (c := P) ?_ hP
    omega
  obtain ⟨R, rfl⟩ := Nat.exists_eq_add_of_le h1
  rw [Nat.add_mul] at h
  have h2 : Z = R * P := by omega
  subst h2
  rw [Nat.mul_div_cancel _ hP]
  refine ⟨by rw [Nat.mul_comm Y], Nat.lt_of_mul_lt_mul_right hz⟩

end Go.Proofs.Ytbalcjjeakdjkaa

/- Exact0 -/
namespace Go.Proofs.Ytbalcjjeakdjkaa
open Go.RowKit
set_option linter.unusedVariables false

/-- Quotient and rest are one pair. -/
theorem div_one {X Y q r q' r' : Int} (h : X = Y * q + r) (h' : X = Y * q' + r') (a : 0 ≤ r) (b : r < Y) (a' : 0 ≤ r') (b' : r' < Y) : q' = q ∧ r' = r := by
  have e : Y * (q' - q) = r - r' := by rw [Int.mul_sub]; omega
  rcases Int.lt_trichotomy (q' - q) 0 with k | k | k
  · have := Int.mul_le_mul_of_nonneg_left (show q' - q ≤ -1 by omega) (show 0 ≤ Y by omega)
    rw [Int.mul_neg, Int.mul_one] at this
    omega
  · rw [k, Int.mul_zero] at e
    omega
  · have := Int.mul_le_mul_of_nonneg_left (show 1 ≤ q' - q by omega) (show 0 ≤ Y by omega)
    rw [Int.mul_one] at this
    omega

/-- What Exact answers, b not being 0. -/
def Exacted (w : World) (xs ys : List Int) (e : Ending) (w' : World) : Prop :=
  ∃ qs rs, Canon qs ∧ Canon rs ∧ val xs = val ys * val qs + val rs ∧ val rs < val ys ∧ qs.length ≤ xs.length ∧ Below w.heap.size w w' ∧
    ((rs = [] ∧ ∃ q, e = .returned (.tuple #[q, .int .i64 0]) ∧ Own w.heap.size w' q qs) ∨ (rs ≠ [] ∧ e = .returned (.tuple #[.slice none 0 0, .int .i64 8])))

end Go.Proofs.Ytbalcjjeakdjkaa

/- ZDiv -/
namespace Go.Proofs.Ytbalcjjeakdjkaa
open Go.RowKit
set_option linter.unusedVariables false

theorem bset {B g j : Nat} {w w' : World} {u : Value} (h : Below B w w') (hg : B ≤ g) : Below B w (w'.setCell ⟨g, j, none⟩ u) := h.setCell (p := ⟨g, j, none⟩) hg u
/-- The result of a call that answers two integers and an error. -/
theorem zback2 {f : Func} {s1 s2 s3 : Nat} (hr : f.results = #[ResultVar.cell s1 28, ResultVar.cell s2 28, ResultVar.tmp s3]) {W : World} {b b' : Nat} {x y x' y' e : Value} (h : Duo W b x y) (h' : Duo W b' x' y') (tmps : Array Value) (ht : tmps[s1]? = some (.pointer (some ⟨b, 0, none⟩))) (ht' : tmps[s2]? = some (.pointer (some ⟨b', 0, none⟩))) (he : tmps[s3]? = some e) :
    (results f tmps).run Try.prog W = .ok (.tuple #[.agg #[x, y], .agg #[x', y'], e]) W := by
  simp [results, hr, go_sem, ht, ht', he, h.c0, h.c1, h'.c0, h'.c1]
/-- The result of a call that answers an integer and an error. -/
theorem zback1 {f : Func} {s1 s3 : Nat} (hr : f.results = #[ResultVar.cell s1 28, ResultVar.tmp s3]) {W : World} {b : Nat} {x y e : Value} (h : Duo W b x y) (tmps : Array Value) (ht : tmps[s1]? = some (.pointer (some ⟨b, 0, none⟩))) (he : tmps[s3]? = some e) :
    (results f tmps).run Try.prog W = .ok (.tuple #[.agg #[x, y], e]) W := by
  simp [results, hr, go_sem, ht, he, h.c0, h.c1]
/-- Two integers and an error. -/
def GivesZ2 (E : Int) (w : World) (q r : Int) (k l : Nat) (e : Ending) (w' : World) : Prop := ∃ rq rr, e = .returned (.tuple #[rq, rr, .int .i64 E]) ∧ Zm w.heap.size w' rq q k ∧ Zm w.heap.size w' rr r l ∧ Below w.heap.size w w'
/-- An integer and an error. -/
def GivesZ1 (E : Int) (w : World) (q : Int) (k : Nat) (e : Ending) (w' : World) : Prop := ∃ rq, e = .returned (.tuple #[rq, .int .i64 E]) ∧ Zm w.heap.size w' rq q k ∧ Below w.heap.size w w'
abbrev zzero : Value := .agg #[.bool false, .slice none 0 0]
theorem zm_nil (B : Nat) (w : World) (k : Nat) : Zm B w zzero 0 k := ⟨false, [], none, 0, rfl, Mine.nil _ _, ⟨WF.nil, rfl⟩, fun _ => rfl, by simp [iv, val], Nat.zero_le _⟩
theorem gz2_end {E : Int} {w W : World} {B b b' : Nat} {x y x' y' : Value} {q r : Int} {k l : Nat} (h : Zm B W (.agg #[x, y]) q k) (h' : Zm B W (.agg #[x', y']) r l) (hW : Below w.heap.size w W) (hb : w.heap.size ≤ b) (hB : b < B) (hb' : w.heap.size ≤ b') (hB' : b' < B) :
    GivesZ2 E w q r k l (.returned (.tuple #[.agg #[x, y], .agg #[x', y'], .int .i64 E])) ((((W.setCell ⟨b, 0, none⟩ x).setCell ⟨b, 1, none⟩ y).setCell ⟨b', 0, none⟩ x').setCell ⟨b', 1, none⟩ y') :=
  ⟨_, _, rfl, ((((h.setLow hB 0 x).setLow hB 1 y).setLow hB' 0 x').setLow hB' 1 y').mono (by omega), ((((h'.setLow hB 0 x).setLow hB 1 y).setLow hB' 0 x').setLow hB' 1 y').mono (by omega),
    (((hW.setCell (p := ⟨b, 0, none⟩) hb x).setCell (p := ⟨b, 1, none⟩) hb y).setCell (p := ⟨b', 0, none⟩) hb' x').setCell (p := ⟨b', 1, none⟩) hb' y'⟩
theorem gz1_end {E : Int} {w W : World} {B b : Nat} {x y : Value} {q : Int} {k : Nat} (h : Zm B W (.agg #[x, y]) q k) (hW : Below w.heap.size w W) (hb : w.heap.size ≤ b) (hB : b < B) :
    GivesZ1 E w q k (.returned (.tuple #[.agg #[x, y], .int .i64 E])) ((W.setCell ⟨b, 0, none⟩ x).setCell ⟨b, 1, none⟩ y) :=
  ⟨_, rfl, ((h.setLow hB 0 x).setLow hB 1 y).mono (by omega), (hW.setCell (p := ⟨b, 0, none⟩) hb x).setCell (p := ⟨b, 1, none⟩) hb y⟩
theorem Own.mine5 {B : Nat} {w : World} {v : Value} {zs : List Int} (h : Own B w v zs) : Mine B w v zs := by
  obtain ⟨hw, h1 | ⟨g, r, h1, h2, h3, h4⟩⟩ := h
  · exact ⟨hw, .inl h1⟩
  · exact ⟨hw, .inr ⟨g, r, _, h1, by omega, by omega, .inr ⟨rfl, by unfold maxLen; omega⟩, h3, h4⟩⟩
theorem wid_of_iv {n : Bool} {xs : List Int} {z : Int} (hx : WF xs) (h : iv n xs = z) : wid xs = 0 ↔ z = 0 := by
  have h1 := iv_abs hx h
  constructor
  · intro e
    have := wid_zero_val xs e
    omega
  · intro e
    by_cases q : 0 < wid xs
    · have := wid_pos_val hx q
      omega
    · omega
theorem div_iv {n m : Bool} {xs ys qs rs : List Int} (hx : WF xs) (hr : WF rs) (h : val xs = val ys * val qs + val rs) (h1 : val rs < val ys) : iv (n != m) qs = (iv n xs).tdiv (iv m ys) ∧ iv n rs = (iv n xs).tmod (iv m ys) := by
  have h0 := val_nonneg hr
  have hx0 := val_nonneg hx
  have e1 : (val xs).tdiv (val ys) = val qs := by
    rw [Int.tdiv_eq_ediv_of_nonneg hx0, h, Int.add_comm, Int.add_mul_ediv_left _ _ (by omega), Int.ediv_eq_zero_of_lt h0 h1, Int.zero_add]
  have e2 : (val xs).tmod (val ys) = val rs := by
    rw [Int.tmod_eq_emod_of_nonneg hx0, h, Int.mul_add_emod_self_left, Int.emod_eq_of_lt h0 h1]
  cases n <;> cases m <;> simp [iv, Int.neg_tdiv, Int.tdiv_neg, Int.neg_tmod, Int.tmod_neg, e1, e2]

/-- What Exact answers. -/
def ExactZ (w : World) (z y : Int) (k : Nat) (e : Ending) (w' : World) : Prop := (z.tmod y = 0 ∧ GivesZ1 0 w (z.tdiv y) k e w') ∨ (z.tmod y ≠ 0 ∧ e = .returned (.tuple #[zzero, .int .i64 8]) ∧ Below w.heap.size w w')
theorem iv_zero {n : Bool} {rs : List Int} (h : Canon rs) : iv n rs = 0 ↔ rs = [] := by
  constructor
  · intro e
    refine canon_zero h ?_
    cases n <;> simp [iv] at e <;> exact e
  · rintro rfl
    exact iv_nil n
end Go.Proofs.Ytbalcjjeakdjkaa

/- ZStore -/
namespace Go.Proofs.Ytbalcjjeakdjkaa
open Go.RowKit
set_option linter.unusedVariables false

/-- An integer in least form, wherever its words lie. -/
def Zc (w : World) (v : Value) (z : Int) (k : Nat) : Prop :=
  ∃ n zs a c, v = .agg #[.bool n, .slice a zs.length c] ∧ Sl w.heap.size w (.slice a zs.length c) zs ∧ Canon zs ∧ (zs = [] → n = false) ∧ iv n zs = z ∧ zs.length ≤ k
theorem Zm.zc {B : Nat} {w : World} {v : Value} {z : Int} {k : Nat} (h : Zm B w v z k) : Zc w v z k := by
  obtain ⟨n, xs, a, c, h1, h2, h3, h4, h5, h6⟩ := h
  exact ⟨n, xs, a, c, h1, h2.sl, h3, h4, h5, h6⟩
theorem Zc.zi {w : World} {v : Value} {z : Int} {k : Nat} (h : Zc w v z k) : Zi w v z k := by
  obtain ⟨n, xs, a, c, h1, h2, h3, h4, h5, h6⟩ := h
  exact ⟨n, xs, a, c, h1, h2, h5, h6⟩
theorem Zc.now {w w' : World} {v : Value} {z : Int} {k : Nat} (h : Zc w v z k) (hb : Below w.heap.size w w') : Zc w' v z k := by
  obtain ⟨n, xs, a, c, h1, h2, h3, h4, h5, h6⟩ := h
  exact ⟨n, xs, a, c, h1, h2.now hb, h3, h4, h5, h6⟩
/-- A number below pw l has at most l words. -/
theorem Zm.fit {B : Nat} {w : World} {v : Value} {z : Int} {k l : Nat} (h : Zm B w v z k) (hz : (z.natAbs : Int) < pw l) : Zm B w v z l := by
  obtain ⟨n, xs, a, c, h1, h2, h3, h4, h5, h6⟩ := h
  have e := val_nonneg h3.1
  refine ⟨n, xs, a, c, h1, h2, h3, h4, h5, canon_len h3 ?_⟩
  cases n <;> simp [iv] at h5 <;> omega
theorem Zi.lt {w : World} {v : Value} {z : Int} {k : Nat} (h : Zi w v z k) : (z.natAbs : Int) < pw k := by
  obtain ⟨n, xs, a, c, h1, h2, h5, h6⟩ := h
  have e := val_nonneg h2.1
  have e2 := val_lt_pw h2.1
  have e3 := pw_up h6
  cases n <;> simp [iv] at h5 <;> omega
theorem Duo.blk {w : World} {b : Nat} {x y : Value} (h : Duo w b x y) : b < w.heap.size := (Array.getElem?_eq_some_iff.1 (show w.heap[b]? = _ from h)).1
theorem Duo.step {w w' : World} {b : Nat} {x y : Value} (h : Duo w b x y) (hb : Below w.heap.size w w') : Duo w' b x y := h.below hb h.blk
/-- Words that were there stay where they were, whatever boxes are written. -/
def Wk (w w' : World) : Prop := w.heap.size ≤ w'.heap.size ∧ ∀ g off x, w.cell? ⟨g, off, none⟩ = some (.int .u64 x) → w'.cell? ⟨g, off, none⟩ = some (.int .u64 x)
theorem Wk.refl (w : World) : Wk w w := ⟨Nat.le_refl _, fun _ _ _ h => h⟩
theorem Wk.trans {w w' w'' : World} (h : Wk w w') (h' : Wk w' w'') : Wk w w'' := ⟨Nat.le_trans h.1 h'.1, fun g o x e => h'.2 g o x (h.2 g o x e)⟩
theorem Wk.of {w w' : World} (h : Below w.heap.size w w') : Wk w w' := by
  refine ⟨h.size, fun g off x e => ?_⟩
  have hg : g < w.heap.size := by
    by_cases q : g < w.heap.size
    · exact q
    · simp [World.cell?, Array.getElem?_eq_none (Nat.le_of_not_lt q)] at e
  simpa [World.cell?, h.block g hg] using e
theorem Wk.set {w : World} {p : Addr} {u v : Value} (h : w.cell? p = some u) (hu : ∀ x, u ≠ .int .u64 x) : Wk w (w.setCell p v) := by
  refine ⟨by simp, fun g off x e => ?_⟩
  rw [World.cell?_setCell_other _ _ _ _ (fun q => ?_)]
  · exact e
  · subst q
    rw [h] at e
    exact hu x (by simpa using e)
/-- A box of an integer: what is written into it touches no words. -/
theorem Duo.wk {w : World} {b : Nat} {n : Bool} {a : Option Addr} {l c : Nat} (h : Duo w b (.bool n) (.slice a l c)) (x y : Value) : Wk w ((w.setCell ⟨b, 0, none⟩ x).setCell ⟨b, 1, none⟩ y) := by
  refine (Wk.set h.c0 (by simp)).trans (Wk.set (u := .slice a l c) ?_ (by simp))
  rw [World.cell?_setCell_other _ _ _ _ (by simp)]
  exact h.c1
theorem Sl.wk {w w' : World} {v : Value} {xs : List Int} (h : Sl w.heap.size w v xs) (k : Wk w w') : Sl w'.heap.size w' v xs := by
  obtain ⟨h1, a, cap, h2, h3, h4, h5⟩ := h
  refine ⟨h1, a, cap, h2, h3, h4, ?_⟩
  rcases h5 with e | ⟨b, off, e, hb, hc⟩
  · exact .inl e
  · exact .inr ⟨b, off, e, Nat.lt_of_lt_of_le hb k.1, fun j hj => k.2 _ _ _ (hc j hj)⟩
theorem Zi.wk {w w' : World} {v : Value} {z : Int} {k : Nat} (h : Zi w v z k) (b : Wk w w') : Zi w' v z k := by
  obtain ⟨n, xs, a, c, h1, h2, h3, h4⟩ := h
  exact ⟨n, xs, a, c, h1, h2.wk b, h3, h4⟩
theorem Zc.wk {w w' : World} {v : Value} {z : Int} {k : Nat} (h : Zc w v z k) (b : Wk w w') : Zc w' v z k := by
  obtain ⟨n, xs, a, c, h1, h2, h3⟩ := h
  exact ⟨n, xs, a, c, h1, h2.wk b, h3⟩
/-- The like for rows of one's own: a box is no row. -/
theorem Row.box {w : World} {g b i : Nat} {L : List Value} {x y u : Value} (h : Row w g L) (d : Duo w b x y) : Row (w.setCell ⟨b, i, none⟩ u) g L := by
  have hne : g ≠ b := fun e => by
    subst e
    have := (show w.heap[g]? = _ from h).symm.trans (show w.heap[g]? = _ from d)
    simp at this
  exact (Below.heap_setCell w _ u g (fun e => hne (by simpa using e))).trans h
theorem Duo.set0 {w : World} {b : Nat} {x y : Value} (h : Duo w b x y) (u : Value) : Duo (w.setCell ⟨b, 0, none⟩ u) b u y := by
  have h' : w.heap[b]? = some (.cells #[x, y] 28 (0, 0)) := h
  have hlt : b < w.heap.size := h.blk
  have e : w.heap[b] = .cells #[x, y] 28 (0, 0) := (Array.getElem?_eq_some_iff.1 h').2
  unfold Duo World.setCell
  simp [hlt, Array.getElem_modify, e]
theorem Mine.box {B : Nat} {w : World} {v : Value} {zs : List Int} (h : Mine B w v zs) {b : Nat} {x y : Value} (d : Duo w b x y) (u u' : Value) : Mine B ((w.setCell ⟨b, 0, none⟩ u).setCell ⟨b, 1, none⟩ u') v zs := by
  obtain ⟨hw, h | ⟨g, r, cap, h1, h2, h3, h4, h5, h6⟩⟩ := h
  · exact ⟨hw, .inl h⟩
  · exact ⟨hw, .inr ⟨g, r, cap, h1, h2, h3, h4, h5, (h6.box d).box (d.set0 u)⟩⟩
theorem Zm.box {B : Nat} {w : World} {v : Value} {z : Int} {k : Nat} (h : Zm B w v z k) {b : Nat} {x y : Value} (d : Duo w b x y) (u u' : Value) : Zm B ((w.setCell ⟨b, 0, none⟩ u).setCell ⟨b, 1, none⟩ u') v z k := by
  obtain ⟨n, xs, a, c, h1, h2, h3⟩ := h
  exact ⟨n, xs, a, c, h1, h2.box d u u', h3⟩
theorem Duo.box {w : World} {b b' : Nat} {x y : Value} (h : Duo w b x y) (hne : b' ≠ b) (u u' : Value) : Duo ((w.setCell ⟨b', 0, none⟩ u).setCell ⟨b', 1, none⟩ u') b x y := (h.ne hne).ne hne
end Go.Proofs.Ytbalcjjeakdjkaa
