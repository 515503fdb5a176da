/-
  QExact0ToZlaw0: Exact0, ZDiv, ZStore, Cells6, Zlaw0, joined.
-/
import Derived.Test.YtiedmlfiboalhaaGreatQDivMod
import Derived.Test.YtiedmlfiboalhaaGreatQAlikeToShift

/- Exact0 -/
namespace Go.Proofs.YtiedmlfiboalhaaGreat
open Go.RowKit
set_option linter.unusedVariables false

end Go.Proofs.YtiedmlfiboalhaaGreat

/- ZDiv -/
namespace Go.Proofs.YtiedmlfiboalhaaGreat
open Go.RowKit
set_option linter.unusedVariables false

theorem bset {B g j : Nat} {w w' : World} {u : Value} (h : Below B w w') (hg : B ≤ g) : Below B w (w'.setCell ⟨g, j, none⟩ u) := h.setCell (p := ⟨g, j, none⟩) hg u
/-- The result of a call that answers two integers and an error. -/
theorem zback2 {f : Func} {s1 s2 s3 : Nat} (hr : f.results = #[ResultVar.cell s1 43, ResultVar.cell s2 43, ResultVar.tmp s3]) {W : World} {b b' : Nat} {x y x' y' e : Value} (h : Duo W b x y) (h' : Duo W b' x' y') (tmps : Array Value) (ht : tmps[s1]? = some (.pointer (some ⟨b, 0, none⟩))) (ht' : tmps[s2]? = some (.pointer (some ⟨b', 0, none⟩))) (he : tmps[s3]? = some e) :
    (results f tmps).run Tryz.prog W = .ok (.tuple #[.agg #[x, y], .agg #[x', y'], e]) W := by
  simp [results, hr, go_sem, ht, ht', he, h.c0, h.c1, h'.c0, h'.c1]
/-- The result of a call that answers an integer and an error. -/
theorem zback1 {f : Func} {s1 s3 : Nat} (hr : f.results = #[ResultVar.cell s1 43, ResultVar.tmp s3]) {W : World} {b : Nat} {x y e : Value} (h : Duo W b x y) (tmps : Array Value) (ht : tmps[s1]? = some (.pointer (some ⟨b, 0, none⟩))) (he : tmps[s3]? = some e) :
    (results f tmps).run Tryz.prog W = .ok (.tuple #[.agg #[x, y], e]) W := by
  simp [results, hr, go_sem, ht, he, h.c0, h.c1]
/-- Two integers and an error. -/
def GivesZ2 (E : Int) (w : World) (q r : Int) (k l : Nat) (e : Ending) (w' : World) : Prop := ∃ rq rr, e = .returned (.tuple #[rq, rr, .int .i64 E]) ∧ Zm w.heap.size w' rq q k ∧ Zm w.heap.size w' rr r l ∧ Below w.heap.size w w'
/-- An integer and an error. -/
def GivesZ1 (E : Int) (w : World) (q : Int) (k : Nat) (e : Ending) (w' : World) : Prop := ∃ rq, e = .returned (.tuple #[rq, .int .i64 E]) ∧ Zm w.heap.size w' rq q k ∧ Below w.heap.size w w'
theorem gz2_end {E : Int} {w W : World} {B b b' : Nat} {x y x' y' : Value} {q r : Int} {k l : Nat} (h : Zm B W (.agg #[x, y]) q k) (h' : Zm B W (.agg #[x', y']) r l) (hW : Below w.heap.size w W) (hb : w.heap.size ≤ b) (hB : b < B) (hb' : w.heap.size ≤ b') (hB' : b' < B) :
    GivesZ2 E w q r k l (.returned (.tuple #[.agg #[x, y], .agg #[x', y'], .int .i64 E])) ((((W.setCell ⟨b, 0, none⟩ x).setCell ⟨b, 1, none⟩ y).setCell ⟨b', 0, none⟩ x').setCell ⟨b', 1, none⟩ y') :=
  ⟨_, _, rfl, ((((h.setLow hB 0 x).setLow hB 1 y).setLow hB' 0 x').setLow hB' 1 y').mono (by omega), ((((h'.setLow hB 0 x).setLow hB 1 y).setLow hB' 0 x').setLow hB' 1 y').mono (by omega),
    (((hW.setCell (p := ⟨b, 0, none⟩) hb x).setCell (p := ⟨b, 1, none⟩) hb y).setCell (p := ⟨b', 0, none⟩) hb' x').setCell (p := ⟨b', 1, none⟩) hb' y'⟩
theorem gz1_end {E : Int} {w W : World} {B b : Nat} {x y : Value} {q : Int} {k : Nat} (h : Zm B W (.agg #[x, y]) q k) (hW : Below w.heap.size w W) (hb : w.heap.size ≤ b) (hB : b < B) :
    GivesZ1 E w q k (.returned (.tuple #[.agg #[x, y], .int .i64 E])) ((W.setCell ⟨b, 0, none⟩ x).setCell ⟨b, 1, none⟩ y) :=
  ⟨_, rfl, ((h.setLow hB 0 x).setLow hB 1 y).mono (by omega), (hW.setCell (p := ⟨b, 0, none⟩) hb x).setCell (p := ⟨b, 1, none⟩) hb y⟩
theorem Own.mine5 {B : Nat} {w : World} {v : Value} {zs : List Int} (h : Own B w v zs) : Mine B w v zs := by
  obtain ⟨hw, h1 | ⟨g, r, h1, h2, h3, h4⟩⟩ := h
  · exact ⟨hw, .inl h1⟩
  · exact ⟨hw, .inr ⟨g, r, _, h1, by omega, by omega, .inr ⟨rfl, by unfold maxLen; omega⟩, h3, h4⟩⟩
theorem wid_of_iv {n : Bool} {xs : List Int} {z : Int} (hx : WF xs) (h : iv n xs = z) : wid xs = 0 ↔ z = 0 := by
  have h1 := iv_abs hx h
  constructor
  · intro e
    have := wid_zero_val xs e
    omega
  · intro e
    by_cases q : 0 < wid xs
    · have := wid_pos_val hx q
      omega
    · omega
theorem div_iv {n m : Bool} {xs ys qs rs : List Int} (hx : WF xs) (hr : WF rs) (h : val xs = val ys * val qs + val rs) (h1 : val rs < val ys) : iv (n != m) qs = (iv n xs).tdiv (iv m ys) ∧ iv n rs = (iv n xs).tmod (iv m ys) := by
  have h0 := val_nonneg hr
  have hx0 := val_nonneg hx
  have e1 : (val xs).tdiv (val ys) = val qs := by
    rw [Int.tdiv_eq_ediv_of_nonneg hx0, h, Int.add_comm, Int.add_mul_ediv_left _ _ (by omega), Int.ediv_eq_zero_of_lt h0 h1, Int.zero_add]
  have e2 : (val xs).tmod (val ys) = val rs := by
    rw [Int.tmod_eq_emod_of_nonneg hx0, h, Int.mul_add_emod_self_left, Int.emod_eq_of_lt h0 h1]
  cases n <;> cases m <;> simp [iv, Int.neg_tdiv, Int.tdiv_neg, Int.neg_tmod, Int.tmod_neg, e1, e2]

set_option maxHeartbeats 3200000 in
set_option maxRecDepth 100000 in
theorem trunc_z {w : World} {v u : Value} {z y : Int} {k l : Nat} (h0 : Zi w v z k) (h1 : Zi w u y l) (hy : y ≠ 0) (hk : k ≤ 1099511627776) (hl : l ≤ 1099511627776) :
    Calls Tryz.prog 86 #[v, u] w (GivesZ2 0 w (z.tdiv y) (z.tmod y) k k) := by
  have hv := h0
  have hu := h1
  obtain ⟨n, xs, a, c, rfl, s0, z0, k0⟩ := h0
  obtain ⟨m, ys, b, d, rfl, s1, z1, k1⟩ := h1
  obtain ⟨W0, hW0⟩ : ∃ W0, (((w.alloc (duo (.bool n) (.slice a xs.length c))).alloc (duo (.bool m) (.slice b ys.length d))).alloc zbox).alloc zbox = W0 := ⟨_, rfl⟩
  obtain ⟨b0, sz0⟩ := alloc4 w (duo (.bool n) (.slice a xs.length c)) (duo (.bool m) (.slice b ys.length d)) zbox zbox
  rw [hW0] at b0 sz0
  have p0 : Duo W0 (w.heap.size) (.bool n) (.slice a xs.length c) := by rw [← hW0]; exact duo_late (duo_late (duo_late (duo_at (by simp)) _) _) _
  have p1 : Duo W0 (w.heap.size + 1) (.bool m) (.slice b ys.length d) := by rw [← hW0]; exact duo_late (duo_late (duo_at (by simp)) _) _
  have r0 : Duo W0 (w.heap.size + 1 + 1) (.bool false) (.slice none 0 0) := by rw [← hW0]; exact duo_late (duo_at (by simp)) _
  have r1 : Duo W0 (w.heap.size + 1 + 1 + 1) (.bool false) (.slice none 0 0) := by rw [← hW0]; exact duo_at (by simp)
  have HKB : Hid (∀ w', Below W0.heap.size W0 w' → w'.cell? ⟨w.heap.size, 0, none⟩ = some (.bool n) ∧ w'.cell? ⟨w.heap.size, 1, none⟩ = some (.slice a xs.length c) ∧ w'.cell? ⟨w.heap.size + 1, 0, none⟩ = some (.bool m) ∧ w'.cell? ⟨w.heap.size + 1, 1, none⟩ = some (.slice b ys.length d)) := fun w' h => ⟨(p0.below h (by omega)).c0, (p0.below h (by omega)).c1, (p1.below h (by omega)).c0, (p1.below h (by omega)).c1⟩
  have HKR : Hid (∀ w', Below W0.heap.size W0 w' → Duo w' (w.heap.size + 1 + 1) (.bool false) (.slice none 0 0) ∧ Duo w' (w.heap.size + 1 + 1 + 1) (.bool false) (.slice none 0 0)) := fun w' h => ⟨r0.below h (by omega), r1.below h (by omega)⟩
  obtain ⟨i0, i1, i2, i3⟩ := HKB.out W0 (Below.refl _ _)
  have EW := hid hW0
  have B0 := hid b0
  have HD := hid (divMod_any (s0.now b0) (s1.now b0) (fun e => hy ((wid_of_iv s1.1 z1).1 e)) (by omega) (by omega))
  have HV : Hid (∀ qs rs, Canon rs → val xs = val ys * val qs + val rs → val rs < val ys → iv (n != m) qs = z.tdiv y ∧ iv n rs = z.tmod y) := fun qs rs hr h h1 => by
    rw [← z0, ← z1]
    exact div_iv s0.1 hr.1 h h1
  have q0 : ((0 : Int) != 0) = false := rfl
  clear hv hu s0 s1 z0 z1 p0 p1 r0 r1 hW0 b0
  go_enter Tryz.func86, Tryz.ntmps86
  go_wp2_with fail
  rw [EW.out]
  refine HD.out.mono ?_
  rintro e w1 ⟨qs, rs, q, r, rfl, hoq, hor, hcq, hcr, hv, hlt, hlq, hlr, _, b1⟩
  obtain ⟨qa, qc, rfl⟩ := hoq.form
  obtain ⟨ra, rc, rfl⟩ := hor.form
  have MQ := hid hoq.mine5
  have MR := hid hor.mine5
  have HVV := hid (HV.out qs rs hcr hv hlt)
  have HP1 := hid b1
  obtain ⟨c10, c11, c12, c13⟩ := HKB.out w1 b1
  have HKC : Hid (∀ w', Below w1.heap.size w1 w' → w'.cell? ⟨w.heap.size, 0, none⟩ = some (.bool n) ∧ w'.cell? ⟨w.heap.size, 1, none⟩ = some (.slice a xs.length c) ∧ w'.cell? ⟨w.heap.size + 1, 0, none⟩ = some (.bool m) ∧ w'.cell? ⟨w.heap.size + 1, 1, none⟩ = some (.slice b ys.length d)) := fun w' h => HKB.out w' (below_step HP1.out h)
  clear hoq hor hv hlt b1 HD HV i0 i1 i2 i3
  go_wp2_with fail
  go_region_held3 (fun w' => w'.cell? ⟨w.heap.size, 0, none⟩ = some (.bool n) ∧ w'.cell? ⟨w.heap.size, 1, none⟩ = some (.slice a xs.length c) ∧ w'.cell? ⟨w.heap.size + 1, 0, none⟩ = some (.bool m) ∧ w'.cell? ⟨w.heap.size + 1, 1, none⟩ = some (.slice b ys.length d))
    (first
      | ((try dsimp only); refine ⟨?_, ?_, ?_, ?_⟩ <;> with_reducible (repeat (refine box_ne (by omega) ?_)) <;> with_reducible assumption)
      | (refine HKC.out _ ?_; repeat (first | with_reducible exact HP3.out | with_reducible exact HP2.out | with_reducible exact Below.refl _ _ | with_reducible apply Below.drew)))
    (first
      | (have _ := HP2; go_at_call 78; refine (signed_any _ n rs.length ra rc MR.out.len).mono ?_; rintro e3 w3 ⟨rfl, b3⟩; have HB3 : Hid (Below w2.heap.size w2 w3) := below_step (w0 := w2) (by repeat (first | exact Below.refl _ _ | apply Below.drew)) b3; have HP3 := hid (below_step HP2.out HB3.out); obtain ⟨c30, c31, c32, c33⟩ := HKC.out w3 HP3.out; have RR := hid (HKR.out w3 (below_step HP1.out HP3.out)); have y0 := RR.out.1.c0; have y1 := RR.out.1.c1; have y2 := RR.out.2.c0; have y3 := RR.out.2.c1; have f0 := RR.out.1.fz 0; have f1 := RR.out.1.fz 1; have f2 := RR.out.2.fz 0; have f3 := RR.out.2.fz 1)
      | (go_at_call 78; refine (signed_any _ (n != m) qs.length qa qc MQ.out.len).mono ?_; rintro e2 w2 ⟨rfl, b2⟩; have HP2 : Hid (Below w1.heap.size w1 w2) := below_step (w0 := w1) (by repeat (first | exact Below.refl _ _ | apply Below.drew)) b2; obtain ⟨c20, c21, c22, c23⟩ := HKC.out w2 HP2.out))
  all_goals go_wp2
  all_goals exact bodyPost_ret (zback2 Tryz.results86 (((RR.out.1.set _ _).ne (by omega)).ne (by omega)) (((RR.out.2.ne (by omega)).ne (by omega)).set _ _) _ (by rfl) (by rfl) (by rfl)) rfl (by rw [← HVV.out.1, ← HVV.out.2]; exact gz2_end (B := W0.heap.size) (zm_of (MQ.out.below HP3.out) hcq (by omega)) (zm_of (MR.out.below HP3.out) hcr (by omega)) (below_step B0.out (below_step HP1.out HP3.out)) (by omega) (by omega) (by omega) (by omega))

end Go.Proofs.YtiedmlfiboalhaaGreat

/- ZStore -/
namespace Go.Proofs.YtiedmlfiboalhaaGreat
open Go.RowKit
set_option linter.unusedVariables false

/-- An integer in least form, wherever its words lie. -/
def Zc (w : World) (v : Value) (z : Int) (k : Nat) : Prop :=
  ∃ n zs a c, v = .agg #[.bool n, .slice a zs.length c] ∧ Sl w.heap.size w (.slice a zs.length c) zs ∧ Canon zs ∧ (zs = [] → n = false) ∧ iv n zs = z ∧ zs.length ≤ k
theorem Zm.zc {B : Nat} {w : World} {v : Value} {z : Int} {k : Nat} (h : Zm B w v z k) : Zc w v z k := by
  obtain ⟨n, xs, a, c, h1, h2, h3, h4, h5, h6⟩ := h
  exact ⟨n, xs, a, c, h1, h2.sl, h3, h4, h5, h6⟩
theorem Zc.zi {w : World} {v : Value} {z : Int} {k : Nat} (h : Zc w v z k) : Zi w v z k := by
  obtain ⟨n, xs, a, c, h1, h2, h3, h4, h5, h6⟩ := h
  exact ⟨n, xs, a, c, h1, h2, h5, h6⟩
theorem Zc.now {w w' : World} {v : Value} {z : Int} {k : Nat} (h : Zc w v z k) (hb : Below w.heap.size w w') : Zc w' v z k := by
  obtain ⟨n, xs, a, c, h1, h2, h3, h4, h5, h6⟩ := h
  exact ⟨n, xs, a, c, h1, h2.now hb, h3, h4, h5, h6⟩
theorem Zi.lt {w : World} {v : Value} {z : Int} {k : Nat} (h : Zi w v z k) : (z.natAbs : Int) < pw k := by
  obtain ⟨n, xs, a, c, h1, h2, h5, h6⟩ := h
  have e := val_nonneg h2.1
  have e2 := val_lt_pw h2.1
  have e3 := pw_up h6
  cases n <;> simp [iv] at h5 <;> omega
theorem Duo.blk {w : World} {b : Nat} {x y : Value} (h : Duo w b x y) : b < w.heap.size := (Array.getElem?_eq_some_iff.1 (show w.heap[b]? = _ from h)).1
theorem Duo.step {w w' : World} {b : Nat} {x y : Value} (h : Duo w b x y) (hb : Below w.heap.size w w') : Duo w' b x y := h.below hb h.blk
/-- Words that were there stay where they were, whatever boxes are written. -/
def Wk (w w' : World) : Prop := w.heap.size ≤ w'.heap.size ∧ ∀ g off x, w.cell? ⟨g, off, none⟩ = some (.int .u64 x) → w'.cell? ⟨g, off, none⟩ = some (.int .u64 x)
theorem Wk.refl (w : World) : Wk w w := ⟨Nat.le_refl _, fun _ _ _ h => h⟩
theorem Wk.trans {w w' w'' : World} (h : Wk w w') (h' : Wk w' w'') : Wk w w'' := ⟨Nat.le_trans h.1 h'.1, fun g o x e => h'.2 g o x (h.2 g o x e)⟩
theorem Wk.of {w w' : World} (h : Below w.heap.size w w') : Wk w w' := by
  refine ⟨h.size, fun g off x e => ?_⟩
  have hg : g < w.heap.size := by
    by_cases q : g < w.heap.size
    · exact q
    · simp [World.cell?, Array.getElem?_eq_none (Nat.le_of_not_lt q)] at e
  simpa [World.cell?, h.block g hg] using e
theorem Wk.set {w : World} {p : Addr} {u v : Value} (h : w.cell? p = some u) (hu : ∀ x, u ≠ .int .u64 x) : Wk w (w.setCell p v) := by
  refine ⟨by simp, fun g off x e => ?_⟩
  rw [World.cell?_setCell_other _ _ _ _ (fun q => ?_)]
  · exact e
  · subst q
    rw [h] at e
    exact hu x (by simpa using e)
/-- A box of an integer: what is written into it touches no words. -/
theorem Duo.wk {w : World} {b : Nat} {n : Bool} {a : Option Addr} {l c : Nat} (h : Duo w b (.bool n) (.slice a l c)) (x y : Value) : Wk w ((w.setCell ⟨b, 0, none⟩ x).setCell ⟨b, 1, none⟩ y) := by
  refine (Wk.set h.c0 (by simp)).trans (Wk.set (u := .slice a l c) ?_ (by simp))
  rw [World.cell?_setCell_other _ _ _ _ (by simp)]
  exact h.c1
theorem Sl.wk {w w' : World} {v : Value} {xs : List Int} (h : Sl w.heap.size w v xs) (k : Wk w w') : Sl w'.heap.size w' v xs := by
  obtain ⟨h1, a, cap, h2, h3, h4, h5⟩ := h
  refine ⟨h1, a, cap, h2, h3, h4, ?_⟩
  rcases h5 with e | ⟨b, off, e, hb, hc⟩
  · exact .inl e
  · exact .inr ⟨b, off, e, Nat.lt_of_lt_of_le hb k.1, fun j hj => k.2 _ _ _ (hc j hj)⟩
theorem Zi.wk {w w' : World} {v : Value} {z : Int} {k : Nat} (h : Zi w v z k) (b : Wk w w') : Zi w' v z k := by
  obtain ⟨n, xs, a, c, h1, h2, h3, h4⟩ := h
  exact ⟨n, xs, a, c, h1, h2.wk b, h3, h4⟩
theorem Zc.wk {w w' : World} {v : Value} {z : Int} {k : Nat} (h : Zc w v z k) (b : Wk w w') : Zc w' v z k := by
  obtain ⟨n, xs, a, c, h1, h2, h3⟩ := h
  exact ⟨n, xs, a, c, h1, h2.wk b, h3⟩
/-- The like for rows of one's own: a box is no row. -/
theorem Row.box {w : World} {g b i : Nat} {L : List Value} {x y u : Value} (h : Row w g L) (d : Duo w b x y) : Row (w.setCell ⟨b, i, none⟩ u) g L := by
  have hne : g ≠ b := fun e => by
    subst e
    have := (show w.heap[g]? = _ from h).symm.trans (show w.heap[g]? = _ from d)
    simp at this
  exact (Below.heap_setCell w _ u g (fun e => hne (by simpa using e))).trans h
theorem Duo.set0 {w : World} {b : Nat} {x y : Value} (h : Duo w b x y) (u : Value) : Duo (w.setCell ⟨b, 0, none⟩ u) b u y := by
  have h' : w.heap[b]? = some (.cells #[x, y] 43 (0, 0)) := h
  have hlt : b < w.heap.size := h.blk
  have e : w.heap[b] = .cells #[x, y] 43 (0, 0) := (Array.getElem?_eq_some_iff.1 h').2
  unfold Duo World.setCell
  simp [hlt, Array.getElem_modify, e]
theorem Mine.box {B : Nat} {w : World} {v : Value} {zs : List Int} (h : Mine B w v zs) {b : Nat} {x y : Value} (d : Duo w b x y) (u u' : Value) : Mine B ((w.setCell ⟨b, 0, none⟩ u).setCell ⟨b, 1, none⟩ u') v zs := by
  obtain ⟨hw, h | ⟨g, r, cap, h1, h2, h3, h4, h5, h6⟩⟩ := h
  · exact ⟨hw, .inl h⟩
  · exact ⟨hw, .inr ⟨g, r, cap, h1, h2, h3, h4, h5, (h6.box d).box (d.set0 u)⟩⟩
theorem Zm.box {B : Nat} {w : World} {v : Value} {z : Int} {k : Nat} (h : Zm B w v z k) {b : Nat} {x y : Value} (d : Duo w b x y) (u u' : Value) : Zm B ((w.setCell ⟨b, 0, none⟩ u).setCell ⟨b, 1, none⟩ u') v z k := by
  obtain ⟨n, xs, a, c, h1, h2, h3⟩ := h
  exact ⟨n, xs, a, c, h1, h2.box d u u', h3⟩
theorem Duo.box {w : World} {b b' : Nat} {x y : Value} (h : Duo w b x y) (hne : b' ≠ b) (u u' : Value) : Duo ((w.setCell ⟨b', 0, none⟩ u).setCell ⟨b', 1, none⟩ u') b x y := (h.ne hne).ne hne
end Go.Proofs.YtiedmlfiboalhaaGreat

/- Cells6 -/
namespace Go.Proofs.YtiedmlfiboalhaaGreat
open Go.RowKit
set_option linter.unusedVariables false

/-- A block of these cells. -/
def Cel (w : World) (b : Nat) (T : TypeId) (L : List Value) : Prop := w.heap[b]? = some (.cells L.toArray T (0, 0))
theorem Cel.blk {w : World} {b : Nat} {T : TypeId} {L : List Value} (h : Cel w b T L) : b < w.heap.size := (Array.getElem?_eq_some_iff.1 (show w.heap[b]? = _ from h)).1
theorem Cel.at {w : World} {b : Nat} {T : TypeId} {L : List Value} (h : Cel w b T L) {i : Nat} {v : Value} (e : L[i]? = some v) : w.cell? ⟨b, i, none⟩ = some v := by
  simp [World.cell?, show w.heap[b]? = _ from h, e]
theorem Cel.fz {w : World} {b : Nat} {T : TypeId} {L : List Value} (h : Cel w b T L) (i : Nat) : w.frozen? ⟨b, i, none⟩ = false := by simp [World.frozen?, show w.heap[b]? = _ from h]
theorem Cel.step {w w' : World} {b : Nat} {T : TypeId} {L : List Value} (h : Cel w b T L) (hb : Below w.heap.size w w') : Cel w' b T L := (hb.block b h.blk).trans h
theorem Cel.new (w : World) (T : TypeId) (L : List Value) : Cel (w.alloc (.cells L.toArray T)) w.heap.size T L := heap_alloc_new w _
theorem Cel.ne {w : World} {b b' i : Nat} {T : TypeId} {L : List Value} {u : Value} (h : Cel w b T L) (hne : b' ≠ b) : Cel (w.setCell ⟨b', i, none⟩ u) b T L := by
  have e : (w.setCell ⟨b', i, none⟩ u).heap[b]? = w.heap[b]? := Below.heap_setCell w _ u b (fun e => by simp at e; omega)
  exact e.trans h
theorem Cel.set {w : World} {b : Nat} {T : TypeId} {L : List Value} (h : Cel w b T L) (i : Nat) (v : Value) : Cel (w.setCell ⟨b, i, none⟩ v) b T (L.set i v) := by
  have h' : w.heap[b]? = some (.cells L.toArray T (0, 0)) := h
  have hlt : b < w.heap.size := h.blk
  have e : w.heap[b] = .cells L.toArray T (0, 0) := (Array.getElem?_eq_some_iff.1 h').2
  unfold Cel World.setCell
  simp [hlt, Array.getElem_modify, e]
theorem Cel.wk {w : World} {b : Nat} {T : TypeId} {L : List Value} (h : Cel w b T L) {i : Nat} {u : Value} (e : L[i]? = some u) (hu : ∀ x, u ≠ .int .u64 x) (v : Value) : Wk w (w.setCell ⟨b, i, none⟩ v) := Wk.set (h.at e) hu

/-- What holds no word may be written over. -/
def NoW (u : Value) : Prop := ∀ x, u ≠ .int .u64 x
theorem noB (n : Bool) : NoW (.bool n) := by intro x; simp
theorem noS (a : Option Addr) (l c : Nat) : NoW (.slice a l c) := by intro x; simp
end Go.Proofs.YtiedmlfiboalhaaGreat

/- Zlaw0 -/
namespace Go.Proofs.YtiedmlfiboalhaaGreat
open Go.RowKit
set_option linter.unusedVariables false

end Go.Proofs.YtiedmlfiboalhaaGreat
