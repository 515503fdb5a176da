/-
  QWh7ToZStore: Wh7, ZStore, joined.
-/
import Derived.Test.YtbamffggnnacaaaDoorQWz7ToDivPure
import Derived.Test.YtbamffggnnacaaaDoorQZDiv

/- Wh7 -/
namespace Go.Proofs.YtbamffggnnacaaaDoor
open Go.RowKit
set_option linter.unusedVariables false

/-- A finite float64 times 2^n, toward zero. -/
def swn (b : Nat) (n : Int) : Int := if ng b = true then -(mv (fv (rg b)) (n - 1074) : Int) else (mv (fv (rg b)) (n - 1074) : Int)
theorem swn_zero (b : Nat) : swn b 0 = swv b := by
  unfold swn swv
  rw [wv_mv]; rfl
theorem swn_iv {b c e : Nat} {n : Int} {zs : List Int} (hz : WF zs) (hv : vn zs = mv c ((e : Int) - 1074 + n)) (h4 : fv (rg b) = c * 2 ^ e) : iv (ng b && decide (rg b ≠ 0)) zs = swn b n := by
  have hm : mv (fv (rg b)) (n - 1074) = vn zs := by rw [h4, mv_shift, hv]; congr 1; omega
  unfold swn
  rw [hm]
  have hvv := val_vn hz
  by_cases h0 : rg b = 0
  · have : vn zs = 0 := by rw [← hm, h0, fv_zero, mv_zero]
    rw [this] at hvv ⊢
    unfold iv
    rw [hvv]
    split <;> split <;> rfl
  · unfold iv
    rw [hvv, decide_eq_true h0, Bool.and_true]
set_option maxHeartbeats 1600000 in
theorem whole_any {b : Nat} (h : b < 2 ^ 64) (hf : Fin7 b) {n : Int} (h1 : -4096 ≤ n) (h2 : n ≤ 4096) (w : World) :
    Calls Tryd.prog 34 #[.float .f64 b, .int .i64 n] w (GivesZ w (swn b n) 16386) := by
  obtain ⟨W0, hW0⟩ : ∃ W0, w.alloc zbox = W0 := ⟨_, rfl⟩
  have b0 : Below w.heap.size w W0 := by rw [← hW0]; exact (Below.refl _ _).alloc (Nat.le_refl _) _
  have sz0 : W0.heap.size = w.heap.size + 1 := by rw [← hW0]; simp
  have pR : Duo W0 w.heap.size (.bool false) (.slice none 0 0) := by rw [← hW0]; exact duo_at rfl
  have HP := hid (parts_any h W0)
  have lt : (FloatKind.f64.format.order b 0 == some .lt) = (ng b && decide (rg b ≠ 0)) := order_zero_lt hf
  have EW := hid hW0
  have B0 := hid b0
  have PR := hid pR
  have HS : Hid (∀ (c e : Nat) (zs : List Int), WF zs → vn zs = mv c ((e : Int) - 1074 + n) → fv (rg b) = c * 2 ^ e → iv (ng b && decide (rg b ≠ 0)) zs = swn b n) := fun c e zs q1 q2 q3 => swn_iv q1 q2 q3
  have SZ := hid sz0
  clear hW0 b0 pR hf sz0
  generalize swn b n = Z at *
  generalize (ng b && decide (rg b ≠ 0)) = N at *
  go_enter Tryd.func34, Tryd.ntmps34
  go_wp2_with fail
  rw [EW.out]
  clear EW
  refine HP.out.mono ?_
  rintro e1 w1 ⟨e, c, rfl, hw1, hc, hrg, h3, h4, h5⟩
  have b1 : Below W0.heap.size W0 w1 := by rw [hw1]; exact (Below.refl _ _).alloc (Nat.le_refl _) _
  have s1 := word_one W0 c ⟨by omega, by omega⟩
  rw [← hw1] at s1
  have HM := hid (moved_any s1 (n := (e : Int) - 1074 + n) (by omega) (by omega) (by simp))
  have B1 := hid b1
  have H4 := hid h4
  clear HP hw1 b1 s1 hrg h3 h4 h hc
  go_wp2_with fail
  refine HM.out.mono ?_
  rintro e2 w2 ⟨zs, r, rfl, o2, q2, v2, l2, b2⟩
  obtain ⟨a2, c2, rfl⟩ := o2.form
  have hz : Zi w2 (.agg #[.bool N, .slice a2 zs.length c2]) Z 16386 :=
    ⟨_, zs, a2, c2, rfl, o2.sl, HS.out c e zs q2.1 (by rw [v2]; congr 1) H4.out, by simpa using l2⟩
  have HL := hid (least_z hz)
  have B2 := hid (below_step B1.out b2)
  clear HM hz o2 q2 v2 l2 b2 HS H4
  go_wp2_with fail
  refine HL.out.mono ?_
  rintro e3 w3 ⟨r3, rfl, m3, b3⟩
  obtain ⟨n3, x3, a3, c3, rfl, -⟩ := id m3
  have B3 := hid (below_step B2.out b3)
  have M3 := hid (m3.mono B2.out.size)
  have P3 := hid (PR.out.below B3.out (by have := SZ.out; omega))
  have r0 := P3.out.c0
  have r1 := P3.out.c1
  have f0 := P3.out.fz 0
  have f1 := P3.out.fz 1
  clear HL m3 b3
  go_wp2
  exact bodyPost_ret (zback Tryd.results34 (P3.out.set _ _) _ (by rfl)) rfl (gz_end M3.out (below_step B0.out B3.out) (Nat.le_refl _) (by have := SZ.out; omega))
set_option maxHeartbeats 1600000 in
theorem whole_fin {b : Nat} (h : b < 2 ^ 64) (hf : Fin7 b) (w : World) :
    Calls Tryd.prog 13 #[.float .f64 b] w (GivesZ1 0 w (swv b) 16386) := by
  obtain ⟨W0, hW0⟩ : ∃ W0, w.alloc zbox = W0 := ⟨_, rfl⟩
  have b0 : Below w.heap.size w W0 := by rw [← hW0]; exact (Below.refl _ _).alloc (Nat.le_refl _) _
  have sz0 : W0.heap.size = w.heap.size + 1 := by rw [← hW0]; simp
  have pR : Duo W0 w.heap.size (.bool false) (.slice none 0 0) := by rw [← hW0]; exact duo_at rfl
  have HF := hid (isFinite_any h W0)
  rw [decide_eq_true hf] at HF
  have HC := hid (whole_any h hf (n := 0) (by omega) (by omega) W0)
  rw [swn_zero] at HC
  have EW := hid hW0
  have B0 := hid b0
  have PR := hid pR
  clear hW0 b0 pR hf
  go_enter Tryd.func13, Tryd.ntmps13
  go_wp2_with fail
  rw [EW.out]
  clear EW
  refine HF.out.mono ?_
  rintro e1 w1 ⟨rfl, rfl⟩
  go_wp2_with fail
  refine HC.out.mono ?_
  rintro e3 w3 ⟨r3, rfl, m3, b3⟩
  obtain ⟨n3, x3, a3, c3, rfl, -⟩ := id m3
  have B3 := hid b3
  have M3 := hid m3
  have P3 := hid (PR.out.below B3.out (by omega))
  have r0 := P3.out.c0
  have r1 := P3.out.c1
  have f0 := P3.out.fz 0
  have f1 := P3.out.fz 1
  clear HC m3 b3
  go_wp2
  exact bodyPost_ret (zback1 Tryd.results13 (P3.out.set _ _) _ (by rfl) (by rfl)) rfl (gz1_end M3.out (below_step B0.out B3.out) (Nat.le_refl _) (by omega))
set_option maxHeartbeats 1600000 in
theorem whole_not {b : Nat} (h : b < 2 ^ 64) (hf : ¬ Fin7 b) (w : World) :
    Calls Tryd.prog 13 #[.float .f64 b] w (GivesZ1 3 w 0 0) := by
  obtain ⟨W0, hW0⟩ : ∃ W0, w.alloc zbox = W0 := ⟨_, rfl⟩
  have b0 : Below w.heap.size w W0 := by rw [← hW0]; exact (Below.refl _ _).alloc (Nat.le_refl _) _
  have sz0 : W0.heap.size = w.heap.size + 1 := by rw [← hW0]; simp
  have pR : Duo W0 w.heap.size (.bool false) (.slice none 0 0) := by rw [← hW0]; exact duo_at rfl
  have HF := hid (isFinite_any h W0)
  rw [decide_eq_false hf] at HF
  have r0 := pR.c0
  have r1 := pR.c1
  have f0 := pR.fz 0
  have f1 := pR.fz 1
  have EW := hid hW0
  have B0 := hid b0
  have PR := hid pR
  clear hW0 b0 pR hf
  go_enter Tryd.func13, Tryd.ntmps13
  go_wp2_with fail
  rw [EW.out]
  clear EW
  refine HF.out.mono ?_
  rintro e1 w1 ⟨rfl, rfl⟩
  go_wp2
  exact bodyPost_ret (zback1 Tryd.results13 (PR.out.set _ _) _ (by rfl) (by rfl)) rfl (gz1_end (zm_nil _ _ 0) B0.out (Nat.le_refl _) (show w.heap.size < w1.heap.size by omega))
end Go.Proofs.YtbamffggnnacaaaDoor

/- ZStore -/
namespace Go.Proofs.YtbamffggnnacaaaDoor
open Go.RowKit
set_option linter.unusedVariables false

/-- An integer in least form, wherever its words lie. -/
def Zc (w : World) (v : Value) (z : Int) (k : Nat) : Prop :=
  ∃ n zs a c, v = .agg #[.bool n, .slice a zs.length c] ∧ Sl w.heap.size w (.slice a zs.length c) zs ∧ Canon zs ∧ (zs = [] → n = false) ∧ iv n zs = z ∧ zs.length ≤ k
theorem Zm.zc {B : Nat} {w : World} {v : Value} {z : Int} {k : Nat} (h : Zm B w v z k) : Zc w v z k := by
  obtain ⟨n, xs, a, c, h1, h2, h3, h4, h5, h6⟩ := h
  exact ⟨n, xs, a, c, h1, h2.sl, h3, h4, h5, h6⟩
theorem Zc.zi {w : World} {v : Value} {z : Int} {k : Nat} (h : Zc w v z k) : Zi w v z k := by
  obtain ⟨n, xs, a, c, h1, h2, h3, h4, h5, h6⟩ := h
  exact ⟨n, xs, a, c, h1, h2, h5, h6⟩
theorem Zc.now {w w' : World} {v : Value} {z : Int} {k : Nat} (h : Zc w v z k) (hb : Below w.heap.size w w') : Zc w' v z k := by
  obtain ⟨n, xs, a, c, h1, h2, h3, h4, h5, h6⟩ := h
  exact ⟨n, xs, a, c, h1, h2.now hb, h3, h4, h5, h6⟩
/-- A number below pw l has at most l words. -/
theorem Zm.fit {B : Nat} {w : World} {v : Value} {z : Int} {k l : Nat} (h : Zm B w v z k) (hz : (z.natAbs : Int) < pw l) : Zm B w v z l := by
  obtain ⟨n, xs, a, c, h1, h2, h3, h4, h5, h6⟩ := h
  have e := val_nonneg h3.1
  refine ⟨n, xs, a, c, h1, h2, h3, h4, h5, canon_len h3 ?_⟩
  cases n <;> simp [iv] at h5 <;> omega
theorem Zi.lt {w : World} {v : Value} {z : Int} {k : Nat} (h : Zi w v z k) : (z.natAbs : Int) < pw k := by
  obtain ⟨n, xs, a, c, h1, h2, h5, h6⟩ := h
  have e := val_nonneg h2.1
  have e2 := val_lt_pw h2.1
  have e3 := pw_up h6
  cases n <;> simp [iv] at h5 <;> omega
theorem Duo.blk {w : World} {b : Nat} {x y : Value} (h : Duo w b x y) : b < w.heap.size := (Array.getElem?_eq_some_iff.1 (show w.heap[b]? = _ from h)).1
theorem Duo.step {w w' : World} {b : Nat} {x y : Value} (h : Duo w b x y) (hb : Below w.heap.size w w') : Duo w' b x y := h.below hb h.blk
/-- Words that were there stay where they were, whatever boxes are written. -/
def Wk (w w' : World) : Prop := w.heap.size ≤ w'.heap.size ∧ ∀ g off x, w.cell? ⟨g, off, none⟩ = some (.int .u64 x) → w'.cell? ⟨g, off, none⟩ = some (.int .u64 x)
theorem Wk.refl (w : World) : Wk w w := ⟨Nat.le_refl _, fun _ _ _ h => h⟩
theorem Wk.trans {w w' w'' : World} (h : Wk w w') (h' : Wk w' w'') : Wk w w'' := ⟨Nat.le_trans h.1 h'.1, fun g o x e => h'.2 g o x (h.2 g o x e)⟩
theorem Wk.of {w w' : World} (h : Below w.heap.size w w') : Wk w w' := by
  refine ⟨h.size, fun g off x e => ?_⟩
  have hg : g < w.heap.size := by
    by_cases q : g < w.heap.size
    · exact q
    · simp [World.cell?, Array.getElem?_eq_none (Nat.le_of_not_lt q)] at e
  simpa [World.cell?, h.block g hg] using e
theorem Wk.set {w : World} {p : Addr} {u v : Value} (h : w.cell? p = some u) (hu : ∀ x, u ≠ .int .u64 x) : Wk w (w.setCell p v) := by
  refine ⟨by simp, fun g off x e => ?_⟩
  rw [World.cell?_setCell_other _ _ _ _ (fun q => ?_)]
  · exact e
  · subst q
    rw [h] at e
    exact hu x (by simpa using e)
/-- A box of an integer: what is written into it touches no words. -/
theorem Duo.wk {w : World} {b : Nat} {n : Bool} {a : Option Addr} {l c : Nat} (h : Duo w b (.bool n) (.slice a l c)) (x y : Value) : Wk w ((w.setCell ⟨b, 0, none⟩ x).setCell ⟨b, 1, none⟩ y) := by
  refine (Wk.set h.c0 (by simp)).trans (Wk.set (u := .slice a l c) ?_ (by simp))
  rw [World.cell?_setCell_other _ _ _ _ (by simp)]
  exact h.c1
theorem Sl.wk {w w' : World} {v : Value} {xs : List Int} (h : Sl w.heap.size w v xs) (k : Wk w w') : Sl w'.heap.size w' v xs := by
  obtain ⟨h1, a, cap, h2, h3, h4, h5⟩ := h
  refine ⟨h1, a, cap, h2, h3, h4, ?_⟩
  rcases h5 with e | ⟨b, off, e, hb, hc⟩
  · exact .inl e
  · exact .inr ⟨b, off, e, Nat.lt_of_lt_of_le hb k.1, fun j hj => k.2 _ _ _ (hc j hj)⟩
theorem Zi.wk {w w' : World} {v : Value} {z : Int} {k : Nat} (h : Zi w v z k) (b : Wk w w') : Zi w' v z k := by
  obtain ⟨n, xs, a, c, h1, h2, h3, h4⟩ := h
  exact ⟨n, xs, a, c, h1, h2.wk b, h3, h4⟩
theorem Zc.wk {w w' : World} {v : Value} {z : Int} {k : Nat} (h : Zc w v z k) (b : Wk w w') : Zc w' v z k := by
  obtain ⟨n, xs, a, c, h1, h2, h3⟩ := h
  exact ⟨n, xs, a, c, h1, h2.wk b, h3⟩
/-- The like for rows of one's own: a box is no row. -/
theorem Row.box {w : World} {g b i : Nat} {L : List Value} {x y u : Value} (h : Row w g L) (d : Duo w b x y) : Row (w.setCell ⟨b, i, none⟩ u) g L := by
  have hne : g ≠ b := fun e => by
    subst e
    have := (show w.heap[g]? = _ from h).symm.trans (show w.heap[g]? = _ from d)
    simp at this
  exact (Below.heap_setCell w _ u g (fun e => hne (by simpa using e))).trans h
theorem Duo.set0 {w : World} {b : Nat} {x y : Value} (h : Duo w b x y) (u : Value) : Duo (w.setCell ⟨b, 0, none⟩ u) b u y := by
  have h' : w.heap[b]? = some (.cells #[x, y] 24 (0, 0)) := h
  have hlt : b < w.heap.size := h.blk
  have e : w.heap[b] = .cells #[x, y] 24 (0, 0) := (Array.getElem?_eq_some_iff.1 h').2
  unfold Duo World.setCell
  simp [hlt, Array.getElem_modify, e]
theorem Mine.box {B : Nat} {w : World} {v : Value} {zs : List Int} (h : Mine B w v zs) {b : Nat} {x y : Value} (d : Duo w b x y) (u u' : Value) : Mine B ((w.setCell ⟨b, 0, none⟩ u).setCell ⟨b, 1, none⟩ u') v zs := by
  obtain ⟨hw, h | ⟨g, r, cap, h1, h2, h3, h4, h5, h6⟩⟩ := h
  · exact ⟨hw, .inl h⟩
  · exact ⟨hw, .inr ⟨g, r, cap, h1, h2, h3, h4, h5, (h6.box d).box (d.set0 u)⟩⟩
theorem Zm.box {B : Nat} {w : World} {v : Value} {z : Int} {k : Nat} (h : Zm B w v z k) {b : Nat} {x y : Value} (d : Duo w b x y) (u u' : Value) : Zm B ((w.setCell ⟨b, 0, none⟩ u).setCell ⟨b, 1, none⟩ u') v z k := by
  obtain ⟨n, xs, a, c, h1, h2, h3⟩ := h
  exact ⟨n, xs, a, c, h1, h2.box d u u', h3⟩
theorem Duo.box {w : World} {b b' : Nat} {x y : Value} (h : Duo w b x y) (hne : b' ≠ b) (u u' : Value) : Duo ((w.setCell ⟨b', 0, none⟩ u).setCell ⟨b', 1, none⟩ u') b x y := (h.ne hne).ne hne
end Go.Proofs.YtbamffggnnacaaaDoor
