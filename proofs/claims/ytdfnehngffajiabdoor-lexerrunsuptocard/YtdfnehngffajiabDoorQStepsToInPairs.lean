/-
  QStepsToInPairs: Steps, MAdd, InPairs, joined.
-/
import Derived.Test.YtdfnehngffajiabDoorQMulAll
import Derived.Test.YtdfnehngffajiabDoorQLitsToTakeFrom
import Derived.Test.YtdfnehngffajiabDoorQCut4

/- Steps -/
namespace Go.Proofs.YtdfnehngffajiabDoor
open Go.RowKit
set_option linter.unusedVariables false

theorem Makes.step {w w1 w' : World} {s : Int} {e : Ending} (hb : Below w.heap.size w w1) (h : Makes w1 s e w') : Makes w s e w' := by
  obtain ⟨zs, r, rfl, m1, m2, m3, m4⟩ := h
  exact ⟨zs, r, rfl, m1.mono hb.size, m2, m3, below_step hb m4⟩
theorem added_makes {w w' : World} {s : Int} {k : Nat} {e : Ending} (h : Added w s k e w') : Makes w s e w' := by
  obtain ⟨zs, cap, r, rfl, hc, hv, hk, hl, hm, hr, hb, hs⟩ := h
  exact ⟨zs, _, rfl, ⟨hc.1, .inr ⟨_, r, cap, Nat.le_refl _, by omega, by omega, by unfold maxLen; omega, rfl, hr⟩⟩, hc, hv, hb⟩

end Go.Proofs.YtdfnehngffajiabDoor

/- MAdd -/
namespace Go.Proofs.YtdfnehngffajiabDoor
open Go.RowKit
set_option linter.unusedVariables false

theorem mulAdd_any {w : World} {va vb vc : Value} {xs ys zs : List Int} (ha : Sl w.heap.size w va xs) (hb : Sl w.heap.size w vb ys) (hc : Sl w.heap.size w vc zs) (hl : xs.length + ys.length < 35184372088832) (hl' : zs.length < 35184372088832) :
    Calls Tryd.prog 47 #[va, vb, vc] w (Makes w (val xs * val ys + val zs)) := by
  have HM := hid (mul_now ha hb (by omega))
  clear ha hb
  go_enter Tryd.func47, Tryd.ntmps47
  go_wp2_with fail
  refine HM.out.mono ?_
  rintro e w1 ⟨P, pa, pc, rfl, p0, cp, HP, lp, k1⟩
  have c1 := hc.now k1
  replace HP := hid HP
  clear hc HM
  go_wp2_with fail
  refine (add_any p0 c1 (by omega) (by omega)).mono ?_
  rintro e w2 hm
  have hm' := (added_makes hm).step k1
  obtain ⟨qs, r, rfl, m1, m2, m3, m4⟩ := hm'
  clear hm
  go_wp2
  go_ret
  exact ⟨qs, r, rfl, m1, m2, by rw [m3, HP.out], m4⟩
theorem mulAdd_now {w : World} {va vb vc : Value} {xs ys zs : List Int} (ha : Sl w.heap.size w va xs) (hb : Sl w.heap.size w vb ys) (hc : Sl w.heap.size w vc zs) (hl : xs.length + ys.length < 35184372088832) (hl' : zs.length < 35184372088832) :
    Calls Tryd.prog 47 #[va, vb, vc] w fun e w' => ∃ qs a cap, e = .returned (.slice a qs.length cap) ∧ Sl w'.heap.size w' (.slice a qs.length cap) qs ∧ Canon qs ∧ val qs = val xs * val ys + val zs ∧ Below w.heap.size w w' :=
  (mulAdd_any ha hb hc hl hl').mono fun e w' ⟨qs, r, h1, m1, m2, m3, m4⟩ => by
    obtain ⟨a, cap, rfl⟩ := m1.form
    exact ⟨qs, a, cap, h1, m1.sl, m2, m3, m4⟩
end Go.Proofs.YtdfnehngffajiabDoor

/- InPairs -/
namespace Go.Proofs.YtdfnehngffajiabDoor
open Go.RowKit
set_option linter.unusedVariables false

/-- Lists with rows of their own stay as they are. -/
def KM (w w' : World) : Prop := ∀ (u : Value) (zs : List Int) {E : Nat}, Mine E w u zs → Mine E w' u zs
theorem KM.refl (w : World) : KM w w := fun _ _ _ h => h
theorem KM.trans {a b c : World} (h : KM a b) (k : KM b c) : KM a c := fun u zs _ m => k u zs (h u zs m)
theorem KM.below {w w' : World} (h : Below w.heap.size w w') : KM w w' := fun u zs _ m => m.below h
theorem KM.setV {w : World} {g j : Nat} {L : List Value} {x : Value} (h : RowV w g L) : KM w (w.setCell ⟨g, j, none⟩ x) := fun u zs _ m => by
  obtain ⟨hw, m | ⟨b, r, cap, h1, h2, h3, h4, h5, h6⟩⟩ := m
  · exact ⟨hw, .inl m⟩
  · refine ⟨hw, .inr ⟨b, r, cap, h1, h2, h3, h4, h5, ?_⟩⟩
    have hne : b ≠ g := fun e => by
      subst e
      have := h6.symm.trans h
      simp at this
    unfold Row at h6 ⊢
    rw [heap_setCell_other w _ _ _ hne]
    exact h6
theorem madeCells_vals (m : Nat) : madeCells (Value.slice none 0 0).cells m = (List.replicate m (Value.slice none 0 0)).toArray := by
  apply Array.ext
  · simp [size_madeCells]
  · intro i h1 h2
    simp [madeCells, Value.cells, Nat.mod_one]
theorem wpList_make_vals (w : World) {ops : Array Oper} {rest : List Oper} {o : Oper} {a : Act} {Q : Exit → Act → World → Prop}
    (hg : o.guard = none) (l c : Operand) (hop : o.op = Op.makeSlice 73 l c)
    (L C : Int) (n : Nat) (hl : a.eval l = .int .i64 L) (hc : a.eval c = .int .i64 C) (hL : L = (n : Int)) (hC : C = (n : Int)) (hm : n ≤ 2000000000)
    (hK : ∀ w', Hid (RowV w' w.heap.size (List.replicate n (.slice none 0 0))) → Hid (Below w.heap.size w w') → wpList Tryd.prog ops Q rest (a.put o.dst (.slice (some ⟨w.heap.size, 0, none⟩) n n)) w') :
    wpList Tryd.prog ops Q (o :: rest) a w := by
  refine wpList_plain hg fun K hK' => ?_
  obtain ⟨i, hi, hz, hs, hb⟩ := info_parts Tryd.infoLs
  have hrun := run_make (P := Tryd.prog) w 73 34 i (.slice none 0 0) Tryd.underlying73 hi hz .i64 .i64 n n (by omega) (by omega) (by rw [hb]; omega) (by omega)
  subst hL
  subst hC
  rw [hs, Nat.mul_one, Int.toNat_natCast, madeCells_vals] at hrun
  unfold Oper.wp
  simp [execOp, hop, hl, hc, hrun, Result.andThen]
  refine hK' _ _ (hK _ ?_ ((Below.refl _ _).alloc (Nat.le_refl _) _))
  unfold Hid RowV
  simpa using heap_alloc_new w _
/-- As Bunch, the lists too from block B on. -/
def BunchM (B : Nat) (w : World) (v : Value) (Ps : List (List Int)) : Prop :=
  ∃ Us : List Value, w.ownsRow B 34 1 v Us.length Us ∧ Us.length = Ps.length ∧ ∀ j (h : j < Us.length) (h' : j < Ps.length), Mine B w Us[j] Ps[j]
theorem BunchM.bunch {B : Nat} {w : World} {v : Value} {Ps : List (List Int)} (h : BunchM B w v Ps) : Bunch B w v Ps := by
  obtain ⟨Us, h1, h2, h3⟩ := h
  exact ⟨Us, h1, h2, fun j a b => (h3 j a b).mono (Nat.zero_le _)⟩
theorem BunchM.sz {B : Nat} {w : World} {a : Option Addr} {n cap : Nat} {Ps : List (List Int)} (h : BunchM B w (.slice a n cap) Ps) (hn : 0 < Ps.length) : ∃ g, a = some ⟨g, 0, none⟩ ∧ ∀ j (h : j < Ps.length), ∃ u, w.cell? ⟨g, j, none⟩ = some u ∧ Mine B w u Ps[j] := by
  obtain ⟨Us, h1, h2, h3⟩ := h
  have h1' := h1
  obtain ⟨q1, ⟨q2, q3⟩ | ⟨g, cap', cur, q2, q3, q4, q5⟩⟩ := h1
  · omega
  · simp only [Value.slice.injEq] at q2
    obtain ⟨rfl, rfl, rfl⟩ := q2
    refine ⟨g, rfl, fun j hj => ?_⟩
    have hj' : j < Us.length := by omega
    have := World.ownsRow.cells h1' (g := g) rfl j Us[j] (by simp [hj'])
    rw [head_add] at this
    exact ⟨Us[j], this, h3 j hj' hj⟩
/-- What inPairs answers; B0 is the base of the parts' rows. -/
def Paired (B0 : Nat) (w : World) (P : Nat) (Ps : List (List Int)) (e : Ending) (w' : World) : Prop :=
  ∃ Qs a cap, e = .returned (.slice a Qs.length cap) ∧ BunchM B0 w' (.slice a Qs.length cap) Qs ∧ Qs.length = (Ps.length + 1) / 2 ∧ (∀ i (h : i < Qs.length), Canon Qs[i] ∧ vn Qs[i] = vn (Ps.getD (2 * i + 1) []) * P + vn (Ps.getD (2 * i) [])) ∧ KM w w' ∧ Below B0 w w'
/-- The loop: the first k pairs are made. -/
structure Pairing (B0 : Nat) (w wr : World) (g m : Nat) (Vs : List Value) (Qs : List (List Int)) (P : Nat) (Ps : List (List Int)) (vp : Value) (ps : List Int) (pv : Value) : Prop where
  row : RowV wr g Vs
  vl : Vs.length = m
  ql : Qs.length ≤ m
  each : ∀ i (h : i < Qs.length) (h' : i < Vs.length), Mine B0 wr Vs[i] Qs[i] ∧ Canon Qs[i] ∧ vn Qs[i] = vn (Ps.getD (2 * i + 1) []) * P + vn (Ps.getD (2 * i) [])
  pw : Mine 0 wr vp ps
  bu : Bunch B0 wr pv Ps
  km : KM w wr
  be : Below B0 w wr
theorem Bunch.sz {B : Nat} {w : World} {a : Option Addr} {n cap : Nat} {Ps : List (List Int)} (h : Bunch B w (.slice a n cap) Ps) (hn : 0 < Ps.length) : ∃ g, a = some ⟨g, 0, none⟩ ∧ B ≤ g ∧ g < w.heap.size ∧ n = Ps.length ∧ n ≤ cap ∧ ∀ j (h : j < Ps.length), ∃ u, w.cell? ⟨g, j, none⟩ = some u ∧ Mine 0 w u Ps[j] := by
  obtain ⟨Us, h1, h2, h3⟩ := h
  have h1' := h1
  obtain ⟨q1, ⟨q2, q3⟩ | ⟨g, cap', cur, q2, q3, q4, q5⟩⟩ := h1
  · omega
  · simp only [Value.slice.injEq] at q2
    obtain ⟨rfl, rfl, rfl⟩ := q2
    refine ⟨g, rfl, q3, (Array.getElem?_eq_some_iff.1 q4).1, h2, q5.1, fun j hj => ?_⟩
    have hj' : j < Us.length := by omega
    have := World.ownsRow.cells h1' (g := g) rfl j Us[j] (by simp [hj'])
    rw [head_add] at this
    exact ⟨Us[j], this, h3 j hj' hj⟩
/-- A store into another row of slices. -/
theorem Bunch.setV {B : Nat} {w : World} {g j : Nat} {L : List Value} {x : Value} {a : Option Addr} {n cap : Nat} {Ps : List (List Int)} (h : Bunch B w (.slice a n cap) Ps) (hr : RowV w g L) (hne : ∀ b, a = some ⟨b, 0, none⟩ → b ≠ g) : Bunch B (w.setCell ⟨g, j, none⟩ x) (.slice a n cap) Ps := by
  obtain ⟨Us, h1, h2, h3⟩ := h
  refine ⟨Us, ?_, h2, fun j a b => KM.setV hr _ _ (h3 j a b)⟩
  obtain ⟨q1, q2 | ⟨b, cap', cur, q2, q3, q4, q5⟩⟩ := h1
  · exact ⟨q1, .inl q2⟩
  · simp only [Value.slice.injEq] at q2
    obtain ⟨rfl, rfl, rfl⟩ := q2
    refine ⟨q1, .inr ⟨b, _, cur, rfl, q3, ?_, q5⟩⟩
    rw [heap_setCell_other w _ _ _ (hne b rfl)]
    exact q4
theorem Pairing.step {B0 : Nat} {w wr w' : World} {g m : Nat} {Vs : List Value} {Qs : List (List Int)} {P : Nat} {Ps : List (List Int)} {vp : Value} {ps : List Int} {a : Option Addr} {n cap : Nat} {u : Value} {zs : List Int}
    (h : Pairing B0 w wr g m Vs Qs P Ps vp ps (.slice a n cap)) (hb : Below wr.heap.size wr w') (hB : B0 ≤ g) (hk : Qs.length < m) (hu : Mine B0 w' u zs) (hc : Canon zs) (hv : vn zs = vn (Ps.getD (2 * Qs.length + 1) []) * P + vn (Ps.getD (2 * Qs.length) [])) (hne : ∀ b, a = some ⟨b, 0, none⟩ → b ≠ g) (hsz : B0 ≤ wr.heap.size) :
    Pairing B0 w (w'.setCell ⟨g, Qs.length, none⟩ u) g m (Vs.set Qs.length u) (Qs ++ [zs]) P Ps vp ps (.slice a n cap) := by
  have r' := h.row.now hb
  have kms : KM w' (w'.setCell ⟨g, Qs.length, none⟩ u) := KM.setV r'
  refine ⟨r'.set _ _, by simpa using h.vl, by simp; omega, fun i h1 h2 => ?_, kms _ _ (KM.below hb _ _ h.pw), (h.bu.now hb).setV r' hne, (h.km.trans (KM.below hb)).trans kms, (h.be.trans (hb.mono hsz)).setCell (p := ⟨g, Qs.length, none⟩) hB u⟩
  rcases Nat.lt_or_ge i Qs.length with q | q
  · obtain ⟨e1, e2, e3⟩ := h.each i q (by simpa using h2)
    rw [List.getElem_append_left q, List.getElem_set_ne (by omega)]
    exact ⟨kms _ _ (KM.below hb _ _ e1), e2, e3⟩
  · obtain rfl : i = Qs.length := by simp at h1; omega
    rw [List.getElem_append_right (by omega), List.getElem_set_self]
    simp only [Nat.sub_self, List.getElem_cons_zero]
    exact ⟨kms _ _ hu, hc, hv⟩
end Go.Proofs.YtdfnehngffajiabDoor
