/-
  QMul9ToUnit9: Mul9, Unit9, joined.
-/
import Derived.Test.YtlhbcdapinacgaaGreatQProd9ToChk9

/- Mul9 -/
namespace Go.Proofs.YtlhbcdapinacgaaGreat
open Go.RowKit
set_option linter.unusedVariables false

abbrev twoO (r m m' c : Nat) (x y : Value) : Obj := .cells #[.int .i64 (r : Int), .int .i64 (m : Int), x, .int .i64 (m' : Int), .int .i64 (c : Int), y] 24
theorem ms_two {w W : World} {r m m' c la lb ca cb ka kb : Nat} {aa ab : Option Addr} {xs ys : List Int} (hW : w.alloc (twoO r m m' c (.slice aa la ca) (.slice ab lb cb)) = W) (ha : Mx w (matv r m (.slice aa la ca)) r m xs ka) (hb : Mx w (matv m' c (.slice ab lb cb)) m' c ys kb) : Ms W (.slice (some ⟨w.heap.size, 0, none⟩) 2 2) 2 := by
  have b0 := (alo1 w (twoO r m m' c (.slice aa la ca) (.slice ab lb cb))).1
  rw [hW] at b0
  have P : Cel W w.heap.size 24 [.int .i64 (r : Int), .int .i64 (m : Int), .slice aa la ca, .int .i64 (m' : Int), .int .i64 (c : Int), .slice ab lb cb] := by rw [← hW]; exact Cel.new w _ _
  refine ⟨_, _, rfl, by omega, .inr ⟨w.heap.size, 0, rfl, fun j hj => ?_⟩⟩
  match j, hj with
  | 0, _ => exact ⟨r, m, la, ca, aa, P.at rfl, P.at rfl, P.at rfl, xs, ka, ha.now b0⟩
  | 1, _ => exact ⟨m', c, lb, cb, ab, P.at rfl, P.at rfl, P.at rfl, ys, kb, hb.now b0⟩
/-- What a call answers that gives a matrix and an error. -/
def GivesMO (w : World) (r c : Nat) (zs : List Int) (k : Nat) (e : Ending) (w' : World) : Prop := ∃ v, e = .returned (.tuple #[v, .int .i64 0]) ∧ Mc w' v r c zs k ∧ Below w.heap.size w w'
abbrev mzero : Value := .agg #[.int .i64 0, .int .i64 0, .slice none 0 0]
def GivesME (w : World) (E : Int) (e : Ending) (w' : World) : Prop := e = .returned (.tuple #[mzero, .int .i64 E]) ∧ Below w.heap.size w w'
/-- Three boxes: two matrices and the answer's. -/
theorem three_boxes {w W0 : World} {o1 o2 : List Value} (hW : ((w.alloc (.cells o1.toArray 24)).alloc (.cells o2.toArray 24)).alloc mbox = W0) :
    Cel W0 w.heap.size 24 o1 ∧ Cel W0 (w.heap.size + 1) 24 o2 ∧ Cel W0 (w.heap.size + 1 + 1) 24 [.int .i64 0, .int .i64 0, .slice none 0 0] := by
  refine ⟨?_, ?_, ?_⟩
  · rw [← hW]
    exact (((Cel.new w 24 o1).step ((Below.refl _ _).alloc (Nat.le_refl _) _)).step ((Below.refl _ _).alloc (Nat.le_refl _) _))
  · rw [← hW]
    have := ((Cel.new (w.alloc (.cells o1.toArray 24)) 24 o2).step ((Below.refl _ _).alloc (Nat.le_refl _) mbox))
    simpa using this
  · rw [← hW]
    have := Cel.new ((w.alloc (.cells o1.toArray 24)).alloc (.cells o2.toArray 24)) 24 [.int .i64 0, .int .i64 0, .slice none 0 0]
    simpa using this
theorem Mc.wk {w : World} {v : Value} {r c : Nat} {zs : List Int} {k b : Nat} (h : Mc w v r c zs k) {x0 x1 : Int} {a : Option Addr} {l n : Nat} (d : Cel w b 24 [.int .i64 x0, .int .i64 x1, .slice a l n]) (y0 y1 y2 : Value) : Mc (put3 w b y0 y1 y2) v r c zs k := by
  obtain ⟨at_, ps, h1, h2, h3, h4⟩ := h
  refine ⟨at_, ps, h1, ?_, h3.wk (d.wk3 _ _ _), h4⟩
  obtain ⟨a', c', e1, e2, e3, e4, e5⟩ := h2
  refine ⟨a', c', e1, e2, e3, e4, ?_⟩
  rcases e5 with e5 | ⟨b', off, e6, e7, e8, e9⟩
  · exact .inl e5
  · refine .inr ⟨b', off, e6, e7, by simpa using e8, fun j p hp => ?_⟩
    have hne : b ≠ b' := by
      intro e
      subst e
      have hz : zs[j]? = some (zs[j]'(by rw [← h3.1]; exact (List.getElem?_eq_some_iff.1 hp).1)) := List.getElem?_eq_getElem _
      obtain ⟨n1, a1, l1, c1, q⟩ := (h3.2 j p _ hp hz).zi.isI
      have q1 := (e9 j p hp).1
      rw [show p.1 = .bool n1 by rw [Prod.mk.injEq] at q; exact q.1] at q1
      have q2 : w.heap[b]? = some (.cells #[.int .i64 x0, .int .i64 x1, .slice a l n] 24 (0, 0)) := d
      simp only [World.cell?, q2] at q1
      simp at q1
      generalize off + j * 2 = o at q1
      match o, q1 with
      | 0, q1 => simp at q1
      | 1, q1 => simp at q1
      | 2, q1 => simp at q1
      | o + 3, q1 => simp at q1
    have e : ∀ o, (put3 w b y0 y1 y2).cell? ⟨b', o, none⟩ = w.cell? ⟨b', o, none⟩ := fun o => by
      rw [World.cell?_setCell_other _ _ _ _ (by simp <;> omega), World.cell?_setCell_other _ _ _ _ (by simp <;> omega), World.cell?_setCell_other _ _ _ _ (by simp <;> omega)]
    rw [e, e]
    exact e9 j p hp
set_option maxHeartbeats 1600000 in
set_option maxRecDepth 100000 in
theorem mul_yes {w : World} {va vb : Value} {r m c : Nat} {xs ys : List Int} {k l : Nat} (ha : Mx w va r m xs k) (hb : Mx w vb m c ys l) (hk : k + l + m < 35184372088832) :
    Calls Tryz.prog 19 #[va, vb] w (GivesMO w r c (prodL r m c xs ys) (k + l + m)) := by
  obtain ⟨aa, ca, rfl, hr, hm⟩ := ha.form
  obtain ⟨ab, cb, rfl, -, hc⟩ := hb.form
  generalize r * m = la at *
  generalize m * c = lb at *
  obtain ⟨W0, hW⟩ : ∃ W0, ((w.alloc (matO r m (.slice aa la ca))).alloc (matO m c (.slice ab lb cb))).alloc mbox = W0 := ⟨_, rfl⟩
  obtain ⟨b0, sz0⟩ := alloc3 w (matO r m (.slice aa la ca)) (matO m c (.slice ab lb cb)) mbox
  rw [hW] at b0 sz0
  obtain ⟨pa, pb, pr⟩ := three_boxes (o1 := matc r m (.slice aa la ca)) (o2 := matc m c (.slice ab lb cb)) hW
  obtain ⟨V1, hV⟩ : ∃ V1, W0.alloc (twoO r m m c (.slice aa la ca) (.slice ab lb cb)) = V1 := ⟨_, rfl⟩
  obtain ⟨b1, sz1⟩ := alo1 W0 (twoO r m m c (.slice aa la ca) (.slice ab lb cb))
  rw [hV] at b1 sz1
  have HCK := hid (checkAll_yes (ms_two hV (ha.now b0) (hb.now b0)))
  have A1 := hid ((ha.now b0).now b1)
  have B1 := hid ((hb.now b0).now b1)
  have x0 := pa.at (i := 0) rfl
  have x1 := pa.at (i := 1) rfl
  have x2 := pa.at (i := 2) rfl
  have y0 := pb.at (i := 0) rfl
  have y1 := pb.at (i := 1) rfl
  have y2 := pb.at (i := 2) rfl
  rw [← hW] at x0 x1 x2 y0 y1 y2
  have PA := hid (pa.step b1)
  have PB := hid (pb.step b1)
  have PR := hid (pr.step b1)
  have G1 := hid (below_step b0 b1)
  have SZ := hid sz0
  have HK := hid hk
  have EQ : Hid ((((w.alloc (matO r m (.slice aa la ca))).alloc (matO m c (.slice ab lb cb))).alloc mbox).alloc (twoO r m m c (.slice aa la ca) (.slice ab lb cb)) = V1) := by unfold Hid; rw [hW, hV]
  have ES : Hid ((((w.alloc (matO r m (.slice aa la ca))).alloc (matO m c (.slice ab lb cb))).alloc mbox).heap.size = W0.heap.size) := by unfold Hid; rw [hW]
  have q0 : ((m : Int) != (m : Int)) = false := by simp
  have SW : Hid (W0.heap.size = w.heap.size + 1 + 1 + 1) := sz0
  rw [SW.out] at HCK
  clear ha hb hk b0 sz0 hW pa pb pr b1 sz1 hV
  go_enter Tryz.func19, Tryz.ntmps19
  go_wp2_with fail
  rw [EQ.out]
  refine HCK.out.mono ?_
  rintro e w1 ⟨rfl, b⟩
  have HPR := hid (product_any (A1.out.now b) (B1.out.now b) HK.out)
  have PR1 := hid (PR.out.step b)
  have G2 := hid (below_step G1.out b)
  have z0 := (PA.out.step b).at (i := 0) rfl
  have z1 := (PA.out.step b).at (i := 1) rfl
  have z2 := (PA.out.step b).at (i := 2) rfl
  have t0 := (PB.out.step b).at (i := 0) rfl
  have t1 := (PB.out.step b).at (i := 1) rfl
  have t2 := (PB.out.step b).at (i := 2) rfl
  clear HCK b x0 x1 x2 y0 y1 y2 EQ ES PA PB PR G1
  go_wp2_with fail
  refine HPR.out.mono ?_
  rintro e w2 ⟨v, rfl, hmc, b⟩
  obtain ⟨av, cv, rfl, -, -⟩ := hmc.mx.form
  have PR2 := hid (PR1.out.step b)
  have G3 := hid (below_step G2.out b)
  generalize r * c = lv at *
  have FIN : Hid (GivesMO w r c (prodL r m c xs ys) (k + l + m) (.returned (.tuple #[.agg #[.int .i64 (r : Int), .int .i64 (c : Int), .slice av lv cv], .int .i64 0])) (put3 w2 (w.heap.size + 1 + 1) (.int .i64 (r : Int)) (.int .i64 (c : Int)) (.slice av lv cv))) :=
    ⟨_, rfl, hmc.wk PR2.out _ _ _, below_put3 G3.out (by omega) _ _ _⟩
  have PF := hid (PR2.out.put3 (.int .i64 (r : Int)) (.int .i64 (c : Int)) (.slice av lv cv))
  have r0 := PR2.out.at (i := 0) rfl
  have r1 := PR2.out.at (i := 1) rfl
  have r2 := PR2.out.at (i := 2) rfl
  have f0 := PR2.out.fz 0
  have f1 := PR2.out.fz 1
  have f2 := PR2.out.fz 2
  clear HPR hmc b z0 z1 z2 t0 t1 t2
  go_wp2
  exact bodyPost_ret (mback1 Tryz.results19 PF.out _ (by rfl) (by rfl)) rfl FIN.out
set_option maxHeartbeats 1600000 in
set_option maxRecDepth 100000 in
theorem mul_no {w : World} {va vb : Value} {r m m' c : Nat} {xs ys : List Int} {k l : Nat} (ha : Mx w va r m xs k) (hb : Mx w vb m' c ys l) (hne : m ≠ m') :
    Calls Tryz.prog 19 #[va, vb] w (GivesME w 2) := by
  obtain ⟨aa, ca, rfl, hr, hm⟩ := ha.form
  obtain ⟨ab, cb, rfl, -, hc⟩ := hb.form
  generalize r * m = la at *
  generalize m' * c = lb at *
  obtain ⟨W0, hW⟩ : ∃ W0, ((w.alloc (matO r m (.slice aa la ca))).alloc (matO m' c (.slice ab lb cb))).alloc mbox = W0 := ⟨_, rfl⟩
  obtain ⟨b0, sz0⟩ := alloc3 w (matO r m (.slice aa la ca)) (matO m' c (.slice ab lb cb)) mbox
  rw [hW] at b0 sz0
  obtain ⟨pa, pb, pr⟩ := three_boxes (o1 := matc r m (.slice aa la ca)) (o2 := matc m' c (.slice ab lb cb)) hW
  obtain ⟨V1, hV⟩ : ∃ V1, W0.alloc (twoO r m m' c (.slice aa la ca) (.slice ab lb cb)) = V1 := ⟨_, rfl⟩
  obtain ⟨b1, sz1⟩ := alo1 W0 (twoO r m m' c (.slice aa la ca) (.slice ab lb cb))
  rw [hV] at b1 sz1
  have HCK := hid (checkAll_yes (ms_two hV (ha.now b0) (hb.now b0)))
  have x0 := pa.at (i := 0) rfl
  have x1 := pa.at (i := 1) rfl
  have x2 := pa.at (i := 2) rfl
  have y0 := pb.at (i := 0) rfl
  have y1 := pb.at (i := 1) rfl
  have y2 := pb.at (i := 2) rfl
  rw [← hW] at x0 x1 x2 y0 y1 y2
  have PA := hid (pa.step b1)
  have PB := hid (pb.step b1)
  have PR := hid (pr.step b1)
  have G1 := hid (below_step b0 b1)
  have EQ : Hid ((((w.alloc (matO r m (.slice aa la ca))).alloc (matO m' c (.slice ab lb cb))).alloc mbox).alloc (twoO r m m' c (.slice aa la ca) (.slice ab lb cb)) = V1) := by unfold Hid; rw [hW, hV]
  have q0 : ((m : Int) != (m' : Int)) = true := by simp; omega
  have SW : Hid (W0.heap.size = w.heap.size + 1 + 1 + 1) := sz0
  rw [SW.out] at HCK
  clear ha hb b0 sz0 hW pa pb pr b1 sz1 hV hne
  go_enter Tryz.func19, Tryz.ntmps19
  go_wp2_with fail
  rw [EQ.out]
  refine HCK.out.mono ?_
  rintro e w1 ⟨rfl, b⟩
  have PR1 := hid (PR.out.step b)
  have G2 := hid (below_step G1.out b)
  have z0 := (PA.out.step b).at (i := 0) rfl
  have z1 := (PA.out.step b).at (i := 1) rfl
  have z2 := (PA.out.step b).at (i := 2) rfl
  have t0 := (PB.out.step b).at (i := 0) rfl
  have t1 := (PB.out.step b).at (i := 1) rfl
  have t2 := (PB.out.step b).at (i := 2) rfl
  have r0 := PR1.out.at (i := 0) rfl
  have r1 := PR1.out.at (i := 1) rfl
  have r2 := PR1.out.at (i := 2) rfl
  have f0 := PR1.out.fz 0
  have f1 := PR1.out.fz 1
  have f2 := PR1.out.fz 2
  have FIN : Hid (GivesME w 2 (.returned (.tuple #[mzero, .int .i64 2])) (put3 w1 (w.heap.size + 1 + 1) (.int .i64 0) (.int .i64 0) (.slice none 0 0))) := ⟨rfl, below_put3 G2.out (by omega) _ _ _⟩
  have PF := hid (PR1.out.put3 (.int .i64 0) (.int .i64 0) (.slice none 0 0))
  clear HCK b x0 x1 x2 y0 y1 y2 EQ PA PB PR G1 PR1
  go_wp2
  exact bodyPost_ret (mback1 Tryz.results19 PF.out _ (by rfl) (by rfl)) rfl FIN.out
end Go.Proofs.YtlhbcdapinacgaaGreat

/- Unit9 -/
namespace Go.Proofs.YtlhbcdapinacgaaGreat
open Go.RowKit
set_option linter.unusedVariables false

theorem Arr.ne {w : World} {g b i : Nat} {u : Value} {ps : List (Value × Value)} (h : Arr w g ps) (hne : b ≠ g) : Arr (w.setCell ⟨b, i, none⟩ u) g ps := ⟨h.1.ne hne, h.2⟩
theorem Arr.put3 {w : World} {g b : Nat} {ps : List (Value × Value)} (h : Arr w g ps) (hne : b ≠ g) (y0 y1 y2 : Value) : Arr (put3 w b y0 y1 y2) g ps := ((h.ne hne).ne hne).ne hne
def Zeroed (w : World) (r c n : Nat) (e : Ending) (w' : World) : Prop := ∃ g, e = .returned (.tuple #[matv r c (.slice (some ⟨g, 0, none⟩) n n), .int .i64 0]) ∧ w.heap.size ≤ g ∧ Arr w' g (List.replicate n zpair) ∧ Below w.heap.size w w'
def unitL (n : Nat) : Nat → List Int
  | 0 => List.replicate (n * n) 0
  | i + 1 => (unitL n i).set (i * n + i) 1
theorem unitL_length (n : Nat) : ∀ i, (unitL n i).length = n * n
  | 0 => by simp [unitL]
  | i + 1 => by simp [unitL, unitL_length n i]
theorem Zcs.set {w w' : World} {ps : List (Value × Value)} {zs : List Int} {k t : Nat} {x y : Value} {z : Int} (h : Zcs w ps zs k) (hk : Wk w w') (hz : Zc w' (.agg #[x, y]) z k) : Zcs w' (ps.set t (x, y)) (zs.set t z) k := by
  refine ⟨by simp [h.1], fun j p q hp hq => ?_⟩
  by_cases e : j = t
  · subst e
    have h1 : j < ps.length := by simpa using (List.getElem?_eq_some_iff.1 hp).1
    rw [List.getElem?_set_self h1, Option.some.injEq] at hp
    rw [List.getElem?_set_self (by rw [← h.1]; exact h1), Option.some.injEq] at hq
    rw [← hp, ← hq]
    exact hz
  · rw [List.getElem?_set_ne (by omega)] at hp hq
    exact (h.2 j p q hp hq).wk hk
theorem zcs_zero (w : World) (n k : Nat) : Zcs w (List.replicate n zpair) (List.replicate n 0) k := by
  refine ⟨by simp, fun j p z hp hz => ?_⟩
  have e1 : p = zpair := List.eq_of_mem_replicate (List.mem_of_getElem? hp)
  have e2 : z = 0 := List.eq_of_mem_replicate (List.mem_of_getElem? hz)
  rw [e1, e2]
  exact ⟨false, [], none, 0, rfl, Sl.nil _, ⟨WF.nil, rfl⟩, fun _ => rfl, by simp [iv, val], Nat.zero_le _⟩
def UnitH (w : World) (g bu n : Nat) (gk : Nat) (s : Value) (wx : World) : Prop :=
  ∃ i : Nat, s = .int .i64 (i : Int) ∧ i ≤ n ∧ gk = n - i ∧ (∃ ps, Arr wx g ps ∧ ps.length = n * n ∧ Zcs wx ps (unitL n i) 1) ∧ Cel wx bu 24 (matc n n (.slice (some ⟨g, 0, none⟩) (n * n) (n * n))) ∧ Cel wx w.heap.size 24 [.int .i64 0, .int .i64 0, .slice none 0 0] ∧ Below w.heap.size w wx
end Go.Proofs.YtlhbcdapinacgaaGreat
