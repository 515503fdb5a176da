/-
  QAddNo9ToNil10: AddNo9, Nil10, joined.
-/
import Derived.Test.YtachdicdfhfoaaaQAdd9
import Derived.Test.YtachdicdfhfoaaaQAwake10ToCnt10
import Derived.Test.YtachdicdfhfoaaaQChk9ToMul9

/- AddNo9 -/
namespace Go.Proofs.Ytachdicdfhfoaaa
open Go.RowKit
set_option linter.unusedVariables false

set_option maxHeartbeats 800000 in
set_option maxRecDepth 100000 in
theorem sameShape_no {w : World} {r c r' c' la lb ca cb : Nat} {aa ab : Option Addr} (hne : r ≠ r' ∨ c ≠ c') :
    Calls Try.prog 80 #[matv r c (.slice aa la ca), matv r' c' (.slice ab lb cb)] w fun e w' => e = .returned (.bool false) ∧ Below w.heap.size w w' := by
  obtain ⟨W0, hW⟩ : ∃ W0, (w.alloc (matO r c (.slice aa la ca))).alloc (matO r' c' (.slice ab lb cb)) = W0 := ⟨_, rfl⟩
  obtain ⟨b0, sz0⟩ := alloc2 w (matO r c (.slice aa la ca)) (matO r' c' (.slice ab lb cb))
  rw [hW] at b0
  have pa : Cel W0 w.heap.size 24 (matc r c (.slice aa la ca)) := by
    rw [← hW]
    exact (Cel.new w 24 (matc r c (.slice aa la ca))).step ((Below.refl _ _).alloc (Nat.le_refl _) _)
  have pb : Cel W0 (w.heap.size + 1) 24 (matc r' c' (.slice ab lb cb)) := by
    rw [← hW]
    have := Cel.new (w.alloc (matO r c (.slice aa la ca))) 24 (matc r' c' (.slice ab lb cb))
    simpa using this
  have x0 := pa.at (i := 0) rfl
  have x1 := pa.at (i := 1) rfl
  have y0 := pb.at (i := 0) rfl
  have y1 := pb.at (i := 1) rfl
  rw [← hW] at x0 x1 y0 y1
  have G0 := hid b0
  have EW := hid hW
  clear b0 sz0 hW pa pb
  by_cases hr : r = r'
  · have hc : c ≠ c' := by omega
    subst hr
    have q0 : ((r : Int) == (r : Int)) = true := by simp
    have q1 : ((c : Int) == (c' : Int)) = false := by simp; omega
    clear hne hc
    go_enter Try.func80, Try.ntmps80
    go_wp2
    go_ret
    rw [EW.out]
    exact ⟨rfl, G0.out⟩
  · have q0 : ((r : Int) == (r' : Int)) = false := by simp; omega
    clear hne hr
    go_enter Try.func80, Try.ntmps80
    go_wp2
    go_ret
    rw [EW.out]
    exact ⟨rfl, G0.out⟩
set_option maxHeartbeats 1600000 in
set_option maxRecDepth 100000 in
theorem place_no {w : World} {va vb : Value} {r c r' c' : Nat} {xs ys : List Int} {k l : Nat} (ha : Mx w va r c xs k) (hb : Mx w vb r' c' ys l) (hne : r ≠ r' ∨ c ≠ c') :
    Calls Try.prog 54 #[va, vb, fnAdd] w (GivesME w 2) := by
  obtain ⟨aa, ca, rfl, hr, hc⟩ := ha.form
  obtain ⟨ab, cb, rfl, -, -⟩ := hb.form
  generalize r * c = N at *
  generalize r' * c' = N' at *
  obtain ⟨W0, hW⟩ : ∃ W0, ((w.alloc (matO r c (.slice aa N ca))).alloc (matO r' c' (.slice ab N' cb))).alloc mbox = W0 := ⟨_, rfl⟩
  obtain ⟨b0, sz0⟩ := alloc3 w (matO r c (.slice aa N ca)) (matO r' c' (.slice ab N' cb)) mbox
  rw [hW] at b0 sz0
  obtain ⟨pa, pb, pr⟩ := three_boxes (o1 := matc r c (.slice aa N ca)) (o2 := matc r' c' (.slice ab N' cb)) hW
  obtain ⟨V1, hV⟩ : ∃ V1, W0.alloc (twoO r c r' c' (.slice aa N ca) (.slice ab N' cb)) = V1 := ⟨_, rfl⟩
  obtain ⟨b1, sz1⟩ := alo1 W0 (twoO r c r' c' (.slice aa N ca) (.slice ab N' cb))
  rw [hV] at b1 sz1
  have HCK := hid (checkAll_yes (ms_two hV (ha.now b0) (hb.now b0)))
  have x0 := pa.at (i := 0) rfl
  have x1 := pa.at (i := 1) rfl
  have x2 := pa.at (i := 2) rfl
  have y0 := pb.at (i := 0) rfl
  have y1 := pb.at (i := 1) rfl
  have y2 := pb.at (i := 2) rfl
  rw [← hW] at x0 x1 x2 y0 y1 y2
  have PA := hid (pa.step b1)
  have PB := hid (pb.step b1)
  have PR := hid (pr.step b1)
  have G1 := hid (below_step b0 b1)
  have EQ : Hid ((((w.alloc (matO r c (.slice aa N ca))).alloc (matO r' c' (.slice ab N' cb))).alloc mbox).alloc (twoO r c r' c' (.slice aa N ca) (.slice ab N' cb)) = V1) := by unfold Hid; rw [hW, hV]
  have SW : Hid (W0.heap.size = w.heap.size + 1 + 1 + 1) := sz0
  rw [SW.out] at HCK
  have HNE := hid hne
  clear ha hb b0 sz0 hW pa pb pr b1 sz1 hV hne
  go_enter Try.func54, Try.ntmps54
  go_wp2_with fail
  rw [EQ.out]
  refine HCK.out.mono ?_
  rintro e w1 ⟨rfl, b⟩
  have PA1 := hid (PA.out.step b)
  have PB1 := hid (PB.out.step b)
  have PR1 := hid (PR.out.step b)
  have G2 := hid (below_step G1.out b)
  have z0 := PA1.out.at (i := 0) rfl
  have z1 := PA1.out.at (i := 1) rfl
  have z2 := PA1.out.at (i := 2) rfl
  have t0 := PB1.out.at (i := 0) rfl
  have t1 := PB1.out.at (i := 1) rfl
  have t2 := PB1.out.at (i := 2) rfl
  clear HCK b x0 x1 x2 y0 y1 y2 EQ PA PB PR G1 SW
  go_wp2_with fail
  refine (sameShape_no (w := w1) HNE.out).mono ?_
  rintro e w2 ⟨rfl, b⟩
  have PR2 := hid (PR1.out.step b)
  have G3 := hid (below_step G2.out b)
  have r0 := PR2.out.at (i := 0) rfl
  have r1 := PR2.out.at (i := 1) rfl
  have r2 := PR2.out.at (i := 2) rfl
  have f0 := PR2.out.fz 0
  have f1 := PR2.out.fz 1
  have f2 := PR2.out.fz 2
  have FIN : Hid (GivesME w 2 (.returned (.tuple #[mzero, .int .i64 2])) (put3 w2 (w.heap.size + 1 + 1) (.int .i64 0) (.int .i64 0) (.slice none 0 0))) := ⟨rfl, below_put3 G3.out (by omega) _ _ _⟩
  have PF := hid (PR2.out.put3 (.int .i64 0) (.int .i64 0) (.slice none 0 0))
  clear b z0 z1 z2 t0 t1 t2 PA1 PB1 PR1 G2 G3
  go_wp2
  exact bodyPost_ret (mback1 Try.results54 PF.out _ (by rfl) (by rfl)) rfl FIN.out
set_option maxHeartbeats 1600000 in
set_option maxRecDepth 100000 in
theorem add_no {w : World} {va vb : Value} {r c r' c' : Nat} {xs ys : List Int} {k l : Nat} (ha : Mx w va r c xs k) (hb : Mx w vb r' c' ys l) (hne : r ≠ r' ∨ c ≠ c') :
    Calls Try.prog 20 #[va, vb] w (GivesME w 2) := by
  have A0 := hid ha
  have B0 := hid hb
  obtain ⟨aa, ca, rfl, hr, hc⟩ := ha.form
  obtain ⟨ab, cb, rfl, -, -⟩ := hb.form
  generalize r * c = N at *
  generalize r' * c' = N' at *
  obtain ⟨W0, hW⟩ : ∃ W0, ((w.alloc (matO r c (.slice aa N ca))).alloc (matO r' c' (.slice ab N' cb))).alloc mbox = W0 := ⟨_, rfl⟩
  obtain ⟨b0, sz0⟩ := alloc3 w (matO r c (.slice aa N ca)) (matO r' c' (.slice ab N' cb)) mbox
  rw [hW] at b0 sz0
  obtain ⟨pa, pb, pr⟩ := three_boxes (o1 := matc r c (.slice aa N ca)) (o2 := matc r' c' (.slice ab N' cb)) hW
  have HPL := hid (place_no (A0.out.now b0) (B0.out.now b0) hne)
  have x0 := pa.at (i := 0) rfl
  have x1 := pa.at (i := 1) rfl
  have x2 := pa.at (i := 2) rfl
  have y0 := pb.at (i := 0) rfl
  have y1 := pb.at (i := 1) rfl
  have y2 := pb.at (i := 2) rfl
  rw [← hW] at x0 x1 x2 y0 y1 y2
  have PR := hid pr
  have G0 := hid b0
  have EW := hid hW
  clear ha hb hne b0 sz0 hW pa pb pr A0 B0
  go_enter Try.func20, Try.ntmps20
  go_wp2_with fail
  rw [EW.out]
  refine HPL.out.mono ?_
  rintro e w2 ⟨rfl, b⟩
  have PR2 := hid (PR.out.step b)
  have G3 := hid (below_step G0.out b)
  have FIN : Hid (GivesME w 2 (.returned (.tuple #[mzero, .int .i64 2])) (put3 w2 (w.heap.size + 1 + 1) (.int .i64 0) (.int .i64 0) (.slice none 0 0))) := ⟨rfl, below_put3 G3.out (by omega) _ _ _⟩
  have PF := hid (PR2.out.put3 (.int .i64 0) (.int .i64 0) (.slice none 0 0))
  have r0 := PR2.out.at (i := 0) rfl
  have r1 := PR2.out.at (i := 1) rfl
  have r2 := PR2.out.at (i := 2) rfl
  have f0 := PR2.out.fz 0
  have f1 := PR2.out.fz 1
  have f2 := PR2.out.fz 2
  clear HPL b x0 x1 x2 y0 y1 y2 EW
  go_wp2
  exact bodyPost_ret (mback1 Try.results20 PF.out _ (by rfl) (by rfl)) rfl FIN.out
end Go.Proofs.Ytachdicdfhfoaaa

/- Nil10 -/
namespace Go.Proofs.Ytachdicdfhfoaaa
open Go.RowKit Go.ChangeMaps Go.MapKept
set_option linter.unusedVariables false

theorem shape_nil {w : World} : Calls Try.prog 24 #[.pointer none] w (Still w (.tuple #[.int .i64 0, .int .i64 0])) := by
  go_enter Try.func24, Try.ntmps24
  go_wp2
  go_ret2
  exact ⟨rfl, rfl⟩
theorem mul_nil1 {w : World} {v : Value} : Calls Try.prog 17 #[.pointer none, v] w (Still w (.tuple #[.pointer none, .int .i64 3])) := by
  go_enter Try.func17, Try.ntmps17
  go_wp2
  go_ret2
  exact ⟨rfl, rfl⟩
theorem mul_nil2 {w : World} {p : Addr} : Calls Try.prog 17 #[.pointer (some p), .pointer none] w (Still w (.tuple #[.pointer none, .int .i64 3])) := by
  go_enter Try.func17, Try.ntmps17
  go_wp2
  go_ret2
  exact ⟨rfl, rfl⟩
theorem add_nil1 {w : World} {v : Value} : Calls Try.prog 19 #[.pointer none, v] w (Still w (.tuple #[.pointer none, .int .i64 3])) := by
  go_enter Try.func19, Try.ntmps19
  go_wp2
  go_ret2
  exact ⟨rfl, rfl⟩
theorem add_nil2 {w : World} {p : Addr} : Calls Try.prog 19 #[.pointer (some p), .pointer none] w (Still w (.tuple #[.pointer none, .int .i64 3])) := by
  go_enter Try.func19, Try.ntmps19
  go_wp2
  go_ret2
  exact ⟨rfl, rfl⟩
theorem turn_nil {w : World} : Calls Try.prog 21 #[.pointer none] w (Still w (.pointer none)) := by
  go_enter Try.func21, Try.ntmps21
  go_wp2
  go_ret
  exact ⟨rfl, rfl⟩
theorem copy_nil {w : World} : Calls Try.prog 28 #[.pointer none] w (Still w (.pointer none)) := by
  go_enter Try.func28, Try.ntmps28
  go_wp2
  go_ret
  exact ⟨rfl, rfl⟩
theorem places_nil {w : World} : Calls Try.prog 29 #[.pointer none] w (Still w (.slice none 0 0)) := by
  go_enter Try.func29, Try.ntmps29
  go_wp2
  go_ret
  exact ⟨rfl, rfl⟩
theorem swap_nil {w : World} {i j : Int} : Calls Try.prog 12 #[.pointer none, .int .i64 i, .int .i64 j] w (Still w (.int .i64 3)) := by
  have HC := hid (hasRow_nil (w := w) (i := i))
  go_enter Try.func12, Try.ntmps12
  go_wp2_with fail
  refine HC.out.mono ?_
  rintro e w' ⟨rfl, rfl⟩
  go_wp2
  go_ret
  exact ⟨rfl, rfl⟩
theorem clear_nil {w : World} {i : Int} : Calls Try.prog 13 #[.pointer none, .int .i64 i] w (Still w (.int .i64 3)) := by
  have HC := hid (hasRow_nil (w := w) (i := i))
  go_enter Try.func13, Try.ntmps13
  go_wp2_with fail
  refine HC.out.mono ?_
  rintro e w' ⟨rfl, rfl⟩
  go_wp2
  go_ret
  exact ⟨rfl, rfl⟩
theorem set_nil {w : World} {i j : Int} {m : Bool} {a : Option Addr} {l c : Nat} : Calls Try.prog 10 #[.pointer none, .int .i64 i, .int .i64 j, .agg #[.bool m, .slice a l c]] w (Says w (.int .i64 3)) := by
  have HC := hid (hasPlace_nil (w := w.alloc (duo (.bool m) (.slice a l c))) (i := i) (j := j))
  have FIN : Hid (Says w (.int .i64 3) (.returned (.int .i64 3)) (w.alloc (duo (.bool m) (.slice a l c)))) := ⟨rfl, (Below.refl _ _).alloc (Nat.le_refl _) _⟩
  go_enter Try.func10, Try.ntmps10
  go_wp2_with fail
  refine HC.out.mono ?_
  rintro e w' ⟨rfl, rfl⟩
  go_wp2
  go_ret
  exact FIN.out
theorem addRow_nil {w : World} {i j : Int} {m : Bool} {a : Option Addr} {l c : Nat} : Calls Try.prog 11 #[.pointer none, .int .i64 i, .int .i64 j, .agg #[.bool m, .slice a l c]] w (Says w (.int .i64 3)) := by
  have HC := hid (hasRow_nil (w := w.alloc (duo (.bool m) (.slice a l c))) (i := i))
  have FIN : Hid (Says w (.int .i64 3) (.returned (.int .i64 3)) (w.alloc (duo (.bool m) (.slice a l c)))) := ⟨rfl, (Below.refl _ _).alloc (Nat.le_refl _) _⟩
  go_enter Try.func11, Try.ntmps11
  go_wp2_with fail
  refine HC.out.mono ?_
  rintro e w' ⟨rfl, rfl⟩
  go_wp2
  go_ret
  exact FIN.out
theorem get_nil {w : World} {i j : Int} : Calls Try.prog 26 #[.pointer none, .int .i64 i, .int .i64 j] w (Says w (.tuple #[.agg #[.bool false, .slice none 0 0], .int .i64 3])) := by
  obtain ⟨W0, hW⟩ : ∃ W0, w.alloc zbox = W0 := ⟨_, rfl⟩
  obtain ⟨b0, sz0⟩ := alo1 w zbox
  rw [hW] at b0 sz0
  have PB : Duo W0 w.heap.size (.bool false) (.slice none 0 0) := by rw [← hW]; exact heap_alloc_new w zbox
  have HP := hid (hasPlace_nil (w := W0) (i := i) (j := j))
  have EW := hid hW
  have P2 := hid PB
  have y0 := PB.c0
  have y1 := PB.c1
  have y2 := PB.fz 0
  have y3 := PB.fz 1
  have FIN : Hid (Says w (.tuple #[.agg #[.bool false, .slice none 0 0], .int .i64 3]) (.returned (.tuple #[.agg #[.bool false, .slice none 0 0], .int .i64 3])) ((W0.setCell ⟨w.heap.size, 0, none⟩ (.bool false)).setCell ⟨w.heap.size, 1, none⟩ (.slice none 0 0))) :=
    ⟨rfl, bset (bset b0 (by omega)) (by omega)⟩
  clear b0 hW PB sz0
  go_enter Try.func26, Try.ntmps26
  go_wp2_with fail
  rw [EW.out]
  refine HP.out.mono ?_
  rintro e w1 ⟨rfl, hw1⟩
  subst hw1
  go_wp2
  exact bodyPost_ret (zback1 Try.results26 (P2.out.set _ _) _ (by rfl) (by rfl)) rfl FIN.out
theorem dense_nil {w : World} : Calls Try.prog 14 #[.pointer none] w (Says w (.tuple #[mzero, .int .i64 3])) := by
  obtain ⟨W0, hW⟩ : ∃ W0, w.alloc mbox = W0 := ⟨_, rfl⟩
  obtain ⟨b0, sz0⟩ := alo1 w mbox
  rw [hW] at b0 sz0
  have P2 := hid (mbox_new hW)
  have EW := hid hW
  have r0 := P2.out.at (i := 0) rfl
  have r1 := P2.out.at (i := 1) rfl
  have r2 := P2.out.at (i := 2) rfl
  have f0 := P2.out.fz 0
  have f1 := P2.out.fz 1
  have f2 := P2.out.fz 2
  have FIN : Hid (Says w (.tuple #[mzero, .int .i64 3]) (.returned (.tuple #[mzero, .int .i64 3])) W0) := ⟨rfl, b0⟩
  have PF := hid P2.out
  clear b0 hW sz0
  go_enter Try.func14, Try.ntmps14
  go_wp2_with fail
  rw [EW.out]
  exact bodyPost_ret (mback1 Try.results14 PF.out _ (by rfl) (by rfl)) rfl FIN.out
end Go.Proofs.Ytachdicdfhfoaaa
