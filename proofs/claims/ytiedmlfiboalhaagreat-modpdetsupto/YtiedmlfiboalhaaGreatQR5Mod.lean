/-
  R5Mod: the reference's Euclid and Mod, by a divisor above 0.
-/
import Derived.Test.YtiedmlfiboalhaaGreatQExactToLess6
import Derived.Test.YtiedmlfiboalhaaGreatQR5Add
import Derived.Test.YtiedmlfiboalhaaGreatQLst9ToTail
namespace Go.Proofs.YtiedmlfiboalhaaGreat
open Go.RowKit
set_option linter.unusedVariables false

set_option maxHeartbeats 6400000 in
set_option maxRecDepth 100000 in
theorem reuclid_pos {w : World} {va vb : Value} {A B : Int} {k : Nat} (ha : Zi w va A k) (hb : Zi w vb B k) (hB : 0 < B) (hk : k ≤ 68719476736) (hs : ¬ A.tmod B < 0) :
    Calls Tryz.prog 52 #[va, vb] w (GivesZ2 0 w (A.tdiv B) (A.tmod B) (k + 2) (k + 2)) := by
  have hB0 : B ≠ 0 := by omega
  obtain ⟨C, hC⟩ : ∃ C, cmpI (A.tmod B) 0 = C := ⟨_, rfl⟩
  have HC := hid hC
  have hcs : (0 : Int) ≤ C := by rw [← hC]; unfold cmpI; rw [if_neg (by omega)]; split <;> omega
  clear hC hs
  have za0 := ha
  obtain ⟨na, xa, ada, ca, rfl, -, -, -⟩ := ha
  have zb0 := hb
  obtain ⟨nb, xb, adb, cb, rfl, -, -, -⟩ := hb
  obtain ⟨W0, hW⟩ : ∃ W0, (((w.alloc (duo (.bool na) (.slice ada xa.length ca))).alloc (duo (.bool nb) (.slice adb xb.length cb))).alloc zbox).alloc zbox = W0 := ⟨_, rfl⟩
  obtain ⟨b0, sz0⟩ := alloc4 w (duo (.bool na) (.slice ada xa.length ca)) (duo (.bool nb) (.slice adb xb.length cb)) zbox zbox
  rw [hW] at b0 sz0
  have Pa : Hid (Duo W0 (w.heap.size) (.bool na) (.slice ada xa.length ca)) := by unfold Hid; rw [← hW]; exact duo_late (duo_late (duo_late (duo_at (by simp)) _) _) _
  have Pb : Hid (Duo W0 (w.heap.size + 1) (.bool nb) (.slice adb xb.length cb)) := by unfold Hid; rw [← hW]; exact duo_late (duo_late (duo_at (by simp)) _) _
  have Ps : Hid (Duo W0 (w.heap.size + 1 + 1) (.bool false) (.slice none 0 0)) := by unfold Hid; rw [← hW]; exact duo_late (duo_at (by simp)) _
  have Pt : Hid (Duo W0 (w.heap.size + 1 + 1 + 1) (.bool false) (.slice none 0 0)) := by unfold Hid; rw [← hW]; exact duo_at (by simp)
  have Za := hid (za0.now b0)
  clear za0
  have Zb := hid (zb0.now b0)
  clear zb0
  have G := hid b0
  clear b0
  have EW := hid hW
  clear hW
  go_enter Tryz.func52, Tryz.ntmps52
  have ca0 := Pa.out.c0
  have ca1 := Pa.out.c1
  have cb0 := Pb.out.c0
  have cb1 := Pb.out.c1
  rw [← EW.out] at ca0 ca1 cb0 cb1
  go_wp2_with fail
  rw [EW.out]
  clear EW
  clear ca0 ca1 cb0 cb1
  refine (rtrunc_z Za.out Zb.out hB0 (by omega) (by omega)).mono ?_
  rintro e w1 ⟨r0, r1, rfl, m0, m1, b⟩
  obtain ⟨nq, xq, adq, qq, rfl, -, -, -, -, -⟩ := id m0
  obtain ⟨nr, xr, adr, qr, rfl, -, -, -, -, -⟩ := id m1
  replace Za := hid (Za.out.now b)
  replace Zb := hid (Zb.out.now b)
  replace Pa := hid (Pa.out.step b)
  replace Pb := hid (Pb.out.step b)
  replace Ps := hid (Ps.out.step b)
  replace Pt := hid (Pt.out.step b)
  replace G := hid (below_step G.out b)
  have lz2 := (show Below _ _ _ from b).size
  have Zq := hid m0
  have Zr := hid m1
  clear b m0 m1
  have q0 : ((0 : Int) != 0) = false := rfl
  obtain ⟨V3, hW⟩ : ∃ V3, (w1.alloc (duo (.bool nq) (.slice adq xq.length qq))).alloc (duo (.bool nr) (.slice adr xr.length qr)) = V3 := ⟨_, rfl⟩
  obtain ⟨kW, sz3⟩ := alloc2 w1 (duo (.bool nq) (.slice adq xq.length qq)) (duo (.bool nr) (.slice adr xr.length qr))
  rw [hW] at kW sz3
  replace Za := hid (Za.out.now kW)
  replace Zb := hid (Zb.out.now kW)
  replace Zq := hid (Zq.out.now kW)
  replace Zr := hid (Zr.out.now kW)
  replace Pa := hid (Pa.out.step kW)
  replace Pb := hid (Pb.out.step kW)
  replace Ps := hid (Ps.out.step kW)
  replace Pt := hid (Pt.out.step kW)
  replace G := hid (below_step G.out kW)
  have lz4 := (show Below _ _ _ from kW).size
  have Pq : Hid (Duo V3 (w1.heap.size) (.bool nq) (.slice adq xq.length qq)) := by unfold Hid; rw [← hW]; exact duo_late (duo_at (by simp)) _
  have Pr : Hid (Duo V3 (w1.heap.size + 1) (.bool nr) (.slice adr xr.length qr)) := by unfold Hid; rw [← hW]; exact duo_at (by simp)
  clear kW
  have cr0 := Pr.out.c0
  have cr1 := Pr.out.c1
  rw [← hW] at cr0 cr1
  have EW := hid hW
  clear hW
  go_wp2_with fail
  rw [EW.out]
  clear EW
  clear cr0 cr1
  refine (rsign_z Zr.out.zi (by omega)).mono ?_
  rintro e w5 ⟨rfl, b⟩
  replace Za := hid (Za.out.now b)
  replace Zb := hid (Zb.out.now b)
  replace Zq := hid (Zq.out.now b)
  replace Zr := hid (Zr.out.now b)
  replace Pa := hid (Pa.out.step b)
  replace Pb := hid (Pb.out.step b)
  replace Ps := hid (Ps.out.step b)
  replace Pt := hid (Pt.out.step b)
  replace Pq := hid (Pq.out.step b)
  replace Pr := hid (Pr.out.step b)
  replace G := hid (below_step G.out b)
  have lz6 := (show Below _ _ _ from b).size
  clear b 
  rw [HC.out]
  go_wp2_with fail
  refine wp_region_tail (fun w' => w'.cell? ⟨w1.heap.size, 0, none⟩ = some (.bool nq) ∧ w'.cell? ⟨w1.heap.size, 1, none⟩ = some (.slice adq xq.length qq) ∧ w'.cell? ⟨w1.heap.size + 1, 0, none⟩ = some (.bool nr) ∧ w'.cell? ⟨w1.heap.size + 1, 1, none⟩ = some (.slice adr xr.length qr)) 5 (by kernel_rfl) ?_
  obtain ⟨D7, hD⟩ : ∃ D7, w5.drew = D7 := ⟨_, rfl⟩
  have b : Below w5.heap.size w5 D7 := by rw [← hD]; exact (Below.refl _ _).drew
  rw [hD]
  clear hD
  replace Za := hid (Za.out.now b)
  replace Zb := hid (Zb.out.now b)
  replace Zq := hid (Zq.out.now b)
  replace Zr := hid (Zr.out.now b)
  replace Pa := hid (Pa.out.step b)
  replace Pb := hid (Pb.out.step b)
  replace Ps := hid (Ps.out.step b)
  replace Pt := hid (Pt.out.step b)
  replace Pq := hid (Pq.out.step b)
  replace Pr := hid (Pr.out.step b)
  replace G := hid (below_step G.out b)
  have lz8 := (show Below _ _ _ from b).size
  clear b
  refine wpAnyT_take (i := 0) (oi := { dst := some 24, op := Op.load 43 (Operand.tmp 7), type := 43, pos := "ref.go:182", after := #[], guard := none }) (v := (.agg #[(.bool nq), (.slice adq xq.length qq)])) rfl (by kernel_rfl) (fun _ _ _ h => h) (Or.inl ⟨by rfl, ?_⟩) ⟨Pq.out.c0, Pq.out.c1, Pr.out.c0, Pr.out.c1⟩ ?_
  · intro w hSw
    (try dsimp only at hSw)
    go_simp
  simp only [Act.put, List.setIfInBounds_toArray, List.set_cons_zero, List.set_cons_succ]
  refine wpAnyT_take (i := 1) (oi := { dst := some 25, op := Op.load 43 (Operand.tmp 8), type := 43, pos := "ref.go:182", after := #[{ on := 3, ground := Ground.gcOnly Departure.lateStores }], guard := none }) (v := (.agg #[(.bool nr), (.slice adr xr.length qr)])) rfl (by kernel_rfl) (fun _ _ _ h => h) (Or.inl ⟨by rfl, ?_⟩) ⟨Pq.out.c0, Pq.out.c1, Pr.out.c0, Pr.out.c1⟩ ?_
  · intro w hSw
    (try dsimp only at hSw)
    go_simp
  simp only [Act.put, List.setIfInBounds_toArray, List.set_cons_zero, List.set_cons_succ]
  refine wpAnyT_take (i := 2) (oi := { dst := some 26, op := Op.move (Operand.tmp 9), type := 29, pos := "ref.go:182", after := #[{ on := 4, ground := Ground.gcOnly Departure.lateStores }], guard := none }) (v := (.int .i64 0)) rfl (by kernel_rfl) (fun _ _ _ h => h) (Or.inl ⟨by rfl, ?_⟩) ⟨Pq.out.c0, Pq.out.c1, Pr.out.c0, Pr.out.c1⟩ ?_
  · intro w hSw
    (try dsimp only at hSw)
    go_simp
  simp only [Act.put, List.setIfInBounds_toArray, List.set_cons_zero, List.set_cons_succ]
  refine wpAnyT_one (i := 3) (o := { dst := none, op := Op.store 43 (Operand.tmp 4) (Operand.tmp 24), type := 0, pos := "ref.go:182", after := #[{ on := 0, ground := Ground.data }, { on := 0, ground := Ground.phase }, { on := 1, ground := Ground.textOnly Departure.lateStores }, { on := 2, ground := Ground.textOnly Departure.lateStores }], guard := none }) (by kernel_rfl) rfl (fun K hK => ?_)
  have cs0 := Ps.out.c0
  have cs1 := Ps.out.c1
  have fs0 := Ps.out.fz 0
  have fs1 := Ps.out.fz 1
  go_simp
  clear cs0 cs1 fs0 fs1
  obtain ⟨V9, hW⟩ : ∃ V9, (D7.setCell ⟨w.heap.size + 1 + 1, 0, none⟩ (.bool nq)).setCell ⟨w.heap.size + 1 + 1, 1, none⟩ (.slice adq xq.length qq) = V9 := ⟨_, rfl⟩
  replace Za := hid ((Za.out).wk ((Ps.out).wk (.bool nq) (.slice adq xq.length qq)))
  replace Zb := hid ((Zb.out).wk ((Ps.out).wk (.bool nq) (.slice adq xq.length qq)))
  replace Zq := hid ((Zq.out).box (Ps.out) (.bool nq) (.slice adq xq.length qq))
  replace Zr := hid ((Zr.out).box (Ps.out) (.bool nq) (.slice adq xq.length qq))
  replace Pa := hid ((Pa.out).box (b' := w.heap.size + 1 + 1) (by omega) (.bool nq) (.slice adq xq.length qq))
  replace Pb := hid ((Pb.out).box (b' := w.heap.size + 1 + 1) (by omega) (.bool nq) (.slice adq xq.length qq))
  replace Ps := hid ((Ps.out).set (.bool nq) (.slice adq xq.length qq))
  replace Pt := hid ((Pt.out).box (b' := w.heap.size + 1 + 1) (by omega) (.bool nq) (.slice adq xq.length qq))
  replace Pq := hid ((Pq.out).box (b' := w.heap.size + 1 + 1) (by omega) (.bool nq) (.slice adq xq.length qq))
  replace Pr := hid ((Pr.out).box (b' := w.heap.size + 1 + 1) (by omega) (.bool nq) (.slice adq xq.length qq))
  replace G : Hid (Below w.heap.size w (((D7.setCell ⟨w.heap.size + 1 + 1, 0, none⟩ (.bool nq)).setCell ⟨w.heap.size + 1 + 1, 1, none⟩ (.slice adq xq.length qq)))) := bset (bset (G.out) (by omega)) (by omega)
  have sz9 : V9.heap.size = D7.heap.size := by rw [← hW]; simp
  rw [hW] at Za Zb Zq Zr Pa Pb Ps Pt Pq Pr G
  rw [hW]
  clear hW
  refine hK.out _ _ (fun _ => ⟨Pq.out.c0, Pq.out.c1, Pr.out.c0, Pr.out.c1⟩) ?_
  clear hK
  try simp only [Act.put]
  refine wpAnyT_one (i := 4) (o := { dst := none, op := Op.store 43 (Operand.tmp 5) (Operand.tmp 25), type := 0, pos := "ref.go:182", after := #[{ on := 1, ground := Ground.data }, { on := 3, ground := Ground.chain }, { on := 0, ground := Ground.phase }, { on := 1, ground := Ground.phase }, { on := 2, ground := Ground.textOnly Departure.lateStores }, { on := 3, ground := Ground.phase }], guard := none }) (by kernel_rfl) rfl (fun K hK => ?_)
  have ct0 := Pt.out.c0
  have ct1 := Pt.out.c1
  have ft0 := Pt.out.fz 0
  have ft1 := Pt.out.fz 1
  go_simp
  clear ct0 ct1 ft0 ft1
  obtain ⟨V10, hW⟩ : ∃ V10, (V9.setCell ⟨w.heap.size + 1 + 1 + 1, 0, none⟩ (.bool nr)).setCell ⟨w.heap.size + 1 + 1 + 1, 1, none⟩ (.slice adr xr.length qr) = V10 := ⟨_, rfl⟩
  replace Za := hid ((Za.out).wk ((Pt.out).wk (.bool nr) (.slice adr xr.length qr)))
  replace Zb := hid ((Zb.out).wk ((Pt.out).wk (.bool nr) (.slice adr xr.length qr)))
  replace Zq := hid ((Zq.out).box (Pt.out) (.bool nr) (.slice adr xr.length qr))
  replace Zr := hid ((Zr.out).box (Pt.out) (.bool nr) (.slice adr xr.length qr))
  replace Pa := hid ((Pa.out).box (b' := w.heap.size + 1 + 1 + 1) (by omega) (.bool nr) (.slice adr xr.length qr))
  replace Pb := hid ((Pb.out).box (b' := w.heap.size + 1 + 1 + 1) (by omega) (.bool nr) (.slice adr xr.length qr))
  replace Ps := hid ((Ps.out).box (b' := w.heap.size + 1 + 1 + 1) (by omega) (.bool nr) (.slice adr xr.length qr))
  replace Pt := hid ((Pt.out).set (.bool nr) (.slice adr xr.length qr))
  replace Pq := hid ((Pq.out).box (b' := w.heap.size + 1 + 1 + 1) (by omega) (.bool nr) (.slice adr xr.length qr))
  replace Pr := hid ((Pr.out).box (b' := w.heap.size + 1 + 1 + 1) (by omega) (.bool nr) (.slice adr xr.length qr))
  replace G : Hid (Below w.heap.size w (((V9.setCell ⟨w.heap.size + 1 + 1 + 1, 0, none⟩ (.bool nr)).setCell ⟨w.heap.size + 1 + 1 + 1, 1, none⟩ (.slice adr xr.length qr)))) := bset (bset (G.out) (by omega)) (by omega)
  have sz10 : V10.heap.size = V9.heap.size := by rw [← hW]; simp
  rw [hW] at Za Zb Zq Zr Pa Pb Ps Pt Pq Pr G
  rw [hW]
  clear hW
  refine hK.out _ _ (fun _ => ⟨Pq.out.c0, Pq.out.c1, Pr.out.c0, Pr.out.c1⟩) ?_
  clear hK
  try simp only [Act.put]
  refine wpAnyT_one (i := 5) (o := { dst := some 6, op := Op.assign (Operand.tmp 26), type := 29, pos := "ref.go:182", after := #[{ on := 2, ground := Ground.data }, { on := 4, ground := Ground.chain }, { on := 0, ground := Ground.phase }, { on := 1, ground := Ground.phase }, { on := 2, ground := Ground.phase }, { on := 3, ground := Ground.phase }, { on := 4, ground := Ground.phase }], guard := none }) (by kernel_rfl) rfl (fun K hK => ?_)
  go_simp
  refine hK.out _ _ (fun h => absurd h (by decide)) ?_
  clear hK
  try simp only [Act.put]
  refine wpAnyT_done (by kernel_rfl) ?_ _
  have YQ := hid ((Zq.out.mono (B' := w.heap.size) (by omega)).more (l := k + 2) (by omega))
  have YR := hid ((Zr.out.mono (B' := w.heap.size) (by omega)).more (l := k + 2) (by omega))
  go_wp2
  exact bodyPost_ret (zback2 Tryz.results52 Ps.out Pt.out _ (by rfl) (by rfl) (by rfl)) rfl ⟨_, _, rfl, YQ.out, YR.out, G.out⟩
set_option maxHeartbeats 6400000 in
set_option maxRecDepth 100000 in
theorem reuclid_neg {w : World} {va vb : Value} {A B : Int} {k : Nat} (ha : Zi w va A k) (hb : Zi w vb B k) (hB : 0 < B) (hk : k ≤ 68719476736) (hs : A.tmod B < 0) :
    Calls Tryz.prog 52 #[va, vb] w (GivesZ2 0 w (A.tdiv B - 1) (A.tmod B + (B.natAbs : Int)) (k + 2) (k + 2)) := by
  have hB0 : B ≠ 0 := by omega
  obtain ⟨C, hC⟩ : ∃ C, cmpI (A.tmod B) 0 = C := ⟨_, rfl⟩
  have HC := hid hC
  have hcs : ¬ (0 : Int) ≤ C := by rw [← hC]; rw [cmpI_lt hs]; decide
  clear hC hs
  have za0 := ha
  obtain ⟨na, xa, ada, ca, rfl, -, -, -⟩ := ha
  have zb0 := hb
  obtain ⟨nb, xb, adb, cb, rfl, -, -, -⟩ := hb
  obtain ⟨W0, hW⟩ : ∃ W0, (((w.alloc (duo (.bool na) (.slice ada xa.length ca))).alloc (duo (.bool nb) (.slice adb xb.length cb))).alloc zbox).alloc zbox = W0 := ⟨_, rfl⟩
  obtain ⟨b0, sz0⟩ := alloc4 w (duo (.bool na) (.slice ada xa.length ca)) (duo (.bool nb) (.slice adb xb.length cb)) zbox zbox
  rw [hW] at b0 sz0
  have Pa : Hid (Duo W0 (w.heap.size) (.bool na) (.slice ada xa.length ca)) := by unfold Hid; rw [← hW]; exact duo_late (duo_late (duo_late (duo_at (by simp)) _) _) _
  have Pb : Hid (Duo W0 (w.heap.size + 1) (.bool nb) (.slice adb xb.length cb)) := by unfold Hid; rw [← hW]; exact duo_late (duo_late (duo_at (by simp)) _) _
  have Ps : Hid (Duo W0 (w.heap.size + 1 + 1) (.bool false) (.slice none 0 0)) := by unfold Hid; rw [← hW]; exact duo_late (duo_at (by simp)) _
  have Pt : Hid (Duo W0 (w.heap.size + 1 + 1 + 1) (.bool false) (.slice none 0 0)) := by unfold Hid; rw [← hW]; exact duo_at (by simp)
  have Za := hid (za0.now b0)
  clear za0
  have Zb := hid (zb0.now b0)
  clear zb0
  have G := hid b0
  clear b0
  have EW := hid hW
  clear hW
  go_enter Tryz.func52, Tryz.ntmps52
  have ca0 := Pa.out.c0
  have ca1 := Pa.out.c1
  have cb0 := Pb.out.c0
  have cb1 := Pb.out.c1
  rw [← EW.out] at ca0 ca1 cb0 cb1
  go_wp2_with fail
  rw [EW.out]
  clear EW
  clear ca0 ca1 cb0 cb1
  refine (rtrunc_z Za.out Zb.out hB0 (by omega) (by omega)).mono ?_
  rintro e w1 ⟨r0, r1, rfl, m0, m1, b⟩
  obtain ⟨nq, xq, adq, qq, rfl, -, -, -, -, -⟩ := id m0
  obtain ⟨nr, xr, adr, qr, rfl, -, -, -, -, -⟩ := id m1
  replace Za := hid (Za.out.now b)
  replace Zb := hid (Zb.out.now b)
  replace Pa := hid (Pa.out.step b)
  replace Pb := hid (Pb.out.step b)
  replace Ps := hid (Ps.out.step b)
  replace Pt := hid (Pt.out.step b)
  replace G := hid (below_step G.out b)
  have lz2 := (show Below _ _ _ from b).size
  have Zq := hid m0
  have Zr := hid m1
  clear b m0 m1
  have q0 : ((0 : Int) != 0) = false := rfl
  obtain ⟨V3, hW⟩ : ∃ V3, (w1.alloc (duo (.bool nq) (.slice adq xq.length qq))).alloc (duo (.bool nr) (.slice adr xr.length qr)) = V3 := ⟨_, rfl⟩
  obtain ⟨kW, sz3⟩ := alloc2 w1 (duo (.bool nq) (.slice adq xq.length qq)) (duo (.bool nr) (.slice adr xr.length qr))
  rw [hW] at kW sz3
  replace Za := hid (Za.out.now kW)
  replace Zb := hid (Zb.out.now kW)
  replace Zq := hid (Zq.out.now kW)
  replace Zr := hid (Zr.out.now kW)
  replace Pa := hid (Pa.out.step kW)
  replace Pb := hid (Pb.out.step kW)
  replace Ps := hid (Ps.out.step kW)
  replace Pt := hid (Pt.out.step kW)
  replace G := hid (below_step G.out kW)
  have lz4 := (show Below _ _ _ from kW).size
  have Pq : Hid (Duo V3 (w1.heap.size) (.bool nq) (.slice adq xq.length qq)) := by unfold Hid; rw [← hW]; exact duo_late (duo_at (by simp)) _
  have Pr : Hid (Duo V3 (w1.heap.size + 1) (.bool nr) (.slice adr xr.length qr)) := by unfold Hid; rw [← hW]; exact duo_at (by simp)
  clear kW
  have cr0 := Pr.out.c0
  have cr1 := Pr.out.c1
  rw [← hW] at cr0 cr1
  have EW := hid hW
  clear hW
  go_wp2_with fail
  rw [EW.out]
  clear EW
  clear cr0 cr1
  refine (rsign_z Zr.out.zi (by omega)).mono ?_
  rintro e w5 ⟨rfl, b⟩
  replace Za := hid (Za.out.now b)
  replace Zb := hid (Zb.out.now b)
  replace Zq := hid (Zq.out.now b)
  replace Zr := hid (Zr.out.now b)
  replace Pa := hid (Pa.out.step b)
  replace Pb := hid (Pb.out.step b)
  replace Ps := hid (Ps.out.step b)
  replace Pt := hid (Pt.out.step b)
  replace Pq := hid (Pq.out.step b)
  replace Pr := hid (Pr.out.step b)
  replace G := hid (below_step G.out b)
  have lz6 := (show Below _ _ _ from b).size
  clear b 
  rw [HC.out]
  have hb1 : cmpI B 0 = 1 := cmpI_gt hB
  have cb0 := Pb.out.c0
  have cb1 := Pb.out.c1
  go_wp2_with fail
  clear cb0 cb1
  refine (rsign_z Zb.out (by omega)).mono ?_
  rintro e w7 ⟨rfl, b⟩
  replace Za := hid (Za.out.now b)
  replace Zb := hid (Zb.out.now b)
  replace Zq := hid (Zq.out.now b)
  replace Zr := hid (Zr.out.now b)
  replace Pa := hid (Pa.out.step b)
  replace Pb := hid (Pb.out.step b)
  replace Ps := hid (Ps.out.step b)
  replace Pt := hid (Pt.out.step b)
  replace Pq := hid (Pq.out.step b)
  replace Pr := hid (Pr.out.step b)
  replace G := hid (below_step G.out b)
  have lz8 := (show Below _ _ _ from b).size
  clear b 
  rw [hb1]
  clear hb1
  go_wp2_with fail
  refine wp_region_tail (fun w' => w'.cell? ⟨w1.heap.size, 0, none⟩ = some (.bool nq) ∧ w'.cell? ⟨w1.heap.size, 1, none⟩ = some (.slice adq xq.length qq)) 3 (by kernel_rfl) ?_
  obtain ⟨D9, hD⟩ : ∃ D9, w7.drew = D9 := ⟨_, rfl⟩
  have b : Below w7.heap.size w7 D9 := by rw [← hD]; exact (Below.refl _ _).drew
  rw [hD]
  clear hD
  replace Za := hid (Za.out.now b)
  replace Zb := hid (Zb.out.now b)
  replace Zq := hid (Zq.out.now b)
  replace Zr := hid (Zr.out.now b)
  replace Pa := hid (Pa.out.step b)
  replace Pb := hid (Pb.out.step b)
  replace Ps := hid (Ps.out.step b)
  replace Pt := hid (Pt.out.step b)
  replace Pq := hid (Pq.out.step b)
  replace Pr := hid (Pr.out.step b)
  replace G := hid (below_step G.out b)
  have lz10 := (show Below _ _ _ from b).size
  clear b
  refine wpAnyT_take (i := 0) (oi := { dst := some 30, op := Op.load 43 (Operand.tmp 7), type := 43, pos := "ref.go:185", after := #[], guard := none }) (v := (.agg #[(.bool nq), (.slice adq xq.length qq)])) rfl (by kernel_rfl) (fun _ _ _ h => h) (Or.inl ⟨by rfl, ?_⟩) ⟨Pq.out.c0, Pq.out.c1⟩ ?_
  · intro w hSw
    (try dsimp only at hSw)
    go_simp
  simp only [Act.put, List.setIfInBounds_toArray, List.set_cons_zero, List.set_cons_succ]
  refine wpAnyT_one (i := 1) (o := { dst := some 31, op := Op.call { callee := Callee.value (Operand.func 70), args := #[Operand.const (Value.int IntKind.i64 1)], argTypes := #[2] }, type := 43, pos := "ref.go:185", after := #[], guard := none }) (by kernel_rfl) rfl (fun K hK => ?_)
  go_simp
  go_at_call 70
  refine (rof_z (n := 1) (by decide) (by decide) _).mono ?_
  rintro e w11 ⟨r0, rfl, m0, b⟩
  obtain ⟨no, xo, ado, qo, rfl, -, -, -, -, -⟩ := id m0
  replace Za := hid (Za.out.now b)
  replace Zb := hid (Zb.out.now b)
  replace Zq := hid (Zq.out.now b)
  replace Zr := hid (Zr.out.now b)
  replace Pa := hid (Pa.out.step b)
  replace Pb := hid (Pb.out.step b)
  replace Ps := hid (Ps.out.step b)
  replace Pt := hid (Pt.out.step b)
  replace Pq := hid (Pq.out.step b)
  replace Pr := hid (Pr.out.step b)
  replace G := hid (below_step G.out b)
  have lz12 := (show Below _ _ _ from b).size
  have Zo := hid m0
  clear b m0
  refine hK.out _ _ (fun _ => ⟨Pq.out.c0, Pq.out.c1⟩) ?_
  clear hK
  refine wpAnyT_one (i := 2) (o := { dst := some 32, op := Op.call { callee := Callee.value (Operand.func 69), args := #[Operand.tmp 30, Operand.tmp 31], argTypes := #[43, 43] }, type := 43, pos := "ref.go:185", after := #[{ on := 0, ground := Ground.data }, { on := 1, ground := Ground.data }, { on := 1, ground := Ground.chain }], guard := none }) (by kernel_rfl) rfl (fun K hK => ?_)
  go_simp
  go_at_call 69
  refine (rsub_z Zq.out.zi Zo.out.zi (by omega) (by omega)).mono ?_
  rintro e w13 ⟨r0, rfl, m0, b⟩
  obtain ⟨nu, xu, adu, qu, rfl, -, -, -, -, -⟩ := id m0
  replace Za := hid (Za.out.now b)
  replace Zb := hid (Zb.out.now b)
  replace Zq := hid (Zq.out.now b)
  replace Zr := hid (Zr.out.now b)
  replace Zo := hid (Zo.out.now b)
  replace Pa := hid (Pa.out.step b)
  replace Pb := hid (Pb.out.step b)
  replace Ps := hid (Ps.out.step b)
  replace Pt := hid (Pt.out.step b)
  replace Pq := hid (Pq.out.step b)
  replace Pr := hid (Pr.out.step b)
  replace G := hid (below_step G.out b)
  have lz14 := (show Below _ _ _ from b).size
  have Zu := hid m0
  clear b m0
  refine hK.out _ _ (fun _ => ⟨Pq.out.c0, Pq.out.c1⟩) ?_
  clear hK
  refine wpAnyT_one (i := 3) (o := { dst := none, op := Op.store 43 (Operand.tmp 7) (Operand.tmp 32), type := 0, pos := "ref.go:185", after := #[{ on := 2, ground := Ground.data }, { on := 2, ground := Ground.chain }, { on := 0, ground := Ground.phase }, { on := 1, ground := Ground.phase }, { on := 2, ground := Ground.phase }], guard := none }) (by kernel_rfl) rfl (fun K hK => ?_)
  have cq0 := Pq.out.c0
  have cq1 := Pq.out.c1
  have fq0 := Pq.out.fz 0
  have fq1 := Pq.out.fz 1
  go_simp
  clear cq0 cq1 fq0 fq1
  obtain ⟨V15, hW⟩ : ∃ V15, (w13.setCell ⟨w1.heap.size, 0, none⟩ (.bool nu)).setCell ⟨w1.heap.size, 1, none⟩ (.slice adu xu.length qu) = V15 := ⟨_, rfl⟩
  replace Za := hid ((Za.out).wk ((Pq.out).wk (.bool nu) (.slice adu xu.length qu)))
  replace Zb := hid ((Zb.out).wk ((Pq.out).wk (.bool nu) (.slice adu xu.length qu)))
  replace Zq := hid ((Zq.out).box (Pq.out) (.bool nu) (.slice adu xu.length qu))
  replace Zr := hid ((Zr.out).box (Pq.out) (.bool nu) (.slice adu xu.length qu))
  replace Zo := hid ((Zo.out).box (Pq.out) (.bool nu) (.slice adu xu.length qu))
  replace Zu := hid ((Zu.out).box (Pq.out) (.bool nu) (.slice adu xu.length qu))
  replace Pa := hid ((Pa.out).box (b' := w1.heap.size) (by omega) (.bool nu) (.slice adu xu.length qu))
  replace Pb := hid ((Pb.out).box (b' := w1.heap.size) (by omega) (.bool nu) (.slice adu xu.length qu))
  replace Ps := hid ((Ps.out).box (b' := w1.heap.size) (by omega) (.bool nu) (.slice adu xu.length qu))
  replace Pt := hid ((Pt.out).box (b' := w1.heap.size) (by omega) (.bool nu) (.slice adu xu.length qu))
  replace Pq := hid ((Pq.out).set (.bool nu) (.slice adu xu.length qu))
  replace Pr := hid ((Pr.out).box (b' := w1.heap.size) (by omega) (.bool nu) (.slice adu xu.length qu))
  replace G : Hid (Below w.heap.size w (((w13.setCell ⟨w1.heap.size, 0, none⟩ (.bool nu)).setCell ⟨w1.heap.size, 1, none⟩ (.slice adu xu.length qu)))) := bset (bset (G.out) (by omega)) (by omega)
  have sz15 : V15.heap.size = w13.heap.size := by rw [← hW]; simp
  rw [hW] at Za Zb Zq Zr Zo Zu Pa Pb Ps Pt Pq Pr G
  rw [hW]
  clear hW
  refine hK.out _ _ (fun h => absurd h (by decide)) ?_
  clear hK
  try simp only [Act.put]
  refine wpAnyT_done (by kernel_rfl) ?_ _
  go_wp2_with fail
  refine wp_region_tail (fun w' => w'.cell? ⟨w1.heap.size + 1, 0, none⟩ = some (.bool nr) ∧ w'.cell? ⟨w1.heap.size + 1, 1, none⟩ = some (.slice adr xr.length qr) ∧ w'.cell? ⟨w.heap.size + 1, 0, none⟩ = some (.bool nb) ∧ w'.cell? ⟨w.heap.size + 1, 1, none⟩ = some (.slice adb xb.length cb)) 4 (by kernel_rfl) ?_
  obtain ⟨D16, hD⟩ : ∃ D16, V15.drew = D16 := ⟨_, rfl⟩
  have b : Below V15.heap.size V15 D16 := by rw [← hD]; exact (Below.refl _ _).drew
  rw [hD]
  clear hD
  replace Za := hid (Za.out.now b)
  replace Zb := hid (Zb.out.now b)
  replace Zq := hid (Zq.out.now b)
  replace Zr := hid (Zr.out.now b)
  replace Zo := hid (Zo.out.now b)
  replace Zu := hid (Zu.out.now b)
  replace Pa := hid (Pa.out.step b)
  replace Pb := hid (Pb.out.step b)
  replace Ps := hid (Ps.out.step b)
  replace Pt := hid (Pt.out.step b)
  replace Pq := hid (Pq.out.step b)
  replace Pr := hid (Pr.out.step b)
  replace G := hid (below_step G.out b)
  have lz17 := (show Below _ _ _ from b).size
  clear b
  refine wpAnyT_take (i := 0) (oi := { dst := some 36, op := Op.load 43 (Operand.tmp 8), type := 43, pos := "ref.go:189", after := #[], guard := none }) (v := (.agg #[(.bool nr), (.slice adr xr.length qr)])) rfl (by kernel_rfl) (fun _ _ _ h => h) (Or.inl ⟨by rfl, ?_⟩) ⟨Pr.out.c0, Pr.out.c1, Pb.out.c0, Pb.out.c1⟩ ?_
  · intro w hSw
    (try dsimp only at hSw)
    go_simp
  simp only [Act.put, List.setIfInBounds_toArray, List.set_cons_zero, List.set_cons_succ]
  refine wpAnyT_take (i := 1) (oi := { dst := some 37, op := Op.load 43 (Operand.tmp 3), type := 43, pos := "ref.go:189", after := #[], guard := none }) (v := (.agg #[(.bool nb), (.slice adb xb.length cb)])) rfl (by kernel_rfl) (fun _ _ _ h => h) (Or.inl ⟨by rfl, ?_⟩) ⟨Pr.out.c0, Pr.out.c1, Pb.out.c0, Pb.out.c1⟩ ?_
  · intro w hSw
    (try dsimp only at hSw)
    go_simp
  simp only [Act.put, List.setIfInBounds_toArray, List.set_cons_zero, List.set_cons_succ]
  refine wpAnyT_one (i := 2) (o := { dst := some 38, op := Op.call { callee := Callee.value (Operand.func 71), args := #[Operand.tmp 37], argTypes := #[43] }, type := 43, pos := "ref.go:189", after := #[{ on := 1, ground := Ground.data }], guard := none }) (by kernel_rfl) rfl (fun K hK => ?_)
  go_simp
  go_at_call 71
  refine (rabs_z Zb.out (by omega)).mono ?_
  rintro e w18 ⟨r0, rfl, m0, b⟩
  obtain ⟨nv, xv, adv, qv, rfl, -, -, -, -, -⟩ := id m0
  replace Za := hid (Za.out.now b)
  replace Zb := hid (Zb.out.now b)
  replace Zq := hid (Zq.out.now b)
  replace Zr := hid (Zr.out.now b)
  replace Zo := hid (Zo.out.now b)
  replace Zu := hid (Zu.out.now b)
  replace Pa := hid (Pa.out.step b)
  replace Pb := hid (Pb.out.step b)
  replace Ps := hid (Ps.out.step b)
  replace Pt := hid (Pt.out.step b)
  replace Pq := hid (Pq.out.step b)
  replace Pr := hid (Pr.out.step b)
  replace G := hid (below_step G.out b)
  have lz19 := (show Below _ _ _ from b).size
  have Zv := hid m0
  clear b m0
  refine hK.out _ _ (fun _ => ⟨Pr.out.c0, Pr.out.c1, Pb.out.c0, Pb.out.c1⟩) ?_
  clear hK
  refine wpAnyT_one (i := 3) (o := { dst := some 39, op := Op.call { callee := Callee.value (Operand.func 37), args := #[Operand.tmp 36, Operand.tmp 38], argTypes := #[43, 43] }, type := 43, pos := "ref.go:189", after := #[{ on := 0, ground := Ground.data }, { on := 2, ground := Ground.data }, { on := 2, ground := Ground.chain }], guard := none }) (by kernel_rfl) rfl (fun K hK => ?_)
  go_simp
  go_at_call 37
  refine (radd_z Zr.out.zi Zv.out.zi (by omega) (by omega)).mono ?_
  rintro e w20 ⟨r0, rfl, m0, b⟩
  obtain ⟨nx, xx, adx, qx, rfl, -, -, -, -, -⟩ := id m0
  replace Za := hid (Za.out.now b)
  replace Zb := hid (Zb.out.now b)
  replace Zq := hid (Zq.out.now b)
  replace Zr := hid (Zr.out.now b)
  replace Zo := hid (Zo.out.now b)
  replace Zu := hid (Zu.out.now b)
  replace Zv := hid (Zv.out.now b)
  replace Pa := hid (Pa.out.step b)
  replace Pb := hid (Pb.out.step b)
  replace Ps := hid (Ps.out.step b)
  replace Pt := hid (Pt.out.step b)
  replace Pq := hid (Pq.out.step b)
  replace Pr := hid (Pr.out.step b)
  replace G := hid (below_step G.out b)
  have lz21 := (show Below _ _ _ from b).size
  have Zx := hid m0
  clear b m0
  refine hK.out _ _ (fun _ => ⟨Pr.out.c0, Pr.out.c1, Pb.out.c0, Pb.out.c1⟩) ?_
  clear hK
  refine wpAnyT_one (i := 4) (o := { dst := none, op := Op.store 43 (Operand.tmp 8) (Operand.tmp 39), type := 0, pos := "ref.go:189", after := #[{ on := 3, ground := Ground.data }, { on := 3, ground := Ground.chain }, { on := 0, ground := Ground.phase }, { on := 1, ground := Ground.phase }, { on := 2, ground := Ground.phase }, { on := 3, ground := Ground.phase }], guard := none }) (by kernel_rfl) rfl (fun K hK => ?_)
  have cr0 := Pr.out.c0
  have cr1 := Pr.out.c1
  have fr0 := Pr.out.fz 0
  have fr1 := Pr.out.fz 1
  go_simp
  clear cr0 cr1 fr0 fr1
  obtain ⟨V22, hW⟩ : ∃ V22, (w20.setCell ⟨w1.heap.size + 1, 0, none⟩ (.bool nx)).setCell ⟨w1.heap.size + 1, 1, none⟩ (.slice adx xx.length qx) = V22 := ⟨_, rfl⟩
  replace Za := hid ((Za.out).wk ((Pr.out).wk (.bool nx) (.slice adx xx.length qx)))
  replace Zb := hid ((Zb.out).wk ((Pr.out).wk (.bool nx) (.slice adx xx.length qx)))
  replace Zq := hid ((Zq.out).box (Pr.out) (.bool nx) (.slice adx xx.length qx))
  replace Zr := hid ((Zr.out).box (Pr.out) (.bool nx) (.slice adx xx.length qx))
  replace Zo := hid ((Zo.out).box (Pr.out) (.bool nx) (.slice adx xx.length qx))
  replace Zu := hid ((Zu.out).box (Pr.out) (.bool nx) (.slice adx xx.length qx))
  replace Zv := hid ((Zv.out).box (Pr.out) (.bool nx) (.slice adx xx.length qx))
  replace Zx := hid ((Zx.out).box (Pr.out) (.bool nx) (.slice adx xx.length qx))
  replace Pa := hid ((Pa.out).box (b' := w1.heap.size + 1) (by omega) (.bool nx) (.slice adx xx.length qx))
  replace Pb := hid ((Pb.out).box (b' := w1.heap.size + 1) (by omega) (.bool nx) (.slice adx xx.length qx))
  replace Ps := hid ((Ps.out).box (b' := w1.heap.size + 1) (by omega) (.bool nx) (.slice adx xx.length qx))
  replace Pt := hid ((Pt.out).box (b' := w1.heap.size + 1) (by omega) (.bool nx) (.slice adx xx.length qx))
  replace Pq := hid ((Pq.out).box (b' := w1.heap.size + 1) (by omega) (.bool nx) (.slice adx xx.length qx))
  replace Pr := hid ((Pr.out).set (.bool nx) (.slice adx xx.length qx))
  replace G : Hid (Below w.heap.size w (((w20.setCell ⟨w1.heap.size + 1, 0, none⟩ (.bool nx)).setCell ⟨w1.heap.size + 1, 1, none⟩ (.slice adx xx.length qx)))) := bset (bset (G.out) (by omega)) (by omega)
  have sz22 : V22.heap.size = w20.heap.size := by rw [← hW]; simp
  rw [hW] at Za Zb Zq Zr Zo Zu Zv Zx Pa Pb Ps Pt Pq Pr G
  rw [hW]
  clear hW
  refine hK.out _ _ (fun h => absurd h (by decide)) ?_
  clear hK
  try simp only [Act.put]
  refine wpAnyT_done (by kernel_rfl) ?_ _
  go_wp2_with fail
  refine wp_region_tail (fun w' => w'.cell? ⟨w1.heap.size, 0, none⟩ = some (.bool nu) ∧ w'.cell? ⟨w1.heap.size, 1, none⟩ = some (.slice adu xu.length qu) ∧ w'.cell? ⟨w1.heap.size + 1, 0, none⟩ = some (.bool nx) ∧ w'.cell? ⟨w1.heap.size + 1, 1, none⟩ = some (.slice adx xx.length qx)) 3 (by kernel_rfl) ?_
  obtain ⟨D23, hD⟩ : ∃ D23, V22.drew = D23 := ⟨_, rfl⟩
  have b : Below V22.heap.size V22 D23 := by rw [← hD]; exact (Below.refl _ _).drew
  rw [hD]
  clear hD
  replace Za := hid (Za.out.now b)
  replace Zb := hid (Zb.out.now b)
  replace Zq := hid (Zq.out.now b)
  replace Zr := hid (Zr.out.now b)
  replace Zo := hid (Zo.out.now b)
  replace Zu := hid (Zu.out.now b)
  replace Zv := hid (Zv.out.now b)
  replace Zx := hid (Zx.out.now b)
  replace Pa := hid (Pa.out.step b)
  replace Pb := hid (Pb.out.step b)
  replace Ps := hid (Ps.out.step b)
  replace Pt := hid (Pt.out.step b)
  replace Pq := hid (Pq.out.step b)
  replace Pr := hid (Pr.out.step b)
  replace G := hid (below_step G.out b)
  have lz24 := (show Below _ _ _ from b).size
  clear b
  refine wpAnyT_take (i := 0) (oi := { dst := some 40, op := Op.load 43 (Operand.tmp 7), type := 43, pos := "ref.go:190", after := #[], guard := none }) (v := (.agg #[(.bool nu), (.slice adu xu.length qu)])) rfl (by kernel_rfl) (fun _ _ _ h => h) (Or.inl ⟨by rfl, ?_⟩) ⟨Pq.out.c0, Pq.out.c1, Pr.out.c0, Pr.out.c1⟩ ?_
  · intro w hSw
    (try dsimp only at hSw)
    go_simp
  simp only [Act.put, List.setIfInBounds_toArray, List.set_cons_zero, List.set_cons_succ]
  refine wpAnyT_take (i := 1) (oi := { dst := some 41, op := Op.load 43 (Operand.tmp 8), type := 43, pos := "ref.go:190", after := #[{ on := 2, ground := Ground.gcOnly Departure.lateStores }], guard := none }) (v := (.agg #[(.bool nx), (.slice adx xx.length qx)])) rfl (by kernel_rfl) (fun _ _ _ h => h) (Or.inl ⟨by rfl, ?_⟩) ⟨Pq.out.c0, Pq.out.c1, Pr.out.c0, Pr.out.c1⟩ ?_
  · intro w hSw
    (try dsimp only at hSw)
    go_simp
  simp only [Act.put, List.setIfInBounds_toArray, List.set_cons_zero, List.set_cons_succ]
  refine wpAnyT_one (i := 2) (o := { dst := none, op := Op.store 43 (Operand.tmp 4) (Operand.tmp 40), type := 0, pos := "ref.go:190", after := #[{ on := 0, ground := Ground.data }, { on := 0, ground := Ground.phase }, { on := 1, ground := Ground.textOnly Departure.lateStores }], guard := none }) (by kernel_rfl) rfl (fun K hK => ?_)
  have cs0 := Ps.out.c0
  have cs1 := Ps.out.c1
  have fs0 := Ps.out.fz 0
  have fs1 := Ps.out.fz 1
  go_simp
  clear cs0 cs1 fs0 fs1
  obtain ⟨V25, hW⟩ : ∃ V25, (D23.setCell ⟨w.heap.size + 1 + 1, 0, none⟩ (.bool nu)).setCell ⟨w.heap.size + 1 + 1, 1, none⟩ (.slice adu xu.length qu) = V25 := ⟨_, rfl⟩
  replace Za := hid ((Za.out).wk ((Ps.out).wk (.bool nu) (.slice adu xu.length qu)))
  replace Zb := hid ((Zb.out).wk ((Ps.out).wk (.bool nu) (.slice adu xu.length qu)))
  replace Zq := hid ((Zq.out).box (Ps.out) (.bool nu) (.slice adu xu.length qu))
  replace Zr := hid ((Zr.out).box (Ps.out) (.bool nu) (.slice adu xu.length qu))
  replace Zo := hid ((Zo.out).box (Ps.out) (.bool nu) (.slice adu xu.length qu))
  replace Zu := hid ((Zu.out).box (Ps.out) (.bool nu) (.slice adu xu.length qu))
  replace Zv := hid ((Zv.out).box (Ps.out) (.bool nu) (.slice adu xu.length qu))
  replace Zx := hid ((Zx.out).box (Ps.out) (.bool nu) (.slice adu xu.length qu))
  replace Pa := hid ((Pa.out).box (b' := w.heap.size + 1 + 1) (by omega) (.bool nu) (.slice adu xu.length qu))
  replace Pb := hid ((Pb.out).box (b' := w.heap.size + 1 + 1) (by omega) (.bool nu) (.slice adu xu.length qu))
  replace Ps := hid ((Ps.out).set (.bool nu) (.slice adu xu.length qu))
  replace Pt := hid ((Pt.out).box (b' := w.heap.size + 1 + 1) (by omega) (.bool nu) (.slice adu xu.length qu))
  replace Pq := hid ((Pq.out).box (b' := w.heap.size + 1 + 1) (by omega) (.bool nu) (.slice adu xu.length qu))
  replace Pr := hid ((Pr.out).box (b' := w.heap.size + 1 + 1) (by omega) (.bool nu) (.slice adu xu.length qu))
  replace G : Hid (Below w.heap.size w (((D23.setCell ⟨w.heap.size + 1 + 1, 0, none⟩ (.bool nu)).setCell ⟨w.heap.size + 1 + 1, 1, none⟩ (.slice adu xu.length qu)))) := bset (bset (G.out) (by omega)) (by omega)
  have sz25 : V25.heap.size = D23.heap.size := by rw [← hW]; simp
  rw [hW] at Za Zb Zq Zr Zo Zu Zv Zx Pa Pb Ps Pt Pq Pr G
  rw [hW]
  clear hW
  refine hK.out _ _ (fun _ => ⟨Pq.out.c0, Pq.out.c1, Pr.out.c0, Pr.out.c1⟩) ?_
  clear hK
  try simp only [Act.put]
  refine wpAnyT_one (i := 3) (o := { dst := none, op := Op.store 43 (Operand.tmp 5) (Operand.tmp 41), type := 0, pos := "ref.go:190", after := #[{ on := 1, ground := Ground.data }, { on := 2, ground := Ground.chain }, { on := 0, ground := Ground.phase }, { on := 1, ground := Ground.phase }, { on := 2, ground := Ground.phase }], guard := none }) (by kernel_rfl) rfl (fun K hK => ?_)
  have ct0 := Pt.out.c0
  have ct1 := Pt.out.c1
  have ft0 := Pt.out.fz 0
  have ft1 := Pt.out.fz 1
  go_simp
  clear ct0 ct1 ft0 ft1
  obtain ⟨V26, hW⟩ : ∃ V26, (V25.setCell ⟨w.heap.size + 1 + 1 + 1, 0, none⟩ (.bool nx)).setCell ⟨w.heap.size + 1 + 1 + 1, 1, none⟩ (.slice adx xx.length qx) = V26 := ⟨_, rfl⟩
  replace Za := hid ((Za.out).wk ((Pt.out).wk (.bool nx) (.slice adx xx.length qx)))
  replace Zb := hid ((Zb.out).wk ((Pt.out).wk (.bool nx) (.slice adx xx.length qx)))
  replace Zq := hid ((Zq.out).box (Pt.out) (.bool nx) (.slice adx xx.length qx))
  replace Zr := hid ((Zr.out).box (Pt.out) (.bool nx) (.slice adx xx.length qx))
  replace Zo := hid ((Zo.out).box (Pt.out) (.bool nx) (.slice adx xx.length qx))
  replace Zu := hid ((Zu.out).box (Pt.out) (.bool nx) (.slice adx xx.length qx))
  replace Zv := hid ((Zv.out).box (Pt.out) (.bool nx) (.slice adx xx.length qx))
  replace Zx := hid ((Zx.out).box (Pt.out) (.bool nx) (.slice adx xx.length qx))
  replace Pa := hid ((Pa.out).box (b' := w.heap.size + 1 + 1 + 1) (by omega) (.bool nx) (.slice adx xx.length qx))
  replace Pb := hid ((Pb.out).box (b' := w.heap.size + 1 + 1 + 1) (by omega) (.bool nx) (.slice adx xx.length qx))
  replace Ps := hid ((Ps.out).box (b' := w.heap.size + 1 + 1 + 1) (by omega) (.bool nx) (.slice adx xx.length qx))
  replace Pt := hid ((Pt.out).set (.bool nx) (.slice adx xx.length qx))
  replace Pq := hid ((Pq.out).box (b' := w.heap.size + 1 + 1 + 1) (by omega) (.bool nx) (.slice adx xx.length qx))
  replace Pr := hid ((Pr.out).box (b' := w.heap.size + 1 + 1 + 1) (by omega) (.bool nx) (.slice adx xx.length qx))
  replace G : Hid (Below w.heap.size w (((V25.setCell ⟨w.heap.size + 1 + 1 + 1, 0, none⟩ (.bool nx)).setCell ⟨w.heap.size + 1 + 1 + 1, 1, none⟩ (.slice adx xx.length qx)))) := bset (bset (G.out) (by omega)) (by omega)
  have sz26 : V26.heap.size = V25.heap.size := by rw [← hW]; simp
  rw [hW] at Za Zb Zq Zr Zo Zu Zv Zx Pa Pb Ps Pt Pq Pr G
  rw [hW]
  clear hW
  refine hK.out _ _ (fun h => absurd h (by decide)) ?_
  clear hK
  try simp only [Act.put]
  refine wpAnyT_one (i := 4) (o := { dst := some 6, op := Op.assign (Operand.const (Value.int IntKind.i64 0)), type := 29, pos := "ref.go:190", after := #[{ on := 3, ground := Ground.chain }, { on := 0, ground := Ground.phase }, { on := 1, ground := Ground.phase }, { on := 2, ground := Ground.phase }, { on := 3, ground := Ground.phase }], guard := none }) (by kernel_rfl) rfl (fun K hK => ?_)
  go_simp
  refine hK.out _ _ (fun h => absurd h (by decide)) ?_
  clear hK
  try simp only [Act.put]
  refine wpAnyT_done (by kernel_rfl) ?_ _
  have YQ := hid ((Zu.out.mono (B' := w.heap.size) (by omega)).more (l := k + 2) (by omega))
  have YR := hid ((Zx.out.mono (B' := w.heap.size) (by omega)).more (l := k + 2) (by omega))
  go_wp2
  exact bodyPost_ret (zback2 Tryz.results52 Ps.out Pt.out _ (by rfl) (by rfl) (by rfl)) rfl ⟨_, _, rfl, YQ.out, YR.out, G.out⟩
set_option maxHeartbeats 6400000 in
set_option maxRecDepth 100000 in
theorem rmod_of {w : World} {va vb : Value} {A B q r : Int} {k kr : Nat} (ha : Zi w va A k) (hb : Zi w vb B k) (H : ∀ w', Zi w' va A k → Zi w' vb B k → Calls Tryz.prog 52 #[va, vb] w' (GivesZ2 0 w' q r kr kr)) :
    Calls Tryz.prog 34 #[va, vb] w (GivesZ1 0 w r kr) := by
  have HH := hid H
  clear H
  have za0 := ha
  obtain ⟨na, xa, ada, ca, rfl, -, -, -⟩ := ha
  have zb0 := hb
  obtain ⟨nb, xb, adb, cb, rfl, -, -, -⟩ := hb
  obtain ⟨W0, hW⟩ : ∃ W0, ((w.alloc (duo (.bool na) (.slice ada xa.length ca))).alloc (duo (.bool nb) (.slice adb xb.length cb))).alloc zbox = W0 := ⟨_, rfl⟩
  obtain ⟨b0, sz0⟩ := alloc3 w (duo (.bool na) (.slice ada xa.length ca)) (duo (.bool nb) (.slice adb xb.length cb)) zbox
  rw [hW] at b0 sz0
  have Pa : Hid (Duo W0 (w.heap.size) (.bool na) (.slice ada xa.length ca)) := by unfold Hid; rw [← hW]; exact duo_late (duo_late (duo_at (by simp)) _) _
  have Pb : Hid (Duo W0 (w.heap.size + 1) (.bool nb) (.slice adb xb.length cb)) := by unfold Hid; rw [← hW]; exact duo_late (duo_at (by simp)) _
  have Ps : Hid (Duo W0 (w.heap.size + 1 + 1) (.bool false) (.slice none 0 0)) := by unfold Hid; rw [← hW]; exact duo_at (by simp)
  have Za := hid (za0.now b0)
  clear za0
  have Zb := hid (zb0.now b0)
  clear zb0
  have G := hid b0
  clear b0
  have EW := hid hW
  clear hW
  go_enter Tryz.func34, Tryz.ntmps34
  have ca0 := Pa.out.c0
  have ca1 := Pa.out.c1
  have cb0 := Pb.out.c0
  have cb1 := Pb.out.c1
  rw [← EW.out] at ca0 ca1 cb0 cb1
  go_wp2_with fail
  rw [EW.out]
  clear EW
  clear ca0 ca1 cb0 cb1
  refine (HH.out _ Za.out Zb.out).mono ?_
  rintro e w1 ⟨r0, r1, rfl, m0, m1, b⟩
  obtain ⟨nq, xq, adq, qq, rfl, -, -, -, -, -⟩ := id m0
  obtain ⟨nr, xr, adr, qr, rfl, -, -, -, -, -⟩ := id m1
  replace Za := hid (Za.out.now b)
  replace Zb := hid (Zb.out.now b)
  replace Pa := hid (Pa.out.step b)
  replace Pb := hid (Pb.out.step b)
  replace Ps := hid (Ps.out.step b)
  replace G := hid (below_step G.out b)
  have lz2 := (show Below _ _ _ from b).size
  have Zq := hid m0
  have Zr := hid m1
  clear b m0 m1
  obtain ⟨V3, hW⟩ : ∃ V3, (w1.alloc (duo (.bool nq) (.slice adq xq.length qq))).alloc (duo (.bool nr) (.slice adr xr.length qr)) = V3 := ⟨_, rfl⟩
  obtain ⟨kW, sz3⟩ := alloc2 w1 (duo (.bool nq) (.slice adq xq.length qq)) (duo (.bool nr) (.slice adr xr.length qr))
  rw [hW] at kW sz3
  replace Za := hid (Za.out.now kW)
  replace Zb := hid (Zb.out.now kW)
  replace Zq := hid (Zq.out.now kW)
  replace Zr := hid (Zr.out.now kW)
  replace Pa := hid (Pa.out.step kW)
  replace Pb := hid (Pb.out.step kW)
  replace Ps := hid (Ps.out.step kW)
  replace G := hid (below_step G.out kW)
  have lz4 := (show Below _ _ _ from kW).size
  have Pq : Hid (Duo V3 (w1.heap.size) (.bool nq) (.slice adq xq.length qq)) := by unfold Hid; rw [← hW]; exact duo_late (duo_at (by simp)) _
  have Pr : Hid (Duo V3 (w1.heap.size + 1) (.bool nr) (.slice adr xr.length qr)) := by unfold Hid; rw [← hW]; exact duo_at (by simp)
  clear kW
  have y0 := Ps.out.c0
  have y1 := Ps.out.c1
  have f0 := Ps.out.fz 0
  have f1 := Ps.out.fz 1
  have r0 := Pr.out.c0
  have r1 := Pr.out.c1
  rw [← hW] at y0 y1 f0 f1 r0 r1
  have EW := hid hW
  clear hW
  go_wp2_with fail
  rw [EW.out]
  exact bodyPost_ret (zback1 Tryz.results34 (Ps.out.set _ _) _ (by rfl) (by rfl)) rfl (gz1_end (B := W0.heap.size) (Zr.out.mono (by omega)) G.out (by omega) (by omega))
theorem rmod_z {w : World} {va vb : Value} {A B : Int} {k : Nat} (ha : Zi w va A k) (hb : Zi w vb B k) (hB : 0 < B) (hk : k ≤ 68719476736) : Calls Tryz.prog 34 #[va, vb] w (GivesZ1 0 w (A % B) (k + 2)) := by
  by_cases hs : A.tmod B < 0
  · rw [← (euclid_bits (z := A) (y := B) (by omega)).1 hs]
    exact rmod_of ha hb fun w' h h' => reuclid_neg h h' hB hk hs
  · rw [← (euclid_bits (z := A) (y := B) (by omega)).2 hs]
    exact rmod_of ha hb fun w' h h' => reuclid_pos h h' hB hk hs
end Go.Proofs.YtiedmlfiboalhaaGreat
