/-
  Ar8: Mul, Add, Sub, Div.
-/
import Derived.Test.YtaoammmnpfbdfaaQOf8
import Derived.Test.YtaoammmnpfbdfaaQTail
namespace Go.Proofs.Ytaoammmnpfbdfaa
open Go.RowKit
set_option linter.unusedVariables false

set_option maxHeartbeats 6400000 in
set_option maxRecDepth 100000 in
theorem fmul_z {w : World} {a0 a1 a2 a3 b0 b1 b2 b3 : Value} {AN AD BN BD : Int} {k : Nat} (han : Zi w (.agg #[a0, a1]) AN k) (had : Zi w (.agg #[a2, a3]) AD k) (hbn : Zi w (.agg #[b0, b1]) BN k) (hbd : Zi w (.agg #[b2, b3]) BD k) (hk : k ≤ 17179869184) (hD : AD * BD ≠ 0) :
    Calls Try.prog 12 #[.agg #[a0, a1, a2, a3], .agg #[b0, b1, b2, b3]] w (GivesF w (Rat.divInt (AN * BN) (AD * BD)) (k + k)) := by
  have HD := hid hD
  clear hD
  have zan0 := han
  obtain ⟨nan, xan, adan, can, ev, -, -, -⟩ := han
  simp only [Value.agg.injEq] at ev
  obtain ⟨rfl, rfl⟩ := pair_eq ev
  have zad0 := had
  obtain ⟨nad, xad, adad, cad, ev, -, -, -⟩ := had
  simp only [Value.agg.injEq] at ev
  obtain ⟨rfl, rfl⟩ := pair_eq ev
  have zbn0 := hbn
  obtain ⟨nbn, xbn, adbn, cbn, ev, -, -, -⟩ := hbn
  simp only [Value.agg.injEq] at ev
  obtain ⟨rfl, rfl⟩ := pair_eq ev
  have zbd0 := hbd
  obtain ⟨nbd, xbd, adbd, cbd, ev, -, -, -⟩ := hbd
  simp only [Value.agg.injEq] at ev
  obtain ⟨rfl, rfl⟩ := pair_eq ev
  obtain ⟨W0, hW⟩ : ∃ W0, ((w.alloc (.cells #[(.bool nan), (.slice adan xan.length can), (.bool nad), (.slice adad xad.length cad)] 26)).alloc (.cells #[(.bool nbn), (.slice adbn xbn.length cbn), (.bool nbd), (.slice adbd xbd.length cbd)] 26)).alloc (.cells #[(.bool false), (.slice none 0 0), (.bool false), (.slice none 0 0)] 26) = W0 := ⟨_, rfl⟩
  obtain ⟨b0, sz0⟩ := alloc3 w (.cells #[(.bool nan), (.slice adan xan.length can), (.bool nad), (.slice adad xad.length cad)] 26) (.cells #[(.bool nbn), (.slice adbn xbn.length cbn), (.bool nbd), (.slice adbd xbd.length cbd)] 26) (.cells #[(.bool false), (.slice none 0 0), (.bool false), (.slice none 0 0)] 26)
  rw [hW] at b0 sz0
  have Pa : Hid (Cel W0 (w.heap.size) 26 [(.bool nan), (.slice adan xan.length can), (.bool nad), (.slice adad xad.length cad)]) := by unfold Hid; rw [← hW]; exact cel_late (cel_late (cel_at (by simp)) _) _
  have Pb : Hid (Cel W0 (w.heap.size + 1) 26 [(.bool nbn), (.slice adbn xbn.length cbn), (.bool nbd), (.slice adbd xbd.length cbd)]) := by unfold Hid; rw [← hW]; exact cel_late (cel_at (by simp)) _
  have PR : Hid (Cel W0 (w.heap.size + 1 + 1) 26 [(.bool false), (.slice none 0 0), (.bool false), (.slice none 0 0)]) := by unfold Hid; rw [← hW]; exact cel_at (by simp)
  have Zan := hid (zan0.now b0)
  clear zan0
  have Zad := hid (zad0.now b0)
  clear zad0
  have Zbn := hid (zbn0.now b0)
  clear zbn0
  have Zbd := hid (zbd0.now b0)
  clear zbd0
  have G := hid b0
  clear b0
  have EW := hid hW
  clear hW
  go_enter Try.func12, Try.ntmps12
  skip
  go_wp2_with fail
  rw [EW.out]
  clear EW
  refine wp_region_tail (fun w' => w'.cell? ⟨w.heap.size, 0, none⟩ = some (.bool nan) ∧ w'.cell? ⟨w.heap.size, 1, none⟩ = some (.slice adan xan.length can) ∧ w'.cell? ⟨w.heap.size, 2, none⟩ = some (.bool nad) ∧ w'.cell? ⟨w.heap.size, 3, none⟩ = some (.slice adad xad.length cad) ∧ w'.cell? ⟨w.heap.size + 1, 0, none⟩ = some (.bool nbn) ∧ w'.cell? ⟨w.heap.size + 1, 1, none⟩ = some (.slice adbn xbn.length cbn) ∧ w'.cell? ⟨w.heap.size + 1, 2, none⟩ = some (.bool nbd) ∧ w'.cell? ⟨w.heap.size + 1, 3, none⟩ = some (.slice adbd xbd.length cbd)) 13 (by kernel_rfl) ?_
  obtain ⟨D1, hD⟩ : ∃ D1, W0.drew = D1 := ⟨_, rfl⟩
  have b : Below W0.heap.size W0 D1 := by rw [← hD]; exact (Below.refl _ _).drew
  rw [hD]
  clear hD
  replace Zan := hid (Zan.out.now b)
  replace Zad := hid (Zad.out.now b)
  replace Zbn := hid (Zbn.out.now b)
  replace Zbd := hid (Zbd.out.now b)
  replace Pa := hid (Pa.out.step b)
  replace Pb := hid (Pb.out.step b)
  replace PR := hid (PR.out.step b)
  replace G := hid (below_step G.out b)
  have lz2 := (show Below _ _ _ from b).size
  clear b
  refine wpAnyT_take (i := 0) (oi := { dst := some 6, op := Op.fieldAddr 26 (Operand.tmp 2) 0, type := 0, pos := "frac.go:40", after := #[], guard := none }) (v := (.pointer (some ⟨w.heap.size, 0, none⟩))) rfl (by kernel_rfl) (fun _ _ _ h => h) (Or.inl ⟨by rfl, ?_⟩) ⟨(Pa.out.at (i := 0) rfl), (Pa.out.at (i := 1) rfl), (Pa.out.at (i := 2) rfl), (Pa.out.at (i := 3) rfl), (Pb.out.at (i := 0) rfl), (Pb.out.at (i := 1) rfl), (Pb.out.at (i := 2) rfl), (Pb.out.at (i := 3) rfl)⟩ ?_
  · intro w hSw
    (try dsimp only at hSw)
    go_simp
  simp only [Act.put, List.setIfInBounds_toArray, List.set_cons_zero, List.set_cons_succ]
  refine wpAnyT_take (i := 1) (oi := { dst := some 7, op := Op.load 24 (Operand.tmp 6), type := 24, pos := "frac.go:40", after := #[{ on := 0, ground := Ground.data }], guard := none }) (v := (.agg #[(.bool nan), (.slice adan xan.length can)])) rfl (by kernel_rfl) (fun _ _ _ h => h) (Or.inl ⟨by rfl, ?_⟩) ⟨(Pa.out.at (i := 0) rfl), (Pa.out.at (i := 1) rfl), (Pa.out.at (i := 2) rfl), (Pa.out.at (i := 3) rfl), (Pb.out.at (i := 0) rfl), (Pb.out.at (i := 1) rfl), (Pb.out.at (i := 2) rfl), (Pb.out.at (i := 3) rfl)⟩ ?_
  · intro w hSw
    (try dsimp only at hSw)
    go_simp
  simp only [Act.put, List.setIfInBounds_toArray, List.set_cons_zero, List.set_cons_succ]
  refine wpAnyT_take (i := 2) (oi := { dst := some 8, op := Op.fieldAddr 26 (Operand.tmp 3) 0, type := 0, pos := "frac.go:40", after := #[], guard := none }) (v := (.pointer (some ⟨w.heap.size + 1, 0, none⟩))) rfl (by kernel_rfl) (fun _ _ _ h => h) (Or.inl ⟨by rfl, ?_⟩) ⟨(Pa.out.at (i := 0) rfl), (Pa.out.at (i := 1) rfl), (Pa.out.at (i := 2) rfl), (Pa.out.at (i := 3) rfl), (Pb.out.at (i := 0) rfl), (Pb.out.at (i := 1) rfl), (Pb.out.at (i := 2) rfl), (Pb.out.at (i := 3) rfl)⟩ ?_
  · intro w hSw
    (try dsimp only at hSw)
    go_simp
  simp only [Act.put, List.setIfInBounds_toArray, List.set_cons_zero, List.set_cons_succ]
  refine wpAnyT_take (i := 3) (oi := { dst := some 9, op := Op.load 24 (Operand.tmp 8), type := 24, pos := "frac.go:40", after := #[{ on := 2, ground := Ground.data }], guard := none }) (v := (.agg #[(.bool nbn), (.slice adbn xbn.length cbn)])) rfl (by kernel_rfl) (fun _ _ _ h => h) (Or.inl ⟨by rfl, ?_⟩) ⟨(Pa.out.at (i := 0) rfl), (Pa.out.at (i := 1) rfl), (Pa.out.at (i := 2) rfl), (Pa.out.at (i := 3) rfl), (Pb.out.at (i := 0) rfl), (Pb.out.at (i := 1) rfl), (Pb.out.at (i := 2) rfl), (Pb.out.at (i := 3) rfl)⟩ ?_
  · intro w hSw
    (try dsimp only at hSw)
    go_simp
  simp only [Act.put, List.setIfInBounds_toArray, List.set_cons_zero, List.set_cons_succ]
  refine wpAnyT_take (i := 5) (oi := { dst := some 11, op := Op.fieldAddr 26 (Operand.tmp 2) 1, type := 0, pos := "frac.go:40", after := #[], guard := none }) (v := (.pointer (some ⟨w.heap.size, 2, none⟩))) rfl (by kernel_rfl) (fun _ _ _ h => h) (Or.inl ⟨by rfl, ?_⟩) ⟨(Pa.out.at (i := 0) rfl), (Pa.out.at (i := 1) rfl), (Pa.out.at (i := 2) rfl), (Pa.out.at (i := 3) rfl), (Pb.out.at (i := 0) rfl), (Pb.out.at (i := 1) rfl), (Pb.out.at (i := 2) rfl), (Pb.out.at (i := 3) rfl)⟩ ?_
  · intro w hSw
    (try dsimp only at hSw)
    go_simp
  simp only [Act.put, List.setIfInBounds_toArray, List.set_cons_zero, List.set_cons_succ]
  refine wpAnyT_take (i := 6) (oi := { dst := some 12, op := Op.load 24 (Operand.tmp 11), type := 24, pos := "frac.go:40", after := #[{ on := 5, ground := Ground.data }], guard := none }) (v := (.agg #[(.bool nad), (.slice adad xad.length cad)])) rfl (by kernel_rfl) (fun _ _ _ h => h) (Or.inl ⟨by rfl, ?_⟩) ⟨(Pa.out.at (i := 0) rfl), (Pa.out.at (i := 1) rfl), (Pa.out.at (i := 2) rfl), (Pa.out.at (i := 3) rfl), (Pb.out.at (i := 0) rfl), (Pb.out.at (i := 1) rfl), (Pb.out.at (i := 2) rfl), (Pb.out.at (i := 3) rfl)⟩ ?_
  · intro w hSw
    (try dsimp only at hSw)
    go_simp
  simp only [Act.put, List.setIfInBounds_toArray, List.set_cons_zero, List.set_cons_succ]
  refine wpAnyT_take (i := 7) (oi := { dst := some 13, op := Op.fieldAddr 26 (Operand.tmp 3) 1, type := 0, pos := "frac.go:40", after := #[], guard := none }) (v := (.pointer (some ⟨w.heap.size + 1, 2, none⟩))) rfl (by kernel_rfl) (fun _ _ _ h => h) (Or.inl ⟨by rfl, ?_⟩) ⟨(Pa.out.at (i := 0) rfl), (Pa.out.at (i := 1) rfl), (Pa.out.at (i := 2) rfl), (Pa.out.at (i := 3) rfl), (Pb.out.at (i := 0) rfl), (Pb.out.at (i := 1) rfl), (Pb.out.at (i := 2) rfl), (Pb.out.at (i := 3) rfl)⟩ ?_
  · intro w hSw
    (try dsimp only at hSw)
    go_simp
  simp only [Act.put, List.setIfInBounds_toArray, List.set_cons_zero, List.set_cons_succ]
  refine wpAnyT_take (i := 8) (oi := { dst := some 14, op := Op.load 24 (Operand.tmp 13), type := 24, pos := "frac.go:40", after := #[{ on := 7, ground := Ground.data }], guard := none }) (v := (.agg #[(.bool nbd), (.slice adbd xbd.length cbd)])) rfl (by kernel_rfl) (fun _ _ _ h => h) (Or.inl ⟨by rfl, ?_⟩) ⟨(Pa.out.at (i := 0) rfl), (Pa.out.at (i := 1) rfl), (Pa.out.at (i := 2) rfl), (Pa.out.at (i := 3) rfl), (Pb.out.at (i := 0) rfl), (Pb.out.at (i := 1) rfl), (Pb.out.at (i := 2) rfl), (Pb.out.at (i := 3) rfl)⟩ ?_
  · intro w hSw
    (try dsimp only at hSw)
    go_simp
  simp only [Act.put, List.setIfInBounds_toArray, List.set_cons_zero, List.set_cons_succ]
  refine wpAnyT_one (i := 4) (o := { dst := some 10, op := Op.call { callee := Callee.value (Operand.func 16), args := #[Operand.tmp 7, Operand.tmp 9], argTypes := #[24, 24] }, type := 24, pos := "frac.go:40", after := #[{ on := 1, ground := Ground.data }, { on := 3, ground := Ground.data }], guard := none }) (by kernel_rfl) rfl (fun K hK => ?_)
  go_simp
  go_at_call 16
  refine (mul_z Zan.out Zbn.out (by omega)).mono ?_
  rintro e w3 ⟨r0, rfl, m0, b⟩
  obtain ⟨np, xp, adp, qp, rfl, -, -, -, -, -⟩ := id m0
  replace Zan := hid (Zan.out.now b)
  replace Zad := hid (Zad.out.now b)
  replace Zbn := hid (Zbn.out.now b)
  replace Zbd := hid (Zbd.out.now b)
  replace Pa := hid (Pa.out.step b)
  replace Pb := hid (Pb.out.step b)
  replace PR := hid (PR.out.step b)
  replace G := hid (below_step G.out b)
  have lz4 := (show Below _ _ _ from b).size
  have Zp := hid m0
  clear b m0
  refine hK.out _ _ (fun _ => ⟨(Pa.out.at (i := 0) rfl), (Pa.out.at (i := 1) rfl), (Pa.out.at (i := 2) rfl), (Pa.out.at (i := 3) rfl), (Pb.out.at (i := 0) rfl), (Pb.out.at (i := 1) rfl), (Pb.out.at (i := 2) rfl), (Pb.out.at (i := 3) rfl)⟩) ?_
  clear hK
  refine wpAnyT_one (i := 9) (o := { dst := some 15, op := Op.call { callee := Callee.value (Operand.func 16), args := #[Operand.tmp 12, Operand.tmp 14], argTypes := #[24, 24] }, type := 24, pos := "frac.go:40", after := #[{ on := 6, ground := Ground.data }, { on := 8, ground := Ground.data }, { on := 4, ground := Ground.chain }], guard := none }) (by kernel_rfl) rfl (fun K hK => ?_)
  go_simp
  go_at_call 16
  refine (mul_z Zad.out Zbd.out (by omega)).mono ?_
  rintro e w5 ⟨r0, rfl, m0, b⟩
  obtain ⟨nq, xq, adq, qq, rfl, -, -, -, -, -⟩ := id m0
  replace Zan := hid (Zan.out.now b)
  replace Zad := hid (Zad.out.now b)
  replace Zbn := hid (Zbn.out.now b)
  replace Zbd := hid (Zbd.out.now b)
  replace Zp := hid (Zp.out.now b)
  replace Pa := hid (Pa.out.step b)
  replace Pb := hid (Pb.out.step b)
  replace PR := hid (PR.out.step b)
  replace G := hid (below_step G.out b)
  have lz6 := (show Below _ _ _ from b).size
  have Zq := hid m0
  clear b m0
  refine hK.out _ _ (fun _ => ⟨(Pa.out.at (i := 0) rfl), (Pa.out.at (i := 1) rfl), (Pa.out.at (i := 2) rfl), (Pa.out.at (i := 3) rfl), (Pb.out.at (i := 0) rfl), (Pb.out.at (i := 1) rfl), (Pb.out.at (i := 2) rfl), (Pb.out.at (i := 3) rfl)⟩) ?_
  clear hK
  refine wpAnyT_one (i := 10) (o := { dst := some 16, op := Op.call { callee := Callee.value (Operand.func 9), args := #[Operand.tmp 10, Operand.tmp 15], argTypes := #[24, 24] }, type := 29, pos := "frac.go:40", after := #[{ on := 4, ground := Ground.data }, { on := 9, ground := Ground.data }, { on := 9, ground := Ground.chain }], guard := none }) (by kernel_rfl) rfl (fun K hK => ?_)
  go_simp
  go_at_call 9
  refine (fof_z Zp.out.zi Zq.out.zi (by omega) HD.out).mono ?_
  rintro e w7 ⟨r0, r1, r2, r3, rfl, m0, m1, b⟩
  obtain ⟨nn, xn, adn, qn, rfl, rfl⟩ := m0.zi.comp
  obtain ⟨nd, xd, add, qd, rfl, rfl⟩ := m1.zi.comp
  replace Zan := hid (Zan.out.now b)
  replace Zad := hid (Zad.out.now b)
  replace Zbn := hid (Zbn.out.now b)
  replace Zbd := hid (Zbd.out.now b)
  replace Zp := hid (Zp.out.now b)
  replace Zq := hid (Zq.out.now b)
  replace Pa := hid (Pa.out.step b)
  replace Pb := hid (Pb.out.step b)
  replace PR := hid (PR.out.step b)
  replace G := hid (below_step G.out b)
  have lz8 := (show Below _ _ _ from b).size
  have Zn := hid m0
  have Zd := hid m1
  clear b m0 m1
  refine hK.out _ _ (fun _ => ⟨(Pa.out.at (i := 0) rfl), (Pa.out.at (i := 1) rfl), (Pa.out.at (i := 2) rfl), (Pa.out.at (i := 3) rfl), (Pb.out.at (i := 0) rfl), (Pb.out.at (i := 1) rfl), (Pb.out.at (i := 2) rfl), (Pb.out.at (i := 3) rfl)⟩) ?_
  clear hK
  refine wpAnyT_take (i := 11) (oi := { dst := some 17, op := Op.extract (Operand.tmp 16) 0, type := 26, pos := "frac.go:40", after := #[{ on := 10, ground := Ground.data }], guard := none }) (v := (.agg #[.bool nn, .slice adn xn.length qn, .bool nd, .slice add xd.length qd])) rfl (by kernel_rfl) (fun _ _ _ h => h) (Or.inl ⟨by rfl, ?_⟩) ⟨(Pa.out.at (i := 0) rfl), (Pa.out.at (i := 1) rfl), (Pa.out.at (i := 2) rfl), (Pa.out.at (i := 3) rfl), (Pb.out.at (i := 0) rfl), (Pb.out.at (i := 1) rfl), (Pb.out.at (i := 2) rfl), (Pb.out.at (i := 3) rfl)⟩ ?_
  · intro w hSw
    (try dsimp only at hSw)
    go_simp
  simp only [Act.put, List.setIfInBounds_toArray, List.set_cons_zero, List.set_cons_succ]
  refine wpAnyT_take (i := 12) (oi := { dst := some 18, op := Op.extract (Operand.tmp 16) 1, type := 28, pos := "frac.go:40", after := #[{ on := 10, ground := Ground.data }], guard := none }) (v := (.int .i64 0)) rfl (by kernel_rfl) (fun _ _ _ h => h) (Or.inl ⟨by rfl, ?_⟩) ⟨(Pa.out.at (i := 0) rfl), (Pa.out.at (i := 1) rfl), (Pa.out.at (i := 2) rfl), (Pa.out.at (i := 3) rfl), (Pb.out.at (i := 0) rfl), (Pb.out.at (i := 1) rfl), (Pb.out.at (i := 2) rfl), (Pb.out.at (i := 3) rfl)⟩ ?_
  · intro w hSw
    (try dsimp only at hSw)
    go_simp
  simp only [Act.put, List.setIfInBounds_toArray, List.set_cons_zero, List.set_cons_succ]
  refine wpAnyT_one (i := 13) (o := { dst := none, op := Op.store 26 (Operand.tmp 4) (Operand.tmp 17), type := 0, pos := "frac.go:40", after := #[{ on := 11, ground := Ground.data }, { on := 10, ground := Ground.chain }, { on := 0, ground := Ground.phase }, { on := 1, ground := Ground.phase }, { on := 2, ground := Ground.phase }, { on := 3, ground := Ground.phase }, { on := 4, ground := Ground.phase }, { on := 5, ground := Ground.phase }, { on := 6, ground := Ground.phase }, { on := 7, ground := Ground.phase }, { on := 8, ground := Ground.phase }, { on := 9, ground := Ground.phase }, { on := 10, ground := Ground.phase }, { on := 11, ground := Ground.phase }, { on := 12, ground := Ground.phase }], guard := none }) (by kernel_rfl) rfl (fun K hK => ?_)
  have cR0 := (PR.out.at (i := 0) rfl)
  have cR1 := (PR.out.at (i := 1) rfl)
  have cR2 := (PR.out.at (i := 2) rfl)
  have cR3 := (PR.out.at (i := 3) rfl)
  have fR0 := PR.out.fz 0
  have fR1 := PR.out.fz 1
  have fR2 := PR.out.fz 2
  have fR3 := PR.out.fz 3
  go_simp
  clear cR0 cR1 cR2 cR3 fR0 fR1 fR2 fR3
  obtain ⟨V9, hW⟩ : ∃ V9, (((w7.setCell ⟨w.heap.size + 1 + 1, 0, none⟩ (.bool nn)).setCell ⟨w.heap.size + 1 + 1, 1, none⟩ (.slice adn xn.length qn)).setCell ⟨w.heap.size + 1 + 1, 2, none⟩ (.bool nd)).setCell ⟨w.heap.size + 1 + 1, 3, none⟩ (.slice add xd.length qd) = V9 := ⟨_, rfl⟩
  replace Zan := hid ((Zan.out).wk ((PR.out).wk4 (.bool nn) (.slice adn xn.length qn) (.bool nd) (.slice add xd.length qd)))
  replace Zad := hid ((Zad.out).wk ((PR.out).wk4 (.bool nn) (.slice adn xn.length qn) (.bool nd) (.slice add xd.length qd)))
  replace Zbn := hid ((Zbn.out).wk ((PR.out).wk4 (.bool nn) (.slice adn xn.length qn) (.bool nd) (.slice add xd.length qd)))
  replace Zbd := hid ((Zbd.out).wk ((PR.out).wk4 (.bool nn) (.slice adn xn.length qn) (.bool nd) (.slice add xd.length qd)))
  replace Zp := hid ((Zp.out).put4f (PR.out) (.bool nn) (.slice adn xn.length qn) (.bool nd) (.slice add xd.length qd))
  replace Zq := hid ((Zq.out).put4f (PR.out) (.bool nn) (.slice adn xn.length qn) (.bool nd) (.slice add xd.length qd))
  replace Zn := hid ((Zn.out).put4f (PR.out) (.bool nn) (.slice adn xn.length qn) (.bool nd) (.slice add xd.length qd))
  replace Zd := hid ((Zd.out).put4f (PR.out) (.bool nn) (.slice adn xn.length qn) (.bool nd) (.slice add xd.length qd))
  replace Pa := hid ((Pa.out).away4 (b' := w.heap.size + 1 + 1) (by omega) (.bool nn) (.slice adn xn.length qn) (.bool nd) (.slice add xd.length qd))
  replace Pb := hid ((Pb.out).away4 (b' := w.heap.size + 1 + 1) (by omega) (.bool nn) (.slice adn xn.length qn) (.bool nd) (.slice add xd.length qd))
  replace PR := hid ((PR.out).put4 (.bool nn) (.slice adn xn.length qn) (.bool nd) (.slice add xd.length qd))
  replace G : Hid (Below w.heap.size w (((((w7.setCell ⟨w.heap.size + 1 + 1, 0, none⟩ (.bool nn)).setCell ⟨w.heap.size + 1 + 1, 1, none⟩ (.slice adn xn.length qn)).setCell ⟨w.heap.size + 1 + 1, 2, none⟩ (.bool nd)).setCell ⟨w.heap.size + 1 + 1, 3, none⟩ (.slice add xd.length qd)))) := bset (bset (bset (bset (G.out) (by omega)) (by omega)) (by omega)) (by omega)
  have sz9 : V9.heap.size = w7.heap.size := by rw [← hW]; simp
  dsimp only [put4] at Zan Zad Zbn Zbd Zp Zq Zn Zd Pa Pb PR
  rw [hW] at Zan Zad Zbn Zbd Zp Zq Zn Zd Pa Pb PR G
  rw [hW]
  clear hW
  refine hK.out _ _ (fun h => absurd h (by decide)) ?_
  clear hK
  try simp only [Act.put]
  refine wpAnyT_one (i := 14) (o := { dst := some 5, op := Op.assign (Operand.tmp 18), type := 28, pos := "frac.go:40", after := #[{ on := 12, ground := Ground.data }, { on := 13, ground := Ground.chain }, { on := 0, ground := Ground.phase }, { on := 1, ground := Ground.phase }, { on := 2, ground := Ground.phase }, { on := 3, ground := Ground.phase }, { on := 4, ground := Ground.phase }, { on := 5, ground := Ground.phase }, { on := 6, ground := Ground.phase }, { on := 7, ground := Ground.phase }, { on := 8, ground := Ground.phase }, { on := 9, ground := Ground.phase }, { on := 10, ground := Ground.phase }, { on := 11, ground := Ground.phase }, { on := 12, ground := Ground.phase }, { on := 13, ground := Ground.phase }], guard := none }) (by kernel_rfl) rfl (fun K hK => ?_)
  go_simp
  refine hK.out _ _ (fun h => absurd h (by decide)) ?_
  clear hK
  try simp only [Act.put]
  refine wpAnyT_done (by kernel_rfl) ?_ _
  go_wp2
  exact bodyPost_ret (fback Try.results12 PR.out _ (by rfl) (by rfl)) rfl ⟨_, _, _, _, rfl, Zn.out.mono (by omega), Zd.out.mono (by omega), G.out⟩

set_option maxHeartbeats 6400000 in
set_option maxRecDepth 100000 in
theorem fmul_bad {w : World} {a0 a1 a2 a3 b0 b1 b2 b3 : Value} {AN AD BN BD : Int} {k : Nat} (han : Zi w (.agg #[a0, a1]) AN k) (had : Zi w (.agg #[a2, a3]) AD k) (hbn : Zi w (.agg #[b0, b1]) BN k) (hbd : Zi w (.agg #[b2, b3]) BD k) (hk : k ≤ 17179869184) (hD : AD * BD = 0) :
    Calls Try.prog 12 #[.agg #[a0, a1, a2, a3], .agg #[b0, b1, b2, b3]] w (GivesFE 4 w) := by
  have HD := hid hD
  clear hD
  have zan0 := han
  obtain ⟨nan, xan, adan, can, ev, -, -, -⟩ := han
  simp only [Value.agg.injEq] at ev
  obtain ⟨rfl, rfl⟩ := pair_eq ev
  have zad0 := had
  obtain ⟨nad, xad, adad, cad, ev, -, -, -⟩ := had
  simp only [Value.agg.injEq] at ev
  obtain ⟨rfl, rfl⟩ := pair_eq ev
  have zbn0 := hbn
  obtain ⟨nbn, xbn, adbn, cbn, ev, -, -, -⟩ := hbn
  simp only [Value.agg.injEq] at ev
  obtain ⟨rfl, rfl⟩ := pair_eq ev
  have zbd0 := hbd
  obtain ⟨nbd, xbd, adbd, cbd, ev, -, -, -⟩ := hbd
  simp only [Value.agg.injEq] at ev
  obtain ⟨rfl, rfl⟩ := pair_eq ev
  obtain ⟨W0, hW⟩ : ∃ W0, ((w.alloc (.cells #[(.bool nan), (.slice adan xan.length can), (.bool nad), (.slice adad xad.length cad)] 26)).alloc (.cells #[(.bool nbn), (.slice adbn xbn.length cbn), (.bool nbd), (.slice adbd xbd.length cbd)] 26)).alloc (.cells #[(.bool false), (.slice none 0 0), (.bool false), (.slice none 0 0)] 26) = W0 := ⟨_, rfl⟩
  obtain ⟨b0, sz0⟩ := alloc3 w (.cells #[(.bool nan), (.slice adan xan.length can), (.bool nad), (.slice adad xad.length cad)] 26) (.cells #[(.bool nbn), (.slice adbn xbn.length cbn), (.bool nbd), (.slice adbd xbd.length cbd)] 26) (.cells #[(.bool false), (.slice none 0 0), (.bool false), (.slice none 0 0)] 26)
  rw [hW] at b0 sz0
  have Pa : Hid (Cel W0 (w.heap.size) 26 [(.bool nan), (.slice adan xan.length can), (.bool nad), (.slice adad xad.length cad)]) := by unfold Hid; rw [← hW]; exact cel_late (cel_late (cel_at (by simp)) _) _
  have Pb : Hid (Cel W0 (w.heap.size + 1) 26 [(.bool nbn), (.slice adbn xbn.length cbn), (.bool nbd), (.slice adbd xbd.length cbd)]) := by unfold Hid; rw [← hW]; exact cel_late (cel_at (by simp)) _
  have PR : Hid (Cel W0 (w.heap.size + 1 + 1) 26 [(.bool false), (.slice none 0 0), (.bool false), (.slice none 0 0)]) := by unfold Hid; rw [← hW]; exact cel_at (by simp)
  have Zan := hid (zan0.now b0)
  clear zan0
  have Zad := hid (zad0.now b0)
  clear zad0
  have Zbn := hid (zbn0.now b0)
  clear zbn0
  have Zbd := hid (zbd0.now b0)
  clear zbd0
  have G := hid b0
  clear b0
  have EW := hid hW
  clear hW
  go_enter Try.func12, Try.ntmps12
  skip
  go_wp2_with fail
  rw [EW.out]
  clear EW
  refine wp_region_tail (fun w' => w'.cell? ⟨w.heap.size, 0, none⟩ = some (.bool nan) ∧ w'.cell? ⟨w.heap.size, 1, none⟩ = some (.slice adan xan.length can) ∧ w'.cell? ⟨w.heap.size, 2, none⟩ = some (.bool nad) ∧ w'.cell? ⟨w.heap.size, 3, none⟩ = some (.slice adad xad.length cad) ∧ w'.cell? ⟨w.heap.size + 1, 0, none⟩ = some (.bool nbn) ∧ w'.cell? ⟨w.heap.size + 1, 1, none⟩ = some (.slice adbn xbn.length cbn) ∧ w'.cell? ⟨w.heap.size + 1, 2, none⟩ = some (.bool nbd) ∧ w'.cell? ⟨w.heap.size + 1, 3, none⟩ = some (.slice adbd xbd.length cbd)) 13 (by kernel_rfl) ?_
  obtain ⟨D1, hD⟩ : ∃ D1, W0.drew = D1 := ⟨_, rfl⟩
  have b : Below W0.heap.size W0 D1 := by rw [← hD]; exact (Below.refl _ _).drew
  rw [hD]
  clear hD
  replace Zan := hid (Zan.out.now b)
  replace Zad := hid (Zad.out.now b)
  replace Zbn := hid (Zbn.out.now b)
  replace Zbd := hid (Zbd.out.now b)
  replace Pa := hid (Pa.out.step b)
  replace Pb := hid (Pb.out.step b)
  replace PR := hid (PR.out.step b)
  replace G := hid (below_step G.out b)
  have lz2 := (show Below _ _ _ from b).size
  clear b
  refine wpAnyT_take (i := 0) (oi := { dst := some 6, op := Op.fieldAddr 26 (Operand.tmp 2) 0, type := 0, pos := "frac.go:40", after := #[], guard := none }) (v := (.pointer (some ⟨w.heap.size, 0, none⟩))) rfl (by kernel_rfl) (fun _ _ _ h => h) (Or.inl ⟨by rfl, ?_⟩) ⟨(Pa.out.at (i := 0) rfl), (Pa.out.at (i := 1) rfl), (Pa.out.at (i := 2) rfl), (Pa.out.at (i := 3) rfl), (Pb.out.at (i := 0) rfl), (Pb.out.at (i := 1) rfl), (Pb.out.at (i := 2) rfl), (Pb.out.at (i := 3) rfl)⟩ ?_
  · intro w hSw
    (try dsimp only at hSw)
    go_simp
  simp only [Act.put, List.setIfInBounds_toArray, List.set_cons_zero, List.set_cons_succ]
  refine wpAnyT_take (i := 1) (oi := { dst := some 7, op := Op.load 24 (Operand.tmp 6), type := 24, pos := "frac.go:40", after := #[{ on := 0, ground := Ground.data }], guard := none }) (v := (.agg #[(.bool nan), (.slice adan xan.length can)])) rfl (by kernel_rfl) (fun _ _ _ h => h) (Or.inl ⟨by rfl, ?_⟩) ⟨(Pa.out.at (i := 0) rfl), (Pa.out.at (i := 1) rfl), (Pa.out.at (i := 2) rfl), (Pa.out.at (i := 3) rfl), (Pb.out.at (i := 0) rfl), (Pb.out.at (i := 1) rfl), (Pb.out.at (i := 2) rfl), (Pb.out.at (i := 3) rfl)⟩ ?_
  · intro w hSw
    (try dsimp only at hSw)
    go_simp
  simp only [Act.put, List.setIfInBounds_toArray, List.set_cons_zero, List.set_cons_succ]
  refine wpAnyT_take (i := 2) (oi := { dst := some 8, op := Op.fieldAddr 26 (Operand.tmp 3) 0, type := 0, pos := "frac.go:40", after := #[], guard := none }) (v := (.pointer (some ⟨w.heap.size + 1, 0, none⟩))) rfl (by kernel_rfl) (fun _ _ _ h => h) (Or.inl ⟨by rfl, ?_⟩) ⟨(Pa.out.at (i := 0) rfl), (Pa.out.at (i := 1) rfl), (Pa.out.at (i := 2) rfl), (Pa.out.at (i := 3) rfl), (Pb.out.at (i := 0) rfl), (Pb.out.at (i := 1) rfl), (Pb.out.at (i := 2) rfl), (Pb.out.at (i := 3) rfl)⟩ ?_
  · intro w hSw
    (try dsimp only at hSw)
    go_simp
  simp only [Act.put, List.setIfInBounds_toArray, List.set_cons_zero, List.set_cons_succ]
  refine wpAnyT_take (i := 3) (oi := { dst := some 9, op := Op.load 24 (Operand.tmp 8), type := 24, pos := "frac.go:40", after := #[{ on := 2, ground := Ground.data }], guard := none }) (v := (.agg #[(.bool nbn), (.slice adbn xbn.length cbn)])) rfl (by kernel_rfl) (fun _ _ _ h => h) (Or.inl ⟨by rfl, ?_⟩) ⟨(Pa.out.at (i := 0) rfl), (Pa.out.at (i := 1) rfl), (Pa.out.at (i := 2) rfl), (Pa.out.at (i := 3) rfl), (Pb.out.at (i := 0) rfl), (Pb.out.at (i := 1) rfl), (Pb.out.at (i := 2) rfl), (Pb.out.at (i := 3) rfl)⟩ ?_
  · intro w hSw
    (try dsimp only at hSw)
    go_simp
  simp only [Act.put, List.setIfInBounds_toArray, List.set_cons_zero, List.set_cons_succ]
  refine wpAnyT_take (i := 5) (oi := { dst := some 11, op := Op.fieldAddr 26 (Operand.tmp 2) 1, type := 0, pos := "frac.go:40", after := #[], guard := none }) (v := (.pointer (some ⟨w.heap.size, 2, none⟩))) rfl (by kernel_rfl) (fun _ _ _ h => h) (Or.inl ⟨by rfl, ?_⟩) ⟨(Pa.out.at (i := 0) rfl), (Pa.out.at (i := 1) rfl), (Pa.out.at (i := 2) rfl), (Pa.out.at (i := 3) rfl), (Pb.out.at (i := 0) rfl), (Pb.out.at (i := 1) rfl), (Pb.out.at (i := 2) rfl), (Pb.out.at (i := 3) rfl)⟩ ?_
  · intro w hSw
    (try dsimp only at hSw)
    go_simp
  simp only [Act.put, List.setIfInBounds_toArray, List.set_cons_zero, List.set_cons_succ]
  refine wpAnyT_take (i := 6) (oi := { dst := some 12, op := Op.load 24 (Operand.tmp 11), type := 24, pos := "frac.go:40", after := #[{ on := 5, ground := Ground.data }], guard := none }) (v := (.agg #[(.bool nad), (.slice adad xad.length cad)])) rfl (by kernel_rfl) (fun _ _ _ h => h) (Or.inl ⟨by rfl, ?_⟩) ⟨(Pa.out.at (i := 0) rfl), (Pa.out.at (i := 1) rfl), (Pa.out.at (i := 2) rfl), (Pa.out.at (i := 3) rfl), (Pb.out.at (i := 0) rfl), (Pb.out.at (i := 1) rfl), (Pb.out.at (i := 2) rfl), (Pb.out.at (i := 3) rfl)⟩ ?_
  · intro w hSw
    (try dsimp only at hSw)
    go_simp
  simp only [Act.put, List.setIfInBounds_toArray, List.set_cons_zero, List.set_cons_succ]
  refine wpAnyT_take (i := 7) (oi := { dst := some 13, op := Op.fieldAddr 26 (Operand.tmp 3) 1, type := 0, pos := "frac.go:40", after := #[], guard := none }) (v := (.pointer (some ⟨w.heap.size + 1, 2, none⟩))) rfl (by kernel_rfl) (fun _ _ _ h => h) (Or.inl ⟨by rfl, ?_⟩) ⟨(Pa.out.at (i := 0) rfl), (Pa.out.at (i := 1) rfl), (Pa.out.at (i := 2) rfl), (Pa.out.at (i := 3) rfl), (Pb.out.at (i := 0) rfl), (Pb.out.at (i := 1) rfl), (Pb.out.at (i := 2) rfl), (Pb.out.at (i := 3) rfl)⟩ ?_
  · intro w hSw
    (try dsimp only at hSw)
    go_simp
  simp only [Act.put, List.setIfInBounds_toArray, List.set_cons_zero, List.set_cons_succ]
  refine wpAnyT_take (i := 8) (oi := { dst := some 14, op := Op.load 24 (Operand.tmp 13), type := 24, pos := "frac.go:40", after := #[{ on := 7, ground := Ground.data }], guard := none }) (v := (.agg #[(.bool nbd), (.slice adbd xbd.length cbd)])) rfl (by kernel_rfl) (fun _ _ _ h => h) (Or.inl ⟨by rfl, ?_⟩) ⟨(Pa.out.at (i := 0) rfl), (Pa.out.at (i := 1) rfl), (Pa.out.at (i := 2) rfl), (Pa.out.at (i := 3) rfl), (Pb.out.at (i := 0) rfl), (Pb.out.at (i := 1) rfl), (Pb.out.at (i := 2) rfl), (Pb.out.at (i := 3) rfl)⟩ ?_
  · intro w hSw
    (try dsimp only at hSw)
    go_simp
  simp only [Act.put, List.setIfInBounds_toArray, List.set_cons_zero, List.set_cons_succ]
  refine wpAnyT_one (i := 4) (o := { dst := some 10, op := Op.call { callee := Callee.value (Operand.func 16), args := #[Operand.tmp 7, Operand.tmp 9], argTypes := #[24, 24] }, type := 24, pos := "frac.go:40", after := #[{ on := 1, ground := Ground.data }, { on := 3, ground := Ground.data }], guard := none }) (by kernel_rfl) rfl (fun K hK => ?_)
  go_simp
  go_at_call 16
  refine (mul_z Zan.out Zbn.out (by omega)).mono ?_
  rintro e w3 ⟨r0, rfl, m0, b⟩
  obtain ⟨np, xp, adp, qp, rfl, -, -, -, -, -⟩ := id m0
  replace Zan := hid (Zan.out.now b)
  replace Zad := hid (Zad.out.now b)
  replace Zbn := hid (Zbn.out.now b)
  replace Zbd := hid (Zbd.out.now b)
  replace Pa := hid (Pa.out.step b)
  replace Pb := hid (Pb.out.step b)
  replace PR := hid (PR.out.step b)
  replace G := hid (below_step G.out b)
  have lz4 := (show Below _ _ _ from b).size
  have Zp := hid m0
  clear b m0
  refine hK.out _ _ (fun _ => ⟨(Pa.out.at (i := 0) rfl), (Pa.out.at (i := 1) rfl), (Pa.out.at (i := 2) rfl), (Pa.out.at (i := 3) rfl), (Pb.out.at (i := 0) rfl), (Pb.out.at (i := 1) rfl), (Pb.out.at (i := 2) rfl), (Pb.out.at (i := 3) rfl)⟩) ?_
  clear hK
  refine wpAnyT_one (i := 9) (o := { dst := some 15, op := Op.call { callee := Callee.value (Operand.func 16), args := #[Operand.tmp 12, Operand.tmp 14], argTypes := #[24, 24] }, type := 24, pos := "frac.go:40", after := #[{ on := 6, ground := Ground.data }, { on := 8, ground := Ground.data }, { on := 4, ground := Ground.chain }], guard := none }) (by kernel_rfl) rfl (fun K hK => ?_)
  go_simp
  go_at_call 16
  refine (mul_z Zad.out Zbd.out (by omega)).mono ?_
  rintro e w5 ⟨r0, rfl, m0, b⟩
  obtain ⟨nq, xq, adq, qq, rfl, -, -, -, -, -⟩ := id m0
  replace Zan := hid (Zan.out.now b)
  replace Zad := hid (Zad.out.now b)
  replace Zbn := hid (Zbn.out.now b)
  replace Zbd := hid (Zbd.out.now b)
  replace Zp := hid (Zp.out.now b)
  replace Pa := hid (Pa.out.step b)
  replace Pb := hid (Pb.out.step b)
  replace PR := hid (PR.out.step b)
  replace G := hid (below_step G.out b)
  have lz6 := (show Below _ _ _ from b).size
  have Zq := hid m0
  clear b m0
  refine hK.out _ _ (fun _ => ⟨(Pa.out.at (i := 0) rfl), (Pa.out.at (i := 1) rfl), (Pa.out.at (i := 2) rfl), (Pa.out.at (i := 3) rfl), (Pb.out.at (i := 0) rfl), (Pb.out.at (i := 1) rfl), (Pb.out.at (i := 2) rfl), (Pb.out.at (i := 3) rfl)⟩) ?_
  clear hK
  refine wpAnyT_one (i := 10) (o := { dst := some 16, op := Op.call { callee := Callee.value (Operand.func 9), args := #[Operand.tmp 10, Operand.tmp 15], argTypes := #[24, 24] }, type := 29, pos := "frac.go:40", after := #[{ on := 4, ground := Ground.data }, { on := 9, ground := Ground.data }, { on := 9, ground := Ground.chain }], guard := none }) (by kernel_rfl) rfl (fun K hK => ?_)
  go_simp
  go_at_call 9
  refine (fof_zero Zp.out.zi Zq.out.zi (by omega) HD.out).mono ?_
  rintro e w7 ⟨rfl, b⟩
  replace Zan := hid (Zan.out.now b)
  replace Zad := hid (Zad.out.now b)
  replace Zbn := hid (Zbn.out.now b)
  replace Zbd := hid (Zbd.out.now b)
  replace Zp := hid (Zp.out.now b)
  replace Zq := hid (Zq.out.now b)
  replace Pa := hid (Pa.out.step b)
  replace Pb := hid (Pb.out.step b)
  replace PR := hid (PR.out.step b)
  replace G := hid (below_step G.out b)
  have lz8 := (show Below _ _ _ from b).size
  clear b 
  refine hK.out _ _ (fun _ => ⟨(Pa.out.at (i := 0) rfl), (Pa.out.at (i := 1) rfl), (Pa.out.at (i := 2) rfl), (Pa.out.at (i := 3) rfl), (Pb.out.at (i := 0) rfl), (Pb.out.at (i := 1) rfl), (Pb.out.at (i := 2) rfl), (Pb.out.at (i := 3) rfl)⟩) ?_
  clear hK
  refine wpAnyT_take (i := 11) (oi := { dst := some 17, op := Op.extract (Operand.tmp 16) 0, type := 26, pos := "frac.go:40", after := #[{ on := 10, ground := Ground.data }], guard := none }) (v := (.agg #[(.bool false), (.slice none 0 0), (.bool false), (.slice none 0 0)])) rfl (by kernel_rfl) (fun _ _ _ h => h) (Or.inl ⟨by rfl, ?_⟩) ⟨(Pa.out.at (i := 0) rfl), (Pa.out.at (i := 1) rfl), (Pa.out.at (i := 2) rfl), (Pa.out.at (i := 3) rfl), (Pb.out.at (i := 0) rfl), (Pb.out.at (i := 1) rfl), (Pb.out.at (i := 2) rfl), (Pb.out.at (i := 3) rfl)⟩ ?_
  · intro w hSw
    (try dsimp only at hSw)
    go_simp
  simp only [Act.put, List.setIfInBounds_toArray, List.set_cons_zero, List.set_cons_succ]
  refine wpAnyT_take (i := 12) (oi := { dst := some 18, op := Op.extract (Operand.tmp 16) 1, type := 28, pos := "frac.go:40", after := #[{ on := 10, ground := Ground.data }], guard := none }) (v := (.int .i64 4)) rfl (by kernel_rfl) (fun _ _ _ h => h) (Or.inl ⟨by rfl, ?_⟩) ⟨(Pa.out.at (i := 0) rfl), (Pa.out.at (i := 1) rfl), (Pa.out.at (i := 2) rfl), (Pa.out.at (i := 3) rfl), (Pb.out.at (i := 0) rfl), (Pb.out.at (i := 1) rfl), (Pb.out.at (i := 2) rfl), (Pb.out.at (i := 3) rfl)⟩ ?_
  · intro w hSw
    (try dsimp only at hSw)
    go_simp
  simp only [Act.put, List.setIfInBounds_toArray, List.set_cons_zero, List.set_cons_succ]
  refine wpAnyT_one (i := 13) (o := { dst := none, op := Op.store 26 (Operand.tmp 4) (Operand.tmp 17), type := 0, pos := "frac.go:40", after := #[{ on := 11, ground := Ground.data }, { on := 10, ground := Ground.chain }, { on := 0, ground := Ground.phase }, { on := 1, ground := Ground.phase }, { on := 2, ground := Ground.phase }, { on := 3, ground := Ground.phase }, { on := 4, ground := Ground.phase }, { on := 5, ground := Ground.phase }, { on := 6, ground := Ground.phase }, { on := 7, ground := Ground.phase }, { on := 8, ground := Ground.phase }, { on := 9, ground := Ground.phase }, { on := 10, ground := Ground.phase }, { on := 11, ground := Ground.phase }, { on := 12, ground := Ground.phase }], guard := none }) (by kernel_rfl) rfl (fun K hK => ?_)
  have cR0 := (PR.out.at (i := 0) rfl)
  have cR1 := (PR.out.at (i := 1) rfl)
  have cR2 := (PR.out.at (i := 2) rfl)
  have cR3 := (PR.out.at (i := 3) rfl)
  have fR0 := PR.out.fz 0
  have fR1 := PR.out.fz 1
  have fR2 := PR.out.fz 2
  have fR3 := PR.out.fz 3
  go_simp
  clear cR0 cR1 cR2 cR3 fR0 fR1 fR2 fR3
  obtain ⟨V9, hW⟩ : ∃ V9, (((w7.setCell ⟨w.heap.size + 1 + 1, 0, none⟩ (.bool false)).setCell ⟨w.heap.size + 1 + 1, 1, none⟩ (.slice none 0 0)).setCell ⟨w.heap.size + 1 + 1, 2, none⟩ (.bool false)).setCell ⟨w.heap.size + 1 + 1, 3, none⟩ (.slice none 0 0) = V9 := ⟨_, rfl⟩
  replace Zan := hid ((Zan.out).wk ((PR.out).wk4 (.bool false) (.slice none 0 0) (.bool false) (.slice none 0 0)))
  replace Zad := hid ((Zad.out).wk ((PR.out).wk4 (.bool false) (.slice none 0 0) (.bool false) (.slice none 0 0)))
  replace Zbn := hid ((Zbn.out).wk ((PR.out).wk4 (.bool false) (.slice none 0 0) (.bool false) (.slice none 0 0)))
  replace Zbd := hid ((Zbd.out).wk ((PR.out).wk4 (.bool false) (.slice none 0 0) (.bool false) (.slice none 0 0)))
  replace Zp := hid ((Zp.out).put4f (PR.out) (.bool false) (.slice none 0 0) (.bool false) (.slice none 0 0))
  replace Zq := hid ((Zq.out).put4f (PR.out) (.bool false) (.slice none 0 0) (.bool false) (.slice none 0 0))
  replace Pa := hid ((Pa.out).away4 (b' := w.heap.size + 1 + 1) (by omega) (.bool false) (.slice none 0 0) (.bool false) (.slice none 0 0))
  replace Pb := hid ((Pb.out).away4 (b' := w.heap.size + 1 + 1) (by omega) (.bool false) (.slice none 0 0) (.bool false) (.slice none 0 0))
  replace PR := hid ((PR.out).put4 (.bool false) (.slice none 0 0) (.bool false) (.slice none 0 0))
  replace G : Hid (Below w.heap.size w (((((w7.setCell ⟨w.heap.size + 1 + 1, 0, none⟩ (.bool false)).setCell ⟨w.heap.size + 1 + 1, 1, none⟩ (.slice none 0 0)).setCell ⟨w.heap.size + 1 + 1, 2, none⟩ (.bool false)).setCell ⟨w.heap.size + 1 + 1, 3, none⟩ (.slice none 0 0)))) := bset (bset (bset (bset (G.out) (by omega)) (by omega)) (by omega)) (by omega)
  have sz9 : V9.heap.size = w7.heap.size := by rw [← hW]; simp
  dsimp only [put4] at Zan Zad Zbn Zbd Zp Zq Pa Pb PR
  rw [hW] at Zan Zad Zbn Zbd Zp Zq Pa Pb PR G
  rw [hW]
  clear hW
  refine hK.out _ _ (fun h => absurd h (by decide)) ?_
  clear hK
  try simp only [Act.put]
  refine wpAnyT_one (i := 14) (o := { dst := some 5, op := Op.assign (Operand.tmp 18), type := 28, pos := "frac.go:40", after := #[{ on := 12, ground := Ground.data }, { on := 13, ground := Ground.chain }, { on := 0, ground := Ground.phase }, { on := 1, ground := Ground.phase }, { on := 2, ground := Ground.phase }, { on := 3, ground := Ground.phase }, { on := 4, ground := Ground.phase }, { on := 5, ground := Ground.phase }, { on := 6, ground := Ground.phase }, { on := 7, ground := Ground.phase }, { on := 8, ground := Ground.phase }, { on := 9, ground := Ground.phase }, { on := 10, ground := Ground.phase }, { on := 11, ground := Ground.phase }, { on := 12, ground := Ground.phase }, { on := 13, ground := Ground.phase }], guard := none }) (by kernel_rfl) rfl (fun K hK => ?_)
  go_simp
  refine hK.out _ _ (fun h => absurd h (by decide)) ?_
  clear hK
  try simp only [Act.put]
  refine wpAnyT_done (by kernel_rfl) ?_ _
  go_wp2
  exact bodyPost_ret (fback Try.results12 PR.out _ (by rfl) (by rfl)) rfl ⟨rfl, G.out⟩

set_option maxHeartbeats 6400000 in
set_option maxRecDepth 100000 in
theorem fadd_z {w : World} {a0 a1 a2 a3 b0 b1 b2 b3 : Value} {AN AD BN BD : Int} {k : Nat} (han : Zi w (.agg #[a0, a1]) AN k) (had : Zi w (.agg #[a2, a3]) AD k) (hbn : Zi w (.agg #[b0, b1]) BN k) (hbd : Zi w (.agg #[b2, b3]) BD k) (hk : k ≤ 17179869184) (hD : AD * BD ≠ 0) :
    Calls Try.prog 10 #[.agg #[a0, a1, a2, a3], .agg #[b0, b1, b2, b3]] w (GivesF w (Rat.divInt (AN * BD + BN * AD) (AD * BD)) (k + k + 1)) := by
  have HD := hid hD
  clear hD
  have zan0 := han
  obtain ⟨nan, xan, adan, can, ev, -, -, -⟩ := han
  simp only [Value.agg.injEq] at ev
  obtain ⟨rfl, rfl⟩ := pair_eq ev
  have zad0 := had
  obtain ⟨nad, xad, adad, cad, ev, -, -, -⟩ := had
  simp only [Value.agg.injEq] at ev
  obtain ⟨rfl, rfl⟩ := pair_eq ev
  have zbn0 := hbn
  obtain ⟨nbn, xbn, adbn, cbn, ev, -, -, -⟩ := hbn
  simp only [Value.agg.injEq] at ev
  obtain ⟨rfl, rfl⟩ := pair_eq ev
  have zbd0 := hbd
  obtain ⟨nbd, xbd, adbd, cbd, ev, -, -, -⟩ := hbd
  simp only [Value.agg.injEq] at ev
  obtain ⟨rfl, rfl⟩ := pair_eq ev
  obtain ⟨W0, hW⟩ : ∃ W0, ((w.alloc (.cells #[(.bool nan), (.slice adan xan.length can), (.bool nad), (.slice adad xad.length cad)] 26)).alloc (.cells #[(.bool nbn), (.slice adbn xbn.length cbn), (.bool nbd), (.slice adbd xbd.length cbd)] 26)).alloc (.cells #[(.bool false), (.slice none 0 0), (.bool false), (.slice none 0 0)] 26) = W0 := ⟨_, rfl⟩
  obtain ⟨b0, sz0⟩ := alloc3 w (.cells #[(.bool nan), (.slice adan xan.length can), (.bool nad), (.slice adad xad.length cad)] 26) (.cells #[(.bool nbn), (.slice adbn xbn.length cbn), (.bool nbd), (.slice adbd xbd.length cbd)] 26) (.cells #[(.bool false), (.slice none 0 0), (.bool false), (.slice none 0 0)] 26)
  rw [hW] at b0 sz0
  have Pa : Hid (Cel W0 (w.heap.size) 26 [(.bool nan), (.slice adan xan.length can), (.bool nad), (.slice adad xad.length cad)]) := by unfold Hid; rw [← hW]; exact cel_late (cel_late (cel_at (by simp)) _) _
  have Pb : Hid (Cel W0 (w.heap.size + 1) 26 [(.bool nbn), (.slice adbn xbn.length cbn), (.bool nbd), (.slice adbd xbd.length cbd)]) := by unfold Hid; rw [← hW]; exact cel_late (cel_at (by simp)) _
  have PR : Hid (Cel W0 (w.heap.size + 1 + 1) 26 [(.bool false), (.slice none 0 0), (.bool false), (.slice none 0 0)]) := by unfold Hid; rw [← hW]; exact cel_at (by simp)
  have Zan := hid (zan0.now b0)
  clear zan0
  have Zad := hid (zad0.now b0)
  clear zad0
  have Zbn := hid (zbn0.now b0)
  clear zbn0
  have Zbd := hid (zbd0.now b0)
  clear zbd0
  have G := hid b0
  clear b0
  have EW := hid hW
  clear hW
  go_enter Try.func10, Try.ntmps10
  skip
  go_wp2_with fail
  rw [EW.out]
  clear EW
  refine wp_region_tail (fun w' => w'.cell? ⟨w.heap.size, 0, none⟩ = some (.bool nan) ∧ w'.cell? ⟨w.heap.size, 1, none⟩ = some (.slice adan xan.length can) ∧ w'.cell? ⟨w.heap.size, 2, none⟩ = some (.bool nad) ∧ w'.cell? ⟨w.heap.size, 3, none⟩ = some (.slice adad xad.length cad) ∧ w'.cell? ⟨w.heap.size + 1, 0, none⟩ = some (.bool nbn) ∧ w'.cell? ⟨w.heap.size + 1, 1, none⟩ = some (.slice adbn xbn.length cbn) ∧ w'.cell? ⟨w.heap.size + 1, 2, none⟩ = some (.bool nbd) ∧ w'.cell? ⟨w.heap.size + 1, 3, none⟩ = some (.slice adbd xbd.length cbd)) 18 (by kernel_rfl) ?_
  obtain ⟨D1, hD⟩ : ∃ D1, W0.drew = D1 := ⟨_, rfl⟩
  have b : Below W0.heap.size W0 D1 := by rw [← hD]; exact (Below.refl _ _).drew
  rw [hD]
  clear hD
  replace Zan := hid (Zan.out.now b)
  replace Zad := hid (Zad.out.now b)
  replace Zbn := hid (Zbn.out.now b)
  replace Zbd := hid (Zbd.out.now b)
  replace Pa := hid (Pa.out.step b)
  replace Pb := hid (Pb.out.step b)
  replace PR := hid (PR.out.step b)
  replace G := hid (below_step G.out b)
  have lz2 := (show Below _ _ _ from b).size
  clear b
  refine wpAnyT_take (i := 0) (oi := { dst := some 6, op := Op.fieldAddr 26 (Operand.tmp 2) 0, type := 0, pos := "frac.go:30", after := #[], guard := none }) (v := (.pointer (some ⟨w.heap.size, 0, none⟩))) rfl (by kernel_rfl) (fun _ _ _ h => h) (Or.inl ⟨by rfl, ?_⟩) ⟨(Pa.out.at (i := 0) rfl), (Pa.out.at (i := 1) rfl), (Pa.out.at (i := 2) rfl), (Pa.out.at (i := 3) rfl), (Pb.out.at (i := 0) rfl), (Pb.out.at (i := 1) rfl), (Pb.out.at (i := 2) rfl), (Pb.out.at (i := 3) rfl)⟩ ?_
  · intro w hSw
    (try dsimp only at hSw)
    go_simp
  simp only [Act.put, List.setIfInBounds_toArray, List.set_cons_zero, List.set_cons_succ]
  refine wpAnyT_take (i := 1) (oi := { dst := some 7, op := Op.load 24 (Operand.tmp 6), type := 24, pos := "frac.go:30", after := #[{ on := 0, ground := Ground.data }], guard := none }) (v := (.agg #[(.bool nan), (.slice adan xan.length can)])) rfl (by kernel_rfl) (fun _ _ _ h => h) (Or.inl ⟨by rfl, ?_⟩) ⟨(Pa.out.at (i := 0) rfl), (Pa.out.at (i := 1) rfl), (Pa.out.at (i := 2) rfl), (Pa.out.at (i := 3) rfl), (Pb.out.at (i := 0) rfl), (Pb.out.at (i := 1) rfl), (Pb.out.at (i := 2) rfl), (Pb.out.at (i := 3) rfl)⟩ ?_
  · intro w hSw
    (try dsimp only at hSw)
    go_simp
  simp only [Act.put, List.setIfInBounds_toArray, List.set_cons_zero, List.set_cons_succ]
  refine wpAnyT_take (i := 2) (oi := { dst := some 8, op := Op.fieldAddr 26 (Operand.tmp 3) 1, type := 0, pos := "frac.go:30", after := #[], guard := none }) (v := (.pointer (some ⟨w.heap.size + 1, 2, none⟩))) rfl (by kernel_rfl) (fun _ _ _ h => h) (Or.inl ⟨by rfl, ?_⟩) ⟨(Pa.out.at (i := 0) rfl), (Pa.out.at (i := 1) rfl), (Pa.out.at (i := 2) rfl), (Pa.out.at (i := 3) rfl), (Pb.out.at (i := 0) rfl), (Pb.out.at (i := 1) rfl), (Pb.out.at (i := 2) rfl), (Pb.out.at (i := 3) rfl)⟩ ?_
  · intro w hSw
    (try dsimp only at hSw)
    go_simp
  simp only [Act.put, List.setIfInBounds_toArray, List.set_cons_zero, List.set_cons_succ]
  refine wpAnyT_take (i := 3) (oi := { dst := some 9, op := Op.load 24 (Operand.tmp 8), type := 24, pos := "frac.go:30", after := #[{ on := 2, ground := Ground.data }], guard := none }) (v := (.agg #[(.bool nbd), (.slice adbd xbd.length cbd)])) rfl (by kernel_rfl) (fun _ _ _ h => h) (Or.inl ⟨by rfl, ?_⟩) ⟨(Pa.out.at (i := 0) rfl), (Pa.out.at (i := 1) rfl), (Pa.out.at (i := 2) rfl), (Pa.out.at (i := 3) rfl), (Pb.out.at (i := 0) rfl), (Pb.out.at (i := 1) rfl), (Pb.out.at (i := 2) rfl), (Pb.out.at (i := 3) rfl)⟩ ?_
  · intro w hSw
    (try dsimp only at hSw)
    go_simp
  simp only [Act.put, List.setIfInBounds_toArray, List.set_cons_zero, List.set_cons_succ]
  refine wpAnyT_take (i := 4) (oi := { dst := some 10, op := Op.fieldAddr 26 (Operand.tmp 3) 0, type := 0, pos := "frac.go:30", after := #[], guard := none }) (v := (.pointer (some ⟨w.heap.size + 1, 0, none⟩))) rfl (by kernel_rfl) (fun _ _ _ h => h) (Or.inl ⟨by rfl, ?_⟩) ⟨(Pa.out.at (i := 0) rfl), (Pa.out.at (i := 1) rfl), (Pa.out.at (i := 2) rfl), (Pa.out.at (i := 3) rfl), (Pb.out.at (i := 0) rfl), (Pb.out.at (i := 1) rfl), (Pb.out.at (i := 2) rfl), (Pb.out.at (i := 3) rfl)⟩ ?_
  · intro w hSw
    (try dsimp only at hSw)
    go_simp
  simp only [Act.put, List.setIfInBounds_toArray, List.set_cons_zero, List.set_cons_succ]
  refine wpAnyT_take (i := 5) (oi := { dst := some 11, op := Op.load 24 (Operand.tmp 10), type := 24, pos := "frac.go:30", after := #[{ on := 4, ground := Ground.data }], guard := none }) (v := (.agg #[(.bool nbn), (.slice adbn xbn.length cbn)])) rfl (by kernel_rfl) (fun _ _ _ h => h) (Or.inl ⟨by rfl, ?_⟩) ⟨(Pa.out.at (i := 0) rfl), (Pa.out.at (i := 1) rfl), (Pa.out.at (i := 2) rfl), (Pa.out.at (i := 3) rfl), (Pb.out.at (i := 0) rfl), (Pb.out.at (i := 1) rfl), (Pb.out.at (i := 2) rfl), (Pb.out.at (i := 3) rfl)⟩ ?_
  · intro w hSw
    (try dsimp only at hSw)
    go_simp
  simp only [Act.put, List.setIfInBounds_toArray, List.set_cons_zero, List.set_cons_succ]
  refine wpAnyT_take (i := 6) (oi := { dst := some 12, op := Op.fieldAddr 26 (Operand.tmp 2) 1, type := 0, pos := "frac.go:30", after := #[], guard := none }) (v := (.pointer (some ⟨w.heap.size, 2, none⟩))) rfl (by kernel_rfl) (fun _ _ _ h => h) (Or.inl ⟨by rfl, ?_⟩) ⟨(Pa.out.at (i := 0) rfl), (Pa.out.at (i := 1) rfl), (Pa.out.at (i := 2) rfl), (Pa.out.at (i := 3) rfl), (Pb.out.at (i := 0) rfl), (Pb.out.at (i := 1) rfl), (Pb.out.at (i := 2) rfl), (Pb.out.at (i := 3) rfl)⟩ ?_
  · intro w hSw
    (try dsimp only at hSw)
    go_simp
  simp only [Act.put, List.setIfInBounds_toArray, List.set_cons_zero, List.set_cons_succ]
  refine wpAnyT_take (i := 7) (oi := { dst := some 13, op := Op.load 24 (Operand.tmp 12), type := 24, pos := "frac.go:30", after := #[{ on := 6, ground := Ground.data }], guard := none }) (v := (.agg #[(.bool nad), (.slice adad xad.length cad)])) rfl (by kernel_rfl) (fun _ _ _ h => h) (Or.inl ⟨by rfl, ?_⟩) ⟨(Pa.out.at (i := 0) rfl), (Pa.out.at (i := 1) rfl), (Pa.out.at (i := 2) rfl), (Pa.out.at (i := 3) rfl), (Pb.out.at (i := 0) rfl), (Pb.out.at (i := 1) rfl), (Pb.out.at (i := 2) rfl), (Pb.out.at (i := 3) rfl)⟩ ?_
  · intro w hSw
    (try dsimp only at hSw)
    go_simp
  simp only [Act.put, List.setIfInBounds_toArray, List.set_cons_zero, List.set_cons_succ]
  refine wpAnyT_take (i := 10) (oi := { dst := some 16, op := Op.fieldAddr 26 (Operand.tmp 2) 1, type := 0, pos := "frac.go:30", after := #[], guard := none }) (v := (.pointer (some ⟨w.heap.size, 2, none⟩))) rfl (by kernel_rfl) (fun _ _ _ h => h) (Or.inl ⟨by rfl, ?_⟩) ⟨(Pa.out.at (i := 0) rfl), (Pa.out.at (i := 1) rfl), (Pa.out.at (i := 2) rfl), (Pa.out.at (i := 3) rfl), (Pb.out.at (i := 0) rfl), (Pb.out.at (i := 1) rfl), (Pb.out.at (i := 2) rfl), (Pb.out.at (i := 3) rfl)⟩ ?_
  · intro w hSw
    (try dsimp only at hSw)
    go_simp
  simp only [Act.put, List.setIfInBounds_toArray, List.set_cons_zero, List.set_cons_succ]
  refine wpAnyT_take (i := 11) (oi := { dst := some 17, op := Op.load 24 (Operand.tmp 16), type := 24, pos := "frac.go:30", after := #[{ on := 10, ground := Ground.data }], guard := none }) (v := (.agg #[(.bool nad), (.slice adad xad.length cad)])) rfl (by kernel_rfl) (fun _ _ _ h => h) (Or.inl ⟨by rfl, ?_⟩) ⟨(Pa.out.at (i := 0) rfl), (Pa.out.at (i := 1) rfl), (Pa.out.at (i := 2) rfl), (Pa.out.at (i := 3) rfl), (Pb.out.at (i := 0) rfl), (Pb.out.at (i := 1) rfl), (Pb.out.at (i := 2) rfl), (Pb.out.at (i := 3) rfl)⟩ ?_
  · intro w hSw
    (try dsimp only at hSw)
    go_simp
  simp only [Act.put, List.setIfInBounds_toArray, List.set_cons_zero, List.set_cons_succ]
  refine wpAnyT_take (i := 12) (oi := { dst := some 18, op := Op.fieldAddr 26 (Operand.tmp 3) 1, type := 0, pos := "frac.go:30", after := #[], guard := none }) (v := (.pointer (some ⟨w.heap.size + 1, 2, none⟩))) rfl (by kernel_rfl) (fun _ _ _ h => h) (Or.inl ⟨by rfl, ?_⟩) ⟨(Pa.out.at (i := 0) rfl), (Pa.out.at (i := 1) rfl), (Pa.out.at (i := 2) rfl), (Pa.out.at (i := 3) rfl), (Pb.out.at (i := 0) rfl), (Pb.out.at (i := 1) rfl), (Pb.out.at (i := 2) rfl), (Pb.out.at (i := 3) rfl)⟩ ?_
  · intro w hSw
    (try dsimp only at hSw)
    go_simp
  simp only [Act.put, List.setIfInBounds_toArray, List.set_cons_zero, List.set_cons_succ]
  refine wpAnyT_take (i := 13) (oi := { dst := some 19, op := Op.load 24 (Operand.tmp 18), type := 24, pos := "frac.go:30", after := #[{ on := 12, ground := Ground.data }], guard := none }) (v := (.agg #[(.bool nbd), (.slice adbd xbd.length cbd)])) rfl (by kernel_rfl) (fun _ _ _ h => h) (Or.inl ⟨by rfl, ?_⟩) ⟨(Pa.out.at (i := 0) rfl), (Pa.out.at (i := 1) rfl), (Pa.out.at (i := 2) rfl), (Pa.out.at (i := 3) rfl), (Pb.out.at (i := 0) rfl), (Pb.out.at (i := 1) rfl), (Pb.out.at (i := 2) rfl), (Pb.out.at (i := 3) rfl)⟩ ?_
  · intro w hSw
    (try dsimp only at hSw)
    go_simp
  simp only [Act.put, List.setIfInBounds_toArray, List.set_cons_zero, List.set_cons_succ]
  refine wpAnyT_one (i := 8) (o := { dst := some 14, op := Op.call { callee := Callee.value (Operand.func 16), args := #[Operand.tmp 11, Operand.tmp 13], argTypes := #[24, 24] }, type := 24, pos := "frac.go:30", after := #[{ on := 5, ground := Ground.data }, { on := 7, ground := Ground.data }], guard := none }) (by kernel_rfl) rfl (fun K hK => ?_)
  go_simp
  go_at_call 16
  refine (mul_z Zbn.out Zad.out (by omega)).mono ?_
  rintro e w3 ⟨r0, rfl, m0, b⟩
  obtain ⟨np, xp, adp, qp, rfl, -, -, -, -, -⟩ := id m0
  replace Zan := hid (Zan.out.now b)
  replace Zad := hid (Zad.out.now b)
  replace Zbn := hid (Zbn.out.now b)
  replace Zbd := hid (Zbd.out.now b)
  replace Pa := hid (Pa.out.step b)
  replace Pb := hid (Pb.out.step b)
  replace PR := hid (PR.out.step b)
  replace G := hid (below_step G.out b)
  have lz4 := (show Below _ _ _ from b).size
  have Zp := hid m0
  clear b m0
  refine hK.out _ _ (fun _ => ⟨(Pa.out.at (i := 0) rfl), (Pa.out.at (i := 1) rfl), (Pa.out.at (i := 2) rfl), (Pa.out.at (i := 3) rfl), (Pb.out.at (i := 0) rfl), (Pb.out.at (i := 1) rfl), (Pb.out.at (i := 2) rfl), (Pb.out.at (i := 3) rfl)⟩) ?_
  clear hK
  refine wpAnyT_one (i := 9) (o := { dst := some 15, op := Op.call { callee := Callee.value (Operand.func 38), args := #[Operand.tmp 7, Operand.tmp 9, Operand.tmp 14], argTypes := #[24, 24, 24] }, type := 24, pos := "frac.go:30", after := #[{ on := 1, ground := Ground.data }, { on := 3, ground := Ground.data }, { on := 8, ground := Ground.data }, { on := 8, ground := Ground.chain }], guard := none }) (by kernel_rfl) rfl (fun K hK => ?_)
  go_simp
  go_at_call 38
  refine (mulAdd_z Zan.out Zbd.out Zp.out.zi (by omega) (by omega)).mono ?_
  rintro e w5 ⟨r0, rfl, m0, b⟩
  obtain ⟨nu, xu, adu, qu, rfl, -, -, -, -, -⟩ := id m0
  replace Zan := hid (Zan.out.now b)
  replace Zad := hid (Zad.out.now b)
  replace Zbn := hid (Zbn.out.now b)
  replace Zbd := hid (Zbd.out.now b)
  replace Zp := hid (Zp.out.now b)
  replace Pa := hid (Pa.out.step b)
  replace Pb := hid (Pb.out.step b)
  replace PR := hid (PR.out.step b)
  replace G := hid (below_step G.out b)
  have lz6 := (show Below _ _ _ from b).size
  have Zu := hid m0
  clear b m0
  refine hK.out _ _ (fun _ => ⟨(Pa.out.at (i := 0) rfl), (Pa.out.at (i := 1) rfl), (Pa.out.at (i := 2) rfl), (Pa.out.at (i := 3) rfl), (Pb.out.at (i := 0) rfl), (Pb.out.at (i := 1) rfl), (Pb.out.at (i := 2) rfl), (Pb.out.at (i := 3) rfl)⟩) ?_
  clear hK
  refine wpAnyT_one (i := 14) (o := { dst := some 20, op := Op.call { callee := Callee.value (Operand.func 16), args := #[Operand.tmp 17, Operand.tmp 19], argTypes := #[24, 24] }, type := 24, pos := "frac.go:30", after := #[{ on := 11, ground := Ground.data }, { on := 13, ground := Ground.data }, { on := 9, ground := Ground.chain }], guard := none }) (by kernel_rfl) rfl (fun K hK => ?_)
  go_simp
  go_at_call 16
  refine (mul_z Zad.out Zbd.out (by omega)).mono ?_
  rintro e w7 ⟨r0, rfl, m0, b⟩
  obtain ⟨nq, xq, adq, qq, rfl, -, -, -, -, -⟩ := id m0
  replace Zan := hid (Zan.out.now b)
  replace Zad := hid (Zad.out.now b)
  replace Zbn := hid (Zbn.out.now b)
  replace Zbd := hid (Zbd.out.now b)
  replace Zp := hid (Zp.out.now b)
  replace Zu := hid (Zu.out.now b)
  replace Pa := hid (Pa.out.step b)
  replace Pb := hid (Pb.out.step b)
  replace PR := hid (PR.out.step b)
  replace G := hid (below_step G.out b)
  have lz8 := (show Below _ _ _ from b).size
  have Zq := hid m0
  clear b m0
  refine hK.out _ _ (fun _ => ⟨(Pa.out.at (i := 0) rfl), (Pa.out.at (i := 1) rfl), (Pa.out.at (i := 2) rfl), (Pa.out.at (i := 3) rfl), (Pb.out.at (i := 0) rfl), (Pb.out.at (i := 1) rfl), (Pb.out.at (i := 2) rfl), (Pb.out.at (i := 3) rfl)⟩) ?_
  clear hK
  refine wpAnyT_one (i := 15) (o := { dst := some 21, op := Op.call { callee := Callee.value (Operand.func 9), args := #[Operand.tmp 15, Operand.tmp 20], argTypes := #[24, 24] }, type := 29, pos := "frac.go:30", after := #[{ on := 9, ground := Ground.data }, { on := 14, ground := Ground.data }, { on := 14, ground := Ground.chain }], guard := none }) (by kernel_rfl) rfl (fun K hK => ?_)
  go_simp
  go_at_call 9
  refine (fof_z (k := k + k + 1) (Zu.out.zi.more (by omega)) (Zq.out.zi.more (by omega)) (by omega) HD.out).mono ?_
  rintro e w9 ⟨r0, r1, r2, r3, rfl, m0, m1, b⟩
  obtain ⟨nn, xn, adn, qn, rfl, rfl⟩ := m0.zi.comp
  obtain ⟨nd, xd, add, qd, rfl, rfl⟩ := m1.zi.comp
  replace Zan := hid (Zan.out.now b)
  replace Zad := hid (Zad.out.now b)
  replace Zbn := hid (Zbn.out.now b)
  replace Zbd := hid (Zbd.out.now b)
  replace Zp := hid (Zp.out.now b)
  replace Zu := hid (Zu.out.now b)
  replace Zq := hid (Zq.out.now b)
  replace Pa := hid (Pa.out.step b)
  replace Pb := hid (Pb.out.step b)
  replace PR := hid (PR.out.step b)
  replace G := hid (below_step G.out b)
  have lz10 := (show Below _ _ _ from b).size
  have Zn := hid m0
  have Zd := hid m1
  clear b m0 m1
  refine hK.out _ _ (fun _ => ⟨(Pa.out.at (i := 0) rfl), (Pa.out.at (i := 1) rfl), (Pa.out.at (i := 2) rfl), (Pa.out.at (i := 3) rfl), (Pb.out.at (i := 0) rfl), (Pb.out.at (i := 1) rfl), (Pb.out.at (i := 2) rfl), (Pb.out.at (i := 3) rfl)⟩) ?_
  clear hK
  refine wpAnyT_take (i := 16) (oi := { dst := some 22, op := Op.extract (Operand.tmp 21) 0, type := 26, pos := "frac.go:30", after := #[{ on := 15, ground := Ground.data }], guard := none }) (v := (.agg #[.bool nn, .slice adn xn.length qn, .bool nd, .slice add xd.length qd])) rfl (by kernel_rfl) (fun _ _ _ h => h) (Or.inl ⟨by rfl, ?_⟩) ⟨(Pa.out.at (i := 0) rfl), (Pa.out.at (i := 1) rfl), (Pa.out.at (i := 2) rfl), (Pa.out.at (i := 3) rfl), (Pb.out.at (i := 0) rfl), (Pb.out.at (i := 1) rfl), (Pb.out.at (i := 2) rfl), (Pb.out.at (i := 3) rfl)⟩ ?_
  · intro w hSw
    (try dsimp only at hSw)
    go_simp
  simp only [Act.put, List.setIfInBounds_toArray, List.set_cons_zero, List.set_cons_succ]
  refine wpAnyT_take (i := 17) (oi := { dst := some 23, op := Op.extract (Operand.tmp 21) 1, type := 28, pos := "frac.go:30", after := #[{ on := 15, ground := Ground.data }], guard := none }) (v := (.int .i64 0)) rfl (by kernel_rfl) (fun _ _ _ h => h) (Or.inl ⟨by rfl, ?_⟩) ⟨(Pa.out.at (i := 0) rfl), (Pa.out.at (i := 1) rfl), (Pa.out.at (i := 2) rfl), (Pa.out.at (i := 3) rfl), (Pb.out.at (i := 0) rfl), (Pb.out.at (i := 1) rfl), (Pb.out.at (i := 2) rfl), (Pb.out.at (i := 3) rfl)⟩ ?_
  · intro w hSw
    (try dsimp only at hSw)
    go_simp
  simp only [Act.put, List.setIfInBounds_toArray, List.set_cons_zero, List.set_cons_succ]
  refine wpAnyT_one (i := 18) (o := { dst := none, op := Op.store 26 (Operand.tmp 4) (Operand.tmp 22), type := 0, pos := "frac.go:30", after := #[{ on := 16, ground := Ground.data }, { on := 15, ground := Ground.chain }, { on := 0, ground := Ground.phase }, { on := 1, ground := Ground.phase }, { on := 2, ground := Ground.phase }, { on := 3, ground := Ground.phase }, { on := 4, ground := Ground.phase }, { on := 5, ground := Ground.phase }, { on := 6, ground := Ground.phase }, { on := 7, ground := Ground.phase }, { on := 8, ground := Ground.phase }, { on := 9, ground := Ground.phase }, { on := 10, ground := Ground.phase }, { on := 11, ground := Ground.phase }, { on := 12, ground := Ground.phase }, { on := 13, ground := Ground.phase }, { on := 14, ground := Ground.phase }, { on := 15, ground := Ground.phase }, { on := 16, ground := Ground.phase }, { on := 17, ground := Ground.phase }], guard := none }) (by kernel_rfl) rfl (fun K hK => ?_)
  have cR0 := (PR.out.at (i := 0) rfl)
  have cR1 := (PR.out.at (i := 1) rfl)
  have cR2 := (PR.out.at (i := 2) rfl)
  have cR3 := (PR.out.at (i := 3) rfl)
  have fR0 := PR.out.fz 0
  have fR1 := PR.out.fz 1
  have fR2 := PR.out.fz 2
  have fR3 := PR.out.fz 3
  go_simp
  clear cR0 cR1 cR2 cR3 fR0 fR1 fR2 fR3
  obtain ⟨V11, hW⟩ : ∃ V11, (((w9.setCell ⟨w.heap.size + 1 + 1, 0, none⟩ (.bool nn)).setCell ⟨w.heap.size + 1 + 1, 1, none⟩ (.slice adn xn.length qn)).setCell ⟨w.heap.size + 1 + 1, 2, none⟩ (.bool nd)).setCell ⟨w.heap.size + 1 + 1, 3, none⟩ (.slice add xd.length qd) = V11 := ⟨_, rfl⟩
  replace Zan := hid ((Zan.out).wk ((PR.out).wk4 (.bool nn) (.slice adn xn.length qn) (.bool nd) (.slice add xd.length qd)))
  replace Zad := hid ((Zad.out).wk ((PR.out).wk4 (.bool nn) (.slice adn xn.length qn) (.bool nd) (.slice add xd.length qd)))
  replace Zbn := hid ((Zbn.out).wk ((PR.out).wk4 (.bool nn) (.slice adn xn.length qn) (.bool nd) (.slice add xd.length qd)))
  replace Zbd := hid ((Zbd.out).wk ((PR.out).wk4 (.bool nn) (.slice adn xn.length qn) (.bool nd) (.slice add xd.length qd)))
  replace Zp := hid ((Zp.out).put4f (PR.out) (.bool nn) (.slice adn xn.length qn) (.bool nd) (.slice add xd.length qd))
  replace Zu := hid ((Zu.out).put4f (PR.out) (.bool nn) (.slice adn xn.length qn) (.bool nd) (.slice add xd.length qd))
  replace Zq := hid ((Zq.out).put4f (PR.out) (.bool nn) (.slice adn xn.length qn) (.bool nd) (.slice add xd.length qd))
  replace Zn := hid ((Zn.out).put4f (PR.out) (.bool nn) (.slice adn xn.length qn) (.bool nd) (.slice add xd.length qd))
  replace Zd := hid ((Zd.out).put4f (PR.out) (.bool nn) (.slice adn xn.length qn) (.bool nd) (.slice add xd.length qd))
  replace Pa := hid ((Pa.out).away4 (b' := w.heap.size + 1 + 1) (by omega) (.bool nn) (.slice adn xn.length qn) (.bool nd) (.slice add xd.length qd))
  replace Pb := hid ((Pb.out).away4 (b' := w.heap.size + 1 + 1) (by omega) (.bool nn) (.slice adn xn.length qn) (.bool nd) (.slice add xd.length qd))
  replace PR := hid ((PR.out).put4 (.bool nn) (.slice adn xn.length qn) (.bool nd) (.slice add xd.length qd))
  replace G : Hid (Below w.heap.size w (((((w9.setCell ⟨w.heap.size + 1 + 1, 0, none⟩ (.bool nn)).setCell ⟨w.heap.size + 1 + 1, 1, none⟩ (.slice adn xn.length qn)).setCell ⟨w.heap.size + 1 + 1, 2, none⟩ (.bool nd)).setCell ⟨w.heap.size + 1 + 1, 3, none⟩ (.slice add xd.length qd)))) := bset (bset (bset (bset (G.out) (by omega)) (by omega)) (by omega)) (by omega)
  have sz11 : V11.heap.size = w9.heap.size := by rw [← hW]; simp
  dsimp only [put4] at Zan Zad Zbn Zbd Zp Zu Zq Zn Zd Pa Pb PR
  rw [hW] at Zan Zad Zbn Zbd Zp Zu Zq Zn Zd Pa Pb PR G
  rw [hW]
  clear hW
  refine hK.out _ _ (fun h => absurd h (by decide)) ?_
  clear hK
  try simp only [Act.put]
  refine wpAnyT_one (i := 19) (o := { dst := some 5, op := Op.assign (Operand.tmp 23), type := 28, pos := "frac.go:30", after := #[{ on := 17, ground := Ground.data }, { on := 18, ground := Ground.chain }, { on := 0, ground := Ground.phase }, { on := 1, ground := Ground.phase }, { on := 2, ground := Ground.phase }, { on := 3, ground := Ground.phase }, { on := 4, ground := Ground.phase }, { on := 5, ground := Ground.phase }, { on := 6, ground := Ground.phase }, { on := 7, ground := Ground.phase }, { on := 8, ground := Ground.phase }, { on := 9, ground := Ground.phase }, { on := 10, ground := Ground.phase }, { on := 11, ground := Ground.phase }, { on := 12, ground := Ground.phase }, { on := 13, ground := Ground.phase }, { on := 14, ground := Ground.phase }, { on := 15, ground := Ground.phase }, { on := 16, ground := Ground.phase }, { on := 17, ground := Ground.phase }, { on := 18, ground := Ground.phase }], guard := none }) (by kernel_rfl) rfl (fun K hK => ?_)
  go_simp
  refine hK.out _ _ (fun h => absurd h (by decide)) ?_
  clear hK
  try simp only [Act.put]
  refine wpAnyT_done (by kernel_rfl) ?_ _
  go_wp2
  exact bodyPost_ret (fback Try.results10 PR.out _ (by rfl) (by rfl)) rfl ⟨_, _, _, _, rfl, Zn.out.mono (by omega), Zd.out.mono (by omega), G.out⟩

set_option maxHeartbeats 6400000 in
set_option maxRecDepth 100000 in
theorem fadd_bad {w : World} {a0 a1 a2 a3 b0 b1 b2 b3 : Value} {AN AD BN BD : Int} {k : Nat} (han : Zi w (.agg #[a0, a1]) AN k) (had : Zi w (.agg #[a2, a3]) AD k) (hbn : Zi w (.agg #[b0, b1]) BN k) (hbd : Zi w (.agg #[b2, b3]) BD k) (hk : k ≤ 17179869184) (hD : AD * BD = 0) :
    Calls Try.prog 10 #[.agg #[a0, a1, a2, a3], .agg #[b0, b1, b2, b3]] w (GivesFE 4 w) := by
  have HD := hid hD
  clear hD
  have zan0 := han
  obtain ⟨nan, xan, adan, can, ev, -, -, -⟩ := han
  simp only [Value.agg.injEq] at ev
  obtain ⟨rfl, rfl⟩ := pair_eq ev
  have zad0 := had
  obtain ⟨nad, xad, adad, cad, ev, -, -, -⟩ := had
  simp only [Value.agg.injEq] at ev
  obtain ⟨rfl, rfl⟩ := pair_eq ev
  have zbn0 := hbn
  obtain ⟨nbn, xbn, adbn, cbn, ev, -, -, -⟩ := hbn
  simp only [Value.agg.injEq] at ev
  obtain ⟨rfl, rfl⟩ := pair_eq ev
  have zbd0 := hbd
  obtain ⟨nbd, xbd, adbd, cbd, ev, -, -, -⟩ := hbd
  simp only [Value.agg.injEq] at ev
  obtain ⟨rfl, rfl⟩ := pair_eq ev
  obtain ⟨W0, hW⟩ : ∃ W0, ((w.alloc (.cells #[(.bool nan), (.slice adan xan.length can), (.bool nad), (.slice adad xad.length cad)] 26)).alloc (.cells #[(.bool nbn), (.slice adbn xbn.length cbn), (.bool nbd), (.slice adbd xbd.length cbd)] 26)).alloc (.cells #[(.bool false), (.slice none 0 0), (.bool false), (.slice none 0 0)] 26) = W0 := ⟨_, rfl⟩
  obtain ⟨b0, sz0⟩ := alloc3 w (.cells #[(.bool nan), (.slice adan xan.length can), (.bool nad), (.slice adad xad.length cad)] 26) (.cells #[(.bool nbn), (.slice adbn xbn.length cbn), (.bool nbd), (.slice adbd xbd.length cbd)] 26) (.cells #[(.bool false), (.slice none 0 0), (.bool false), (.slice none 0 0)] 26)
  rw [hW] at b0 sz0
  have Pa : Hid (Cel W0 (w.heap.size) 26 [(.bool nan), (.slice adan xan.length can), (.bool nad), (.slice adad xad.length cad)]) := by unfold Hid; rw [← hW]; exact cel_late (cel_late (cel_at (by simp)) _) _
  have Pb : Hid (Cel W0 (w.heap.size + 1) 26 [(.bool nbn), (.slice adbn xbn.length cbn), (.bool nbd), (.slice adbd xbd.length cbd)]) := by unfold Hid; rw [← hW]; exact cel_late (cel_at (by simp)) _
  have PR : Hid (Cel W0 (w.heap.size + 1 + 1) 26 [(.bool false), (.slice none 0 0), (.bool false), (.slice none 0 0)]) := by unfold Hid; rw [← hW]; exact cel_at (by simp)
  have Zan := hid (zan0.now b0)
  clear zan0
  have Zad := hid (zad0.now b0)
  clear zad0
  have Zbn := hid (zbn0.now b0)
  clear zbn0
  have Zbd := hid (zbd0.now b0)
  clear zbd0
  have G := hid b0
  clear b0
  have EW := hid hW
  clear hW
  go_enter Try.func10, Try.ntmps10
  skip
  go_wp2_with fail
  rw [EW.out]
  clear EW
  refine wp_region_tail (fun w' => w'.cell? ⟨w.heap.size, 0, none⟩ = some (.bool nan) ∧ w'.cell? ⟨w.heap.size, 1, none⟩ = some (.slice adan xan.length can) ∧ w'.cell? ⟨w.heap.size, 2, none⟩ = some (.bool nad) ∧ w'.cell? ⟨w.heap.size, 3, none⟩ = some (.slice adad xad.length cad) ∧ w'.cell? ⟨w.heap.size + 1, 0, none⟩ = some (.bool nbn) ∧ w'.cell? ⟨w.heap.size + 1, 1, none⟩ = some (.slice adbn xbn.length cbn) ∧ w'.cell? ⟨w.heap.size + 1, 2, none⟩ = some (.bool nbd) ∧ w'.cell? ⟨w.heap.size + 1, 3, none⟩ = some (.slice adbd xbd.length cbd)) 18 (by kernel_rfl) ?_
  obtain ⟨D1, hD⟩ : ∃ D1, W0.drew = D1 := ⟨_, rfl⟩
  have b : Below W0.heap.size W0 D1 := by rw [← hD]; exact (Below.refl _ _).drew
  rw [hD]
  clear hD
  replace Zan := hid (Zan.out.now b)
  replace Zad := hid (Zad.out.now b)
  replace Zbn := hid (Zbn.out.now b)
  replace Zbd := hid (Zbd.out.now b)
  replace Pa := hid (Pa.out.step b)
  replace Pb := hid (Pb.out.step b)
  replace PR := hid (PR.out.step b)
  replace G := hid (below_step G.out b)
  have lz2 := (show Below _ _ _ from b).size
  clear b
  refine wpAnyT_take (i := 0) (oi := { dst := some 6, op := Op.fieldAddr 26 (Operand.tmp 2) 0, type := 0, pos := "frac.go:30", after := #[], guard := none }) (v := (.pointer (some ⟨w.heap.size, 0, none⟩))) rfl (by kernel_rfl) (fun _ _ _ h => h) (Or.inl ⟨by rfl, ?_⟩) ⟨(Pa.out.at (i := 0) rfl), (Pa.out.at (i := 1) rfl), (Pa.out.at (i := 2) rfl), (Pa.out.at (i := 3) rfl), (Pb.out.at (i := 0) rfl), (Pb.out.at (i := 1) rfl), (Pb.out.at (i := 2) rfl), (Pb.out.at (i := 3) rfl)⟩ ?_
  · intro w hSw
    (try dsimp only at hSw)
    go_simp
  simp only [Act.put, List.setIfInBounds_toArray, List.set_cons_zero, List.set_cons_succ]
  refine wpAnyT_take (i := 1) (oi := { dst := some 7, op := Op.load 24 (Operand.tmp 6), type := 24, pos := "frac.go:30", after := #[{ on := 0, ground := Ground.data }], guard := none }) (v := (.agg #[(.bool nan), (.slice adan xan.length can)])) rfl (by kernel_rfl) (fun _ _ _ h => h) (Or.inl ⟨by rfl, ?_⟩) ⟨(Pa.out.at (i := 0) rfl), (Pa.out.at (i := 1) rfl), (Pa.out.at (i := 2) rfl), (Pa.out.at (i := 3) rfl), (Pb.out.at (i := 0) rfl), (Pb.out.at (i := 1) rfl), (Pb.out.at (i := 2) rfl), (Pb.out.at (i := 3) rfl)⟩ ?_
  · intro w hSw
    (try dsimp only at hSw)
    go_simp
  simp only [Act.put, List.setIfInBounds_toArray, List.set_cons_zero, List.set_cons_succ]
  refine wpAnyT_take (i := 2) (oi := { dst := some 8, op := Op.fieldAddr 26 (Operand.tmp 3) 1, type := 0, pos := "frac.go:30", after := #[], guard := none }) (v := (.pointer (some ⟨w.heap.size + 1, 2, none⟩))) rfl (by kernel_rfl) (fun _ _ _ h => h) (Or.inl ⟨by rfl, ?_⟩) ⟨(Pa.out.at (i := 0) rfl), (Pa.out.at (i := 1) rfl), (Pa.out.at (i := 2) rfl), (Pa.out.at (i := 3) rfl), (Pb.out.at (i := 0) rfl), (Pb.out.at (i := 1) rfl), (Pb.out.at (i := 2) rfl), (Pb.out.at (i := 3) rfl)⟩ ?_
  · intro w hSw
    (try dsimp only at hSw)
    go_simp
  simp only [Act.put, List.setIfInBounds_toArray, List.set_cons_zero, List.set_cons_succ]
  refine wpAnyT_take (i := 3) (oi := { dst := some 9, op := Op.load 24 (Operand.tmp 8), type := 24, pos := "frac.go:30", after := #[{ on := 2, ground := Ground.data }], guard := none }) (v := (.agg #[(.bool nbd), (.slice adbd xbd.length cbd)])) rfl (by kernel_rfl) (fun _ _ _ h => h) (Or.inl ⟨by rfl, ?_⟩) ⟨(Pa.out.at (i := 0) rfl), (Pa.out.at (i := 1) rfl), (Pa.out.at (i := 2) rfl), (Pa.out.at (i := 3) rfl), (Pb.out.at (i := 0) rfl), (Pb.out.at (i := 1) rfl), (Pb.out.at (i := 2) rfl), (Pb.out.at (i := 3) rfl)⟩ ?_
  · intro w hSw
    (try dsimp only at hSw)
    go_simp
  simp only [Act.put, List.setIfInBounds_toArray, List.set_cons_zero, List.set_cons_succ]
  refine wpAnyT_take (i := 4) (oi := { dst := some 10, op := Op.fieldAddr 26 (Operand.tmp 3) 0, type := 0, pos := "frac.go:30", after := #[], guard := none }) (v := (.pointer (some ⟨w.heap.size + 1, 0, none⟩))) rfl (by kernel_rfl) (fun _ _ _ h => h) (Or.inl ⟨by rfl, ?_⟩) ⟨(Pa.out.at (i := 0) rfl), (Pa.out.at (i := 1) rfl), (Pa.out.at (i := 2) rfl), (Pa.out.at (i := 3) rfl), (Pb.out.at (i := 0) rfl), (Pb.out.at (i := 1) rfl), (Pb.out.at (i := 2) rfl), (Pb.out.at (i := 3) rfl)⟩ ?_
  · intro w hSw
    (try dsimp only at hSw)
    go_simp
  simp only [Act.put, List.setIfInBounds_toArray, List.set_cons_zero, List.set_cons_succ]
  refine wpAnyT_take (i := 5) (oi := { dst := some 11, op := Op.load 24 (Operand.tmp 10), type := 24, pos := "frac.go:30", after := #[{ on := 4, ground := Ground.data }], guard := none }) (v := (.agg #[(.bool nbn), (.slice adbn xbn.length cbn)])) rfl (by kernel_rfl) (fun _ _ _ h => h) (Or.inl ⟨by rfl, ?_⟩) ⟨(Pa.out.at (i := 0) rfl), (Pa.out.at (i := 1) rfl), (Pa.out.at (i := 2) rfl), (Pa.out.at (i := 3) rfl), (Pb.out.at (i := 0) rfl), (Pb.out.at (i := 1) rfl), (Pb.out.at (i := 2) rfl), (Pb.out.at (i := 3) rfl)⟩ ?_
  · intro w hSw
    (try dsimp only at hSw)
    go_simp
  simp only [Act.put, List.setIfInBounds_toArray, List.set_cons_zero, List.set_cons_succ]
  refine wpAnyT_take (i := 6) (oi := { dst := some 12, op := Op.fieldAddr 26 (Operand.tmp 2) 1, type := 0, pos := "frac.go:30", after := #[], guard := none }) (v := (.pointer (some ⟨w.heap.size, 2, none⟩))) rfl (by kernel_rfl) (fun _ _ _ h => h) (Or.inl ⟨by rfl, ?_⟩) ⟨(Pa.out.at (i := 0) rfl), (Pa.out.at (i := 1) rfl), (Pa.out.at (i := 2) rfl), (Pa.out.at (i := 3) rfl), (Pb.out.at (i := 0) rfl), (Pb.out.at (i := 1) rfl), (Pb.out.at (i := 2) rfl), (Pb.out.at (i := 3) rfl)⟩ ?_
  · intro w hSw
    (try dsimp only at hSw)
    go_simp
  simp only [Act.put, List.setIfInBounds_toArray, List.set_cons_zero, List.set_cons_succ]
  refine wpAnyT_take (i := 7) (oi := { dst := some 13, op := Op.load 24 (Operand.tmp 12), type := 24, pos := "frac.go:30", after := #[{ on := 6, ground := Ground.data }], guard := none }) (v := (.agg #[(.bool nad), (.slice adad xad.length cad)])) rfl (by kernel_rfl) (fun _ _ _ h => h) (Or.inl ⟨by rfl, ?_⟩) ⟨(Pa.out.at (i := 0) rfl), (Pa.out.at (i := 1) rfl), (Pa.out.at (i := 2) rfl), (Pa.out.at (i := 3) rfl), (Pb.out.at (i := 0) rfl), (Pb.out.at (i := 1) rfl), (Pb.out.at (i := 2) rfl), (Pb.out.at (i := 3) rfl)⟩ ?_
  · intro w hSw
    (try dsimp only at hSw)
    go_simp
  simp only [Act.put, List.setIfInBounds_toArray, List.set_cons_zero, List.set_cons_succ]
  refine wpAnyT_take (i := 10) (oi := { dst := some 16, op := Op.fieldAddr 26 (Operand.tmp 2) 1, type := 0, pos := "frac.go:30", after := #[], guard := none }) (v := (.pointer (some ⟨w.heap.size, 2, none⟩))) rfl (by kernel_rfl) (fun _ _ _ h => h) (Or.inl ⟨by rfl, ?_⟩) ⟨(Pa.out.at (i := 0) rfl), (Pa.out.at (i := 1) rfl), (Pa.out.at (i := 2) rfl), (Pa.out.at (i := 3) rfl), (Pb.out.at (i := 0) rfl), (Pb.out.at (i := 1) rfl), (Pb.out.at (i := 2) rfl), (Pb.out.at (i := 3) rfl)⟩ ?_
  · intro w hSw
    (try dsimp only at hSw)
    go_simp
  simp only [Act.put, List.setIfInBounds_toArray, List.set_cons_zero, List.set_cons_succ]
  refine wpAnyT_take (i := 11) (oi := { dst := some 17, op := Op.load 24 (Operand.tmp 16), type := 24, pos := "frac.go:30", after := #[{ on := 10, ground := Ground.data }], guard := none }) (v := (.agg #[(.bool nad), (.slice adad xad.length cad)])) rfl (by kernel_rfl) (fun _ _ _ h => h) (Or.inl ⟨by rfl, ?_⟩) ⟨(Pa.out.at (i := 0) rfl), (Pa.out.at (i := 1) rfl), (Pa.out.at (i := 2) rfl), (Pa.out.at (i := 3) rfl), (Pb.out.at (i := 0) rfl), (Pb.out.at (i := 1) rfl), (Pb.out.at (i := 2) rfl), (Pb.out.at (i := 3) rfl)⟩ ?_
  · intro w hSw
    (try dsimp only at hSw)
    go_simp
  simp only [Act.put, List.setIfInBounds_toArray, List.set_cons_zero, List.set_cons_succ]
  refine wpAnyT_take (i := 12) (oi := { dst := some 18, op := Op.fieldAddr 26 (Operand.tmp 3) 1, type := 0, pos := "frac.go:30", after := #[], guard := none }) (v := (.pointer (some ⟨w.heap.size + 1, 2, none⟩))) rfl (by kernel_rfl) (fun _ _ _ h => h) (Or.inl ⟨by rfl, ?_⟩) ⟨(Pa.out.at (i := 0) rfl), (Pa.out.at (i := 1) rfl), (Pa.out.at (i := 2) rfl), (Pa.out.at (i := 3) rfl), (Pb.out.at (i := 0) rfl), (Pb.out.at (i := 1) rfl), (Pb.out.at (i := 2) rfl), (Pb.out.at (i := 3) rfl)⟩ ?_
  · intro w hSw
    (try dsimp only at hSw)
    go_simp
  simp only [Act.put, List.setIfInBounds_toArray, List.set_cons_zero, List.set_cons_succ]
  refine wpAnyT_take (i := 13) (oi := { dst := some 19, op := Op.load 24 (Operand.tmp 18), type := 24, pos := "frac.go:30", after := #[{ on := 12, ground := Ground.data }], guard := none }) (v := (.agg #[(.bool nbd), (.slice adbd xbd.length cbd)])) rfl (by kernel_rfl) (fun _ _ _ h => h) (Or.inl ⟨by rfl, ?_⟩) ⟨(Pa.out.at (i := 0) rfl), (Pa.out.at (i := 1) rfl), (Pa.out.at (i := 2) rfl), (Pa.out.at (i := 3) rfl), (Pb.out.at (i := 0) rfl), (Pb.out.at (i := 1) rfl), (Pb.out.at (i := 2) rfl), (Pb.out.at (i := 3) rfl)⟩ ?_
  · intro w hSw
    (try dsimp only at hSw)
    go_simp
  simp only [Act.put, List.setIfInBounds_toArray, List.set_cons_zero, List.set_cons_succ]
  refine wpAnyT_one (i := 8) (o := { dst := some 14, op := Op.call { callee := Callee.value (Operand.func 16), args := #[Operand.tmp 11, Operand.tmp 13], argTypes := #[24, 24] }, type := 24, pos := "frac.go:30", after := #[{ on := 5, ground := Ground.data }, { on := 7, ground := Ground.data }], guard := none }) (by kernel_rfl) rfl (fun K hK => ?_)
  go_simp
  go_at_call 16
  refine (mul_z Zbn.out Zad.out (by omega)).mono ?_
  rintro e w3 ⟨r0, rfl, m0, b⟩
  obtain ⟨np, xp, adp, qp, rfl, -, -, -, -, -⟩ := id m0
  replace Zan := hid (Zan.out.now b)
  replace Zad := hid (Zad.out.now b)
  replace Zbn := hid (Zbn.out.now b)
  replace Zbd := hid (Zbd.out.now b)
  replace Pa := hid (Pa.out.step b)
  replace Pb := hid (Pb.out.step b)
  replace PR := hid (PR.out.step b)
  replace G := hid (below_step G.out b)
  have lz4 := (show Below _ _ _ from b).size
  have Zp := hid m0
  clear b m0
  refine hK.out _ _ (fun _ => ⟨(Pa.out.at (i := 0) rfl), (Pa.out.at (i := 1) rfl), (Pa.out.at (i := 2) rfl), (Pa.out.at (i := 3) rfl), (Pb.out.at (i := 0) rfl), (Pb.out.at (i := 1) rfl), (Pb.out.at (i := 2) rfl), (Pb.out.at (i := 3) rfl)⟩) ?_
  clear hK
  refine wpAnyT_one (i := 9) (o := { dst := some 15, op := Op.call { callee := Callee.value (Operand.func 38), args := #[Operand.tmp 7, Operand.tmp 9, Operand.tmp 14], argTypes := #[24, 24, 24] }, type := 24, pos := "frac.go:30", after := #[{ on := 1, ground := Ground.data }, { on := 3, ground := Ground.data }, { on := 8, ground := Ground.data }, { on := 8, ground := Ground.chain }], guard := none }) (by kernel_rfl) rfl (fun K hK => ?_)
  go_simp
  go_at_call 38
  refine (mulAdd_z Zan.out Zbd.out Zp.out.zi (by omega) (by omega)).mono ?_
  rintro e w5 ⟨r0, rfl, m0, b⟩
  obtain ⟨nu, xu, adu, qu, rfl, -, -, -, -, -⟩ := id m0
  replace Zan := hid (Zan.out.now b)
  replace Zad := hid (Zad.out.now b)
  replace Zbn := hid (Zbn.out.now b)
  replace Zbd := hid (Zbd.out.now b)
  replace Zp := hid (Zp.out.now b)
  replace Pa := hid (Pa.out.step b)
  replace Pb := hid (Pb.out.step b)
  replace PR := hid (PR.out.step b)
  replace G := hid (below_step G.out b)
  have lz6 := (show Below _ _ _ from b).size
  have Zu := hid m0
  clear b m0
  refine hK.out _ _ (fun _ => ⟨(Pa.out.at (i := 0) rfl), (Pa.out.at (i := 1) rfl), (Pa.out.at (i := 2) rfl), (Pa.out.at (i := 3) rfl), (Pb.out.at (i := 0) rfl), (Pb.out.at (i := 1) rfl), (Pb.out.at (i := 2) rfl), (Pb.out.at (i := 3) rfl)⟩) ?_
  clear hK
  refine wpAnyT_one (i := 14) (o := { dst := some 20, op := Op.call { callee := Callee.value (Operand.func 16), args := #[Operand.tmp 17, Operand.tmp 19], argTypes := #[24, 24] }, type := 24, pos := "frac.go:30", after := #[{ on := 11, ground := Ground.data }, { on := 13, ground := Ground.data }, { on := 9, ground := Ground.chain }], guard := none }) (by kernel_rfl) rfl (fun K hK => ?_)
  go_simp
  go_at_call 16
  refine (mul_z Zad.out Zbd.out (by omega)).mono ?_
  rintro e w7 ⟨r0, rfl, m0, b⟩
  obtain ⟨nq, xq, adq, qq, rfl, -, -, -, -, -⟩ := id m0
  replace Zan := hid (Zan.out.now b)
  replace Zad := hid (Zad.out.now b)
  replace Zbn := hid (Zbn.out.now b)
  replace Zbd := hid (Zbd.out.now b)
  replace Zp := hid (Zp.out.now b)
  replace Zu := hid (Zu.out.now b)
  replace Pa := hid (Pa.out.step b)
  replace Pb := hid (Pb.out.step b)
  replace PR := hid (PR.out.step b)
  replace G := hid (below_step G.out b)
  have lz8 := (show Below _ _ _ from b).size
  have Zq := hid m0
  clear b m0
  refine hK.out _ _ (fun _ => ⟨(Pa.out.at (i := 0) rfl), (Pa.out.at (i := 1) rfl), (Pa.out.at (i := 2) rfl), (Pa.out.at (i := 3) rfl), (Pb.out.at (i := 0) rfl), (Pb.out.at (i := 1) rfl), (Pb.out.at (i := 2) rfl), (Pb.out.at (i := 3) rfl)⟩) ?_
  clear hK
  refine wpAnyT_one (i := 15) (o := { dst := some 21, op := Op.call { callee := Callee.value (Operand.func 9), args := #[Operand.tmp 15, Operand.tmp 20], argTypes := #[24, 24] }, type := 29, pos := "frac.go:30", after := #[{ on := 9, ground := Ground.data }, { on := 14, ground := Ground.data }, { on := 14, ground := Ground.chain }], guard := none }) (by kernel_rfl) rfl (fun K hK => ?_)
  go_simp
  go_at_call 9
  refine (fof_zero (k := k + k + 1) (Zu.out.zi.more (by omega)) (Zq.out.zi.more (by omega)) (by omega) HD.out).mono ?_
  rintro e w9 ⟨rfl, b⟩
  replace Zan := hid (Zan.out.now b)
  replace Zad := hid (Zad.out.now b)
  replace Zbn := hid (Zbn.out.now b)
  replace Zbd := hid (Zbd.out.now b)
  replace Zp := hid (Zp.out.now b)
  replace Zu := hid (Zu.out.now b)
  replace Zq := hid (Zq.out.now b)
  replace Pa := hid (Pa.out.step b)
  replace Pb := hid (Pb.out.step b)
  replace PR := hid (PR.out.step b)
  replace G := hid (below_step G.out b)
  have lz10 := (show Below _ _ _ from b).size
  clear b 
  refine hK.out _ _ (fun _ => ⟨(Pa.out.at (i := 0) rfl), (Pa.out.at (i := 1) rfl), (Pa.out.at (i := 2) rfl), (Pa.out.at (i := 3) rfl), (Pb.out.at (i := 0) rfl), (Pb.out.at (i := 1) rfl), (Pb.out.at (i := 2) rfl), (Pb.out.at (i := 3) rfl)⟩) ?_
  clear hK
  refine wpAnyT_take (i := 16) (oi := { dst := some 22, op := Op.extract (Operand.tmp 21) 0, type := 26, pos := "frac.go:30", after := #[{ on := 15, ground := Ground.data }], guard := none }) (v := (.agg #[(.bool false), (.slice none 0 0), (.bool false), (.slice none 0 0)])) rfl (by kernel_rfl) (fun _ _ _ h => h) (Or.inl ⟨by rfl, ?_⟩) ⟨(Pa.out.at (i := 0) rfl), (Pa.out.at (i := 1) rfl), (Pa.out.at (i := 2) rfl), (Pa.out.at (i := 3) rfl), (Pb.out.at (i := 0) rfl), (Pb.out.at (i := 1) rfl), (Pb.out.at (i := 2) rfl), (Pb.out.at (i := 3) rfl)⟩ ?_
  · intro w hSw
    (try dsimp only at hSw)
    go_simp
  simp only [Act.put, List.setIfInBounds_toArray, List.set_cons_zero, List.set_cons_succ]
  refine wpAnyT_take (i := 17) (oi := { dst := some 23, op := Op.extract (Operand.tmp 21) 1, type := 28, pos := "frac.go:30", after := #[{ on := 15, ground := Ground.data }], guard := none }) (v := (.int .i64 4)) rfl (by kernel_rfl) (fun _ _ _ h => h) (Or.inl ⟨by rfl, ?_⟩) ⟨(Pa.out.at (i := 0) rfl), (Pa.out.at (i := 1) rfl), (Pa.out.at (i := 2) rfl), (Pa.out.at (i := 3) rfl), (Pb.out.at (i := 0) rfl), (Pb.out.at (i := 1) rfl), (Pb.out.at (i := 2) rfl), (Pb.out.at (i := 3) rfl)⟩ ?_
  · intro w hSw
    (try dsimp only at hSw)
    go_simp
  simp only [Act.put, List.setIfInBounds_toArray, List.set_cons_zero, List.set_cons_succ]
  refine wpAnyT_one (i := 18) (o := { dst := none, op := Op.store 26 (Operand.tmp 4) (Operand.tmp 22), type := 0, pos := "frac.go:30", after := #[{ on := 16, ground := Ground.data }, { on := 15, ground := Ground.chain }, { on := 0, ground := Ground.phase }, { on := 1, ground := Ground.phase }, { on := 2, ground := Ground.phase }, { on := 3, ground := Ground.phase }, { on := 4, ground := Ground.phase }, { on := 5, ground := Ground.phase }, { on := 6, ground := Ground.phase }, { on := 7, ground := Ground.phase }, { on := 8, ground := Ground.phase }, { on := 9, ground := Ground.phase }, { on := 10, ground := Ground.phase }, { on := 11, ground := Ground.phase }, { on := 12, ground := Ground.phase }, { on := 13, ground := Ground.phase }, { on := 14, ground := Ground.phase }, { on := 15, ground := Ground.phase }, { on := 16, ground := Ground.phase }, { on := 17, ground := Ground.phase }], guard := none }) (by kernel_rfl) rfl (fun K hK => ?_)
  have cR0 := (PR.out.at (i := 0) rfl)
  have cR1 := (PR.out.at (i := 1) rfl)
  have cR2 := (PR.out.at (i := 2) rfl)
  have cR3 := (PR.out.at (i := 3) rfl)
  have fR0 := PR.out.fz 0
  have fR1 := PR.out.fz 1
  have fR2 := PR.out.fz 2
  have fR3 := PR.out.fz 3
  go_simp
  clear cR0 cR1 cR2 cR3 fR0 fR1 fR2 fR3
  obtain ⟨V11, hW⟩ : ∃ V11, (((w9.setCell ⟨w.heap.size + 1 + 1, 0, none⟩ (.bool false)).setCell ⟨w.heap.size + 1 + 1, 1, none⟩ (.slice none 0 0)).setCell ⟨w.heap.size + 1 + 1, 2, none⟩ (.bool false)).setCell ⟨w.heap.size + 1 + 1, 3, none⟩ (.slice none 0 0) = V11 := ⟨_, rfl⟩
  replace Zan := hid ((Zan.out).wk ((PR.out).wk4 (.bool false) (.slice none 0 0) (.bool false) (.slice none 0 0)))
  replace Zad := hid ((Zad.out).wk ((PR.out).wk4 (.bool false) (.slice none 0 0) (.bool false) (.slice none 0 0)))
  replace Zbn := hid ((Zbn.out).wk ((PR.out).wk4 (.bool false) (.slice none 0 0) (.bool false) (.slice none 0 0)))
  replace Zbd := hid ((Zbd.out).wk ((PR.out).wk4 (.bool false) (.slice none 0 0) (.bool false) (.slice none 0 0)))
  replace Zp := hid ((Zp.out).put4f (PR.out) (.bool false) (.slice none 0 0) (.bool false) (.slice none 0 0))
  replace Zu := hid ((Zu.out).put4f (PR.out) (.bool false) (.slice none 0 0) (.bool false) (.slice none 0 0))
  replace Zq := hid ((Zq.out).put4f (PR.out) (.bool false) (.slice none 0 0) (.bool false) (.slice none 0 0))
  replace Pa := hid ((Pa.out).away4 (b' := w.heap.size + 1 + 1) (by omega) (.bool false) (.slice none 0 0) (.bool false) (.slice none 0 0))
  replace Pb := hid ((Pb.out).away4 (b' := w.heap.size + 1 + 1) (by omega) (.bool false) (.slice none 0 0) (.bool false) (.slice none 0 0))
  replace PR := hid ((PR.out).put4 (.bool false) (.slice none 0 0) (.bool false) (.slice none 0 0))
  replace G : Hid (Below w.heap.size w (((((w9.setCell ⟨w.heap.size + 1 + 1, 0, none⟩ (.bool false)).setCell ⟨w.heap.size + 1 + 1, 1, none⟩ (.slice none 0 0)).setCell ⟨w.heap.size + 1 + 1, 2, none⟩ (.bool false)).setCell ⟨w.heap.size + 1 + 1, 3, none⟩ (.slice none 0 0)))) := bset (bset (bset (bset (G.out) (by omega)) (by omega)) (by omega)) (by omega)
  have sz11 : V11.heap.size = w9.heap.size := by rw [← hW]; simp
  dsimp only [put4] at Zan Zad Zbn Zbd Zp Zu Zq Pa Pb PR
  rw [hW] at Zan Zad Zbn Zbd Zp Zu Zq Pa Pb PR G
  rw [hW]
  clear hW
  refine hK.out _ _ (fun h => absurd h (by decide)) ?_
  clear hK
  try simp only [Act.put]
  refine wpAnyT_one (i := 19) (o := { dst := some 5, op := Op.assign (Operand.tmp 23), type := 28, pos := "frac.go:30", after := #[{ on := 17, ground := Ground.data }, { on := 18, ground := Ground.chain }, { on := 0, ground := Ground.phase }, { on := 1, ground := Ground.phase }, { on := 2, ground := Ground.phase }, { on := 3, ground := Ground.phase }, { on := 4, ground := Ground.phase }, { on := 5, ground := Ground.phase }, { on := 6, ground := Ground.phase }, { on := 7, ground := Ground.phase }, { on := 8, ground := Ground.phase }, { on := 9, ground := Ground.phase }, { on := 10, ground := Ground.phase }, { on := 11, ground := Ground.phase }, { on := 12, ground := Ground.phase }, { on := 13, ground := Ground.phase }, { on := 14, ground := Ground.phase }, { on := 15, ground := Ground.phase }, { on := 16, ground := Ground.phase }, { on := 17, ground := Ground.phase }, { on := 18, ground := Ground.phase }], guard := none }) (by kernel_rfl) rfl (fun K hK => ?_)
  go_simp
  refine hK.out _ _ (fun h => absurd h (by decide)) ?_
  clear hK
  try simp only [Act.put]
  refine wpAnyT_done (by kernel_rfl) ?_ _
  go_wp2
  exact bodyPost_ret (fback Try.results10 PR.out _ (by rfl) (by rfl)) rfl ⟨rfl, G.out⟩

set_option maxHeartbeats 6400000 in
set_option maxRecDepth 100000 in
theorem fsub_z {w : World} {a0 a1 a2 a3 b0 b1 b2 b3 : Value} {AN AD BN BD : Int} {k : Nat} (han : Zi w (.agg #[a0, a1]) AN k) (had : Zi w (.agg #[a2, a3]) AD k) (hbn : Zi w (.agg #[b0, b1]) BN k) (hbd : Zi w (.agg #[b2, b3]) BD k) (hk : k ≤ 17179869184) (hD : AD * BD ≠ 0) :
    Calls Try.prog 11 #[.agg #[a0, a1, a2, a3], .agg #[b0, b1, b2, b3]] w (GivesF w (Rat.divInt (AN * BD + -BN * AD) (AD * BD)) (k + k + 1)) := by
  have HD := hid hD
  clear hD
  have zan0 := han
  obtain ⟨nan, xan, adan, can, ev, -, -, -⟩ := han
  simp only [Value.agg.injEq] at ev
  obtain ⟨rfl, rfl⟩ := pair_eq ev
  have zad0 := had
  obtain ⟨nad, xad, adad, cad, ev, -, -, -⟩ := had
  simp only [Value.agg.injEq] at ev
  obtain ⟨rfl, rfl⟩ := pair_eq ev
  have zbn0 := hbn
  obtain ⟨nbn, xbn, adbn, cbn, ev, -, -, -⟩ := hbn
  simp only [Value.agg.injEq] at ev
  obtain ⟨rfl, rfl⟩ := pair_eq ev
  have zbd0 := hbd
  obtain ⟨nbd, xbd, adbd, cbd, ev, -, -, -⟩ := hbd
  simp only [Value.agg.injEq] at ev
  obtain ⟨rfl, rfl⟩ := pair_eq ev
  obtain ⟨W0, hW⟩ : ∃ W0, ((w.alloc (.cells #[(.bool nan), (.slice adan xan.length can), (.bool nad), (.slice adad xad.length cad)] 26)).alloc (.cells #[(.bool nbn), (.slice adbn xbn.length cbn), (.bool nbd), (.slice adbd xbd.length cbd)] 26)).alloc (.cells #[(.bool false), (.slice none 0 0), (.bool false), (.slice none 0 0)] 26) = W0 := ⟨_, rfl⟩
  obtain ⟨b0, sz0⟩ := alloc3 w (.cells #[(.bool nan), (.slice adan xan.length can), (.bool nad), (.slice adad xad.length cad)] 26) (.cells #[(.bool nbn), (.slice adbn xbn.length cbn), (.bool nbd), (.slice adbd xbd.length cbd)] 26) (.cells #[(.bool false), (.slice none 0 0), (.bool false), (.slice none 0 0)] 26)
  rw [hW] at b0 sz0
  have Pa : Hid (Cel W0 (w.heap.size) 26 [(.bool nan), (.slice adan xan.length can), (.bool nad), (.slice adad xad.length cad)]) := by unfold Hid; rw [← hW]; exact cel_late (cel_late (cel_at (by simp)) _) _
  have Pb : Hid (Cel W0 (w.heap.size + 1) 26 [(.bool nbn), (.slice adbn xbn.length cbn), (.bool nbd), (.slice adbd xbd.length cbd)]) := by unfold Hid; rw [← hW]; exact cel_late (cel_at (by simp)) _
  have PR : Hid (Cel W0 (w.heap.size + 1 + 1) 26 [(.bool false), (.slice none 0 0), (.bool false), (.slice none 0 0)]) := by unfold Hid; rw [← hW]; exact cel_at (by simp)
  have Zan := hid (zan0.now b0)
  clear zan0
  have Zad := hid (zad0.now b0)
  clear zad0
  have Zbn := hid (zbn0.now b0)
  clear zbn0
  have Zbd := hid (zbd0.now b0)
  clear zbd0
  have G := hid b0
  clear b0
  have EW := hid hW
  clear hW
  go_enter Try.func11, Try.ntmps11
  skip
  go_wp2_with fail
  rw [EW.out]
  clear EW
  refine wp_region_tail (fun w' => w'.cell? ⟨w.heap.size, 0, none⟩ = some (.bool nan) ∧ w'.cell? ⟨w.heap.size, 1, none⟩ = some (.slice adan xan.length can) ∧ w'.cell? ⟨w.heap.size, 2, none⟩ = some (.bool nad) ∧ w'.cell? ⟨w.heap.size, 3, none⟩ = some (.slice adad xad.length cad) ∧ w'.cell? ⟨w.heap.size + 1, 0, none⟩ = some (.bool nbn) ∧ w'.cell? ⟨w.heap.size + 1, 1, none⟩ = some (.slice adbn xbn.length cbn) ∧ w'.cell? ⟨w.heap.size + 1, 2, none⟩ = some (.bool nbd) ∧ w'.cell? ⟨w.heap.size + 1, 3, none⟩ = some (.slice adbd xbd.length cbd)) 10 (by kernel_rfl) ?_
  obtain ⟨D1, hD⟩ : ∃ D1, W0.drew = D1 := ⟨_, rfl⟩
  have b : Below W0.heap.size W0 D1 := by rw [← hD]; exact (Below.refl _ _).drew
  rw [hD]
  clear hD
  replace Zan := hid (Zan.out.now b)
  replace Zad := hid (Zad.out.now b)
  replace Zbn := hid (Zbn.out.now b)
  replace Zbd := hid (Zbd.out.now b)
  replace Pa := hid (Pa.out.step b)
  replace Pb := hid (Pb.out.step b)
  replace PR := hid (PR.out.step b)
  replace G := hid (below_step G.out b)
  have lz2 := (show Below _ _ _ from b).size
  clear b
  refine wpAnyT_take (i := 0) (oi := { dst := some 6, op := Op.load 26 (Operand.tmp 2), type := 26, pos := "frac.go:35", after := #[], guard := none }) (v := (.agg #[(.bool nan), (.slice adan xan.length can), (.bool nad), (.slice adad xad.length cad)])) rfl (by kernel_rfl) (fun _ _ _ h => h) (Or.inl ⟨by rfl, ?_⟩) ⟨(Pa.out.at (i := 0) rfl), (Pa.out.at (i := 1) rfl), (Pa.out.at (i := 2) rfl), (Pa.out.at (i := 3) rfl), (Pb.out.at (i := 0) rfl), (Pb.out.at (i := 1) rfl), (Pb.out.at (i := 2) rfl), (Pb.out.at (i := 3) rfl)⟩ ?_
  · intro w hSw
    (try dsimp only at hSw)
    go_simp
  simp only [Act.put, List.setIfInBounds_toArray, List.set_cons_zero, List.set_cons_succ]
  refine wpAnyT_take (i := 1) (oi := { dst := some 7, op := Op.fieldAddr 26 (Operand.tmp 3) 0, type := 0, pos := "frac.go:35", after := #[], guard := none }) (v := (.pointer (some ⟨w.heap.size + 1, 0, none⟩))) rfl (by kernel_rfl) (fun _ _ _ h => h) (Or.inl ⟨by rfl, ?_⟩) ⟨(Pa.out.at (i := 0) rfl), (Pa.out.at (i := 1) rfl), (Pa.out.at (i := 2) rfl), (Pa.out.at (i := 3) rfl), (Pb.out.at (i := 0) rfl), (Pb.out.at (i := 1) rfl), (Pb.out.at (i := 2) rfl), (Pb.out.at (i := 3) rfl)⟩ ?_
  · intro w hSw
    (try dsimp only at hSw)
    go_simp
  simp only [Act.put, List.setIfInBounds_toArray, List.set_cons_zero, List.set_cons_succ]
  refine wpAnyT_take (i := 2) (oi := { dst := some 8, op := Op.load 24 (Operand.tmp 7), type := 24, pos := "frac.go:35", after := #[{ on := 1, ground := Ground.data }], guard := none }) (v := (.agg #[(.bool nbn), (.slice adbn xbn.length cbn)])) rfl (by kernel_rfl) (fun _ _ _ h => h) (Or.inl ⟨by rfl, ?_⟩) ⟨(Pa.out.at (i := 0) rfl), (Pa.out.at (i := 1) rfl), (Pa.out.at (i := 2) rfl), (Pa.out.at (i := 3) rfl), (Pb.out.at (i := 0) rfl), (Pb.out.at (i := 1) rfl), (Pb.out.at (i := 2) rfl), (Pb.out.at (i := 3) rfl)⟩ ?_
  · intro w hSw
    (try dsimp only at hSw)
    go_simp
  simp only [Act.put, List.setIfInBounds_toArray, List.set_cons_zero, List.set_cons_succ]
  refine wpAnyT_take (i := 4) (oi := { dst := some 10, op := Op.fieldAddr 26 (Operand.tmp 3) 1, type := 0, pos := "frac.go:35", after := #[], guard := none }) (v := (.pointer (some ⟨w.heap.size + 1, 2, none⟩))) rfl (by kernel_rfl) (fun _ _ _ h => h) (Or.inl ⟨by rfl, ?_⟩) ⟨(Pa.out.at (i := 0) rfl), (Pa.out.at (i := 1) rfl), (Pa.out.at (i := 2) rfl), (Pa.out.at (i := 3) rfl), (Pb.out.at (i := 0) rfl), (Pb.out.at (i := 1) rfl), (Pb.out.at (i := 2) rfl), (Pb.out.at (i := 3) rfl)⟩ ?_
  · intro w hSw
    (try dsimp only at hSw)
    go_simp
  simp only [Act.put, List.setIfInBounds_toArray, List.set_cons_zero, List.set_cons_succ]
  refine wpAnyT_take (i := 5) (oi := { dst := some 11, op := Op.load 24 (Operand.tmp 10), type := 24, pos := "frac.go:35", after := #[{ on := 4, ground := Ground.data }], guard := none }) (v := (.agg #[(.bool nbd), (.slice adbd xbd.length cbd)])) rfl (by kernel_rfl) (fun _ _ _ h => h) (Or.inl ⟨by rfl, ?_⟩) ⟨(Pa.out.at (i := 0) rfl), (Pa.out.at (i := 1) rfl), (Pa.out.at (i := 2) rfl), (Pa.out.at (i := 3) rfl), (Pb.out.at (i := 0) rfl), (Pb.out.at (i := 1) rfl), (Pb.out.at (i := 2) rfl), (Pb.out.at (i := 3) rfl)⟩ ?_
  · intro w hSw
    (try dsimp only at hSw)
    go_simp
  simp only [Act.put, List.setIfInBounds_toArray, List.set_cons_zero, List.set_cons_succ]
  refine wpAnyT_one (i := 3) (o := { dst := some 9, op := Op.call { callee := Callee.value (Operand.func 36), args := #[Operand.tmp 8], argTypes := #[24] }, type := 24, pos := "frac.go:35", after := #[{ on := 2, ground := Ground.data }], guard := none }) (by kernel_rfl) rfl (fun K hK => ?_)
  go_simp
  go_at_call 36
  refine (neg_z Zbn.out).mono ?_
  rintro e w3 ⟨r0, rfl, m0, b⟩
  obtain ⟨nu, xu, adu, qu, rfl, -, -, -, -, -⟩ := id m0
  replace Zan := hid (Zan.out.now b)
  replace Zad := hid (Zad.out.now b)
  replace Zbn := hid (Zbn.out.now b)
  replace Zbd := hid (Zbd.out.now b)
  replace Pa := hid (Pa.out.step b)
  replace Pb := hid (Pb.out.step b)
  replace PR := hid (PR.out.step b)
  replace G := hid (below_step G.out b)
  have lz4 := (show Below _ _ _ from b).size
  have Zu := hid m0
  clear b m0
  refine hK.out _ _ (fun _ => ⟨(Pa.out.at (i := 0) rfl), (Pa.out.at (i := 1) rfl), (Pa.out.at (i := 2) rfl), (Pa.out.at (i := 3) rfl), (Pb.out.at (i := 0) rfl), (Pb.out.at (i := 1) rfl), (Pb.out.at (i := 2) rfl), (Pb.out.at (i := 3) rfl)⟩) ?_
  clear hK
  refine wpAnyT_take (i := 6) (oi := { dst := some 12, op := Op.build 26 #[(0, Operand.tmp 9), (1, Operand.tmp 11)], type := 26, pos := "frac.go:35", after := #[{ on := 3, ground := Ground.data }, { on := 5, ground := Ground.data }], guard := none }) (v := (.agg #[.bool nu, .slice adu xu.length qu, (.bool nbd), (.slice adbd xbd.length cbd)])) rfl (by kernel_rfl) (fun _ _ _ h => h) (Or.inl ⟨by rfl, ?_⟩) ⟨(Pa.out.at (i := 0) rfl), (Pa.out.at (i := 1) rfl), (Pa.out.at (i := 2) rfl), (Pa.out.at (i := 3) rfl), (Pb.out.at (i := 0) rfl), (Pb.out.at (i := 1) rfl), (Pb.out.at (i := 2) rfl), (Pb.out.at (i := 3) rfl)⟩ ?_
  · intro w hSw
    (try dsimp only at hSw)
    go_simp
  simp only [Act.put, List.setIfInBounds_toArray, List.set_cons_zero, List.set_cons_succ]
  refine wpAnyT_one (i := 7) (o := { dst := some 13, op := Op.call { callee := Callee.value (Operand.func 10), args := #[Operand.tmp 6, Operand.tmp 12], argTypes := #[26, 26] }, type := 29, pos := "frac.go:35", after := #[{ on := 0, ground := Ground.data }, { on := 6, ground := Ground.data }, { on := 3, ground := Ground.chain }], guard := none }) (by kernel_rfl) rfl (fun K hK => ?_)
  go_simp
  go_at_call 10
  refine (fadd_z Zan.out Zad.out Zu.out.zi Zbd.out hk HD.out).mono ?_
  rintro e w5 ⟨r0, r1, r2, r3, rfl, m0, m1, b⟩
  obtain ⟨nn, xn, adn, qn, rfl, rfl⟩ := m0.zi.comp
  obtain ⟨nd, xd, add, qd, rfl, rfl⟩ := m1.zi.comp
  replace Zan := hid (Zan.out.now b)
  replace Zad := hid (Zad.out.now b)
  replace Zbn := hid (Zbn.out.now b)
  replace Zbd := hid (Zbd.out.now b)
  replace Zu := hid (Zu.out.now b)
  replace Pa := hid (Pa.out.step b)
  replace Pb := hid (Pb.out.step b)
  replace PR := hid (PR.out.step b)
  replace G := hid (below_step G.out b)
  have lz6 := (show Below _ _ _ from b).size
  have Zn := hid m0
  have Zd := hid m1
  clear b m0 m1
  refine hK.out _ _ (fun _ => ⟨(Pa.out.at (i := 0) rfl), (Pa.out.at (i := 1) rfl), (Pa.out.at (i := 2) rfl), (Pa.out.at (i := 3) rfl), (Pb.out.at (i := 0) rfl), (Pb.out.at (i := 1) rfl), (Pb.out.at (i := 2) rfl), (Pb.out.at (i := 3) rfl)⟩) ?_
  clear hK
  refine wpAnyT_take (i := 8) (oi := { dst := some 14, op := Op.extract (Operand.tmp 13) 0, type := 26, pos := "frac.go:35", after := #[{ on := 7, ground := Ground.data }], guard := none }) (v := (.agg #[.bool nn, .slice adn xn.length qn, .bool nd, .slice add xd.length qd])) rfl (by kernel_rfl) (fun _ _ _ h => h) (Or.inl ⟨by rfl, ?_⟩) ⟨(Pa.out.at (i := 0) rfl), (Pa.out.at (i := 1) rfl), (Pa.out.at (i := 2) rfl), (Pa.out.at (i := 3) rfl), (Pb.out.at (i := 0) rfl), (Pb.out.at (i := 1) rfl), (Pb.out.at (i := 2) rfl), (Pb.out.at (i := 3) rfl)⟩ ?_
  · intro w hSw
    (try dsimp only at hSw)
    go_simp
  simp only [Act.put, List.setIfInBounds_toArray, List.set_cons_zero, List.set_cons_succ]
  refine wpAnyT_take (i := 9) (oi := { dst := some 15, op := Op.extract (Operand.tmp 13) 1, type := 28, pos := "frac.go:35", after := #[{ on := 7, ground := Ground.data }], guard := none }) (v := (.int .i64 0)) rfl (by kernel_rfl) (fun _ _ _ h => h) (Or.inl ⟨by rfl, ?_⟩) ⟨(Pa.out.at (i := 0) rfl), (Pa.out.at (i := 1) rfl), (Pa.out.at (i := 2) rfl), (Pa.out.at (i := 3) rfl), (Pb.out.at (i := 0) rfl), (Pb.out.at (i := 1) rfl), (Pb.out.at (i := 2) rfl), (Pb.out.at (i := 3) rfl)⟩ ?_
  · intro w hSw
    (try dsimp only at hSw)
    go_simp
  simp only [Act.put, List.setIfInBounds_toArray, List.set_cons_zero, List.set_cons_succ]
  refine wpAnyT_one (i := 10) (o := { dst := none, op := Op.store 26 (Operand.tmp 4) (Operand.tmp 14), type := 0, pos := "frac.go:35", after := #[{ on := 8, ground := Ground.data }, { on := 7, ground := Ground.chain }, { on := 0, ground := Ground.phase }, { on := 1, ground := Ground.phase }, { on := 2, ground := Ground.phase }, { on := 3, ground := Ground.phase }, { on := 4, ground := Ground.phase }, { on := 5, ground := Ground.phase }, { on := 6, ground := Ground.phase }, { on := 7, ground := Ground.phase }, { on := 8, ground := Ground.phase }, { on := 9, ground := Ground.phase }], guard := none }) (by kernel_rfl) rfl (fun K hK => ?_)
  have cR0 := (PR.out.at (i := 0) rfl)
  have cR1 := (PR.out.at (i := 1) rfl)
  have cR2 := (PR.out.at (i := 2) rfl)
  have cR3 := (PR.out.at (i := 3) rfl)
  have fR0 := PR.out.fz 0
  have fR1 := PR.out.fz 1
  have fR2 := PR.out.fz 2
  have fR3 := PR.out.fz 3
  go_simp
  clear cR0 cR1 cR2 cR3 fR0 fR1 fR2 fR3
  obtain ⟨V7, hW⟩ : ∃ V7, (((w5.setCell ⟨w.heap.size + 1 + 1, 0, none⟩ (.bool nn)).setCell ⟨w.heap.size + 1 + 1, 1, none⟩ (.slice adn xn.length qn)).setCell ⟨w.heap.size + 1 + 1, 2, none⟩ (.bool nd)).setCell ⟨w.heap.size + 1 + 1, 3, none⟩ (.slice add xd.length qd) = V7 := ⟨_, rfl⟩
  replace Zan := hid ((Zan.out).wk ((PR.out).wk4 (.bool nn) (.slice adn xn.length qn) (.bool nd) (.slice add xd.length qd)))
  replace Zad := hid ((Zad.out).wk ((PR.out).wk4 (.bool nn) (.slice adn xn.length qn) (.bool nd) (.slice add xd.length qd)))
  replace Zbn := hid ((Zbn.out).wk ((PR.out).wk4 (.bool nn) (.slice adn xn.length qn) (.bool nd) (.slice add xd.length qd)))
  replace Zbd := hid ((Zbd.out).wk ((PR.out).wk4 (.bool nn) (.slice adn xn.length qn) (.bool nd) (.slice add xd.length qd)))
  replace Zu := hid ((Zu.out).put4f (PR.out) (.bool nn) (.slice adn xn.length qn) (.bool nd) (.slice add xd.length qd))
  replace Zn := hid ((Zn.out).put4f (PR.out) (.bool nn) (.slice adn xn.length qn) (.bool nd) (.slice add xd.length qd))
  replace Zd := hid ((Zd.out).put4f (PR.out) (.bool nn) (.slice adn xn.length qn) (.bool nd) (.slice add xd.length qd))
  replace Pa := hid ((Pa.out).away4 (b' := w.heap.size + 1 + 1) (by omega) (.bool nn) (.slice adn xn.length qn) (.bool nd) (.slice add xd.length qd))
  replace Pb := hid ((Pb.out).away4 (b' := w.heap.size + 1 + 1) (by omega) (.bool nn) (.slice adn xn.length qn) (.bool nd) (.slice add xd.length qd))
  replace PR := hid ((PR.out).put4 (.bool nn) (.slice adn xn.length qn) (.bool nd) (.slice add xd.length qd))
  replace G : Hid (Below w.heap.size w (((((w5.setCell ⟨w.heap.size + 1 + 1, 0, none⟩ (.bool nn)).setCell ⟨w.heap.size + 1 + 1, 1, none⟩ (.slice adn xn.length qn)).setCell ⟨w.heap.size + 1 + 1, 2, none⟩ (.bool nd)).setCell ⟨w.heap.size + 1 + 1, 3, none⟩ (.slice add xd.length qd)))) := bset (bset (bset (bset (G.out) (by omega)) (by omega)) (by omega)) (by omega)
  have sz7 : V7.heap.size = w5.heap.size := by rw [← hW]; simp
  dsimp only [put4] at Zan Zad Zbn Zbd Zu Zn Zd Pa Pb PR
  rw [hW] at Zan Zad Zbn Zbd Zu Zn Zd Pa Pb PR G
  rw [hW]
  clear hW
  refine hK.out _ _ (fun h => absurd h (by decide)) ?_
  clear hK
  try simp only [Act.put]
  refine wpAnyT_one (i := 11) (o := { dst := some 5, op := Op.assign (Operand.tmp 15), type := 28, pos := "frac.go:35", after := #[{ on := 9, ground := Ground.data }, { on := 10, ground := Ground.chain }, { on := 0, ground := Ground.phase }, { on := 1, ground := Ground.phase }, { on := 2, ground := Ground.phase }, { on := 3, ground := Ground.phase }, { on := 4, ground := Ground.phase }, { on := 5, ground := Ground.phase }, { on := 6, ground := Ground.phase }, { on := 7, ground := Ground.phase }, { on := 8, ground := Ground.phase }, { on := 9, ground := Ground.phase }, { on := 10, ground := Ground.phase }], guard := none }) (by kernel_rfl) rfl (fun K hK => ?_)
  go_simp
  refine hK.out _ _ (fun h => absurd h (by decide)) ?_
  clear hK
  try simp only [Act.put]
  refine wpAnyT_done (by kernel_rfl) ?_ _
  go_wp2
  exact bodyPost_ret (fback Try.results11 PR.out _ (by rfl) (by rfl)) rfl ⟨_, _, _, _, rfl, Zn.out.mono (by omega), Zd.out.mono (by omega), G.out⟩

set_option maxHeartbeats 6400000 in
set_option maxRecDepth 100000 in
theorem fsub_bad {w : World} {a0 a1 a2 a3 b0 b1 b2 b3 : Value} {AN AD BN BD : Int} {k : Nat} (han : Zi w (.agg #[a0, a1]) AN k) (had : Zi w (.agg #[a2, a3]) AD k) (hbn : Zi w (.agg #[b0, b1]) BN k) (hbd : Zi w (.agg #[b2, b3]) BD k) (hk : k ≤ 17179869184) (hD : AD * BD = 0) :
    Calls Try.prog 11 #[.agg #[a0, a1, a2, a3], .agg #[b0, b1, b2, b3]] w (GivesFE 4 w) := by
  have HD := hid hD
  clear hD
  have zan0 := han
  obtain ⟨nan, xan, adan, can, ev, -, -, -⟩ := han
  simp only [Value.agg.injEq] at ev
  obtain ⟨rfl, rfl⟩ := pair_eq ev
  have zad0 := had
  obtain ⟨nad, xad, adad, cad, ev, -, -, -⟩ := had
  simp only [Value.agg.injEq] at ev
  obtain ⟨rfl, rfl⟩ := pair_eq ev
  have zbn0 := hbn
  obtain ⟨nbn, xbn, adbn, cbn, ev, -, -, -⟩ := hbn
  simp only [Value.agg.injEq] at ev
  obtain ⟨rfl, rfl⟩ := pair_eq ev
  have zbd0 := hbd
  obtain ⟨nbd, xbd, adbd, cbd, ev, -, -, -⟩ := hbd
  simp only [Value.agg.injEq] at ev
  obtain ⟨rfl, rfl⟩ := pair_eq ev
  obtain ⟨W0, hW⟩ : ∃ W0, ((w.alloc (.cells #[(.bool nan), (.slice adan xan.length can), (.bool nad), (.slice adad xad.length cad)] 26)).alloc (.cells #[(.bool nbn), (.slice adbn xbn.length cbn), (.bool nbd), (.slice adbd xbd.length cbd)] 26)).alloc (.cells #[(.bool false), (.slice none 0 0), (.bool false), (.slice none 0 0)] 26) = W0 := ⟨_, rfl⟩
  obtain ⟨b0, sz0⟩ := alloc3 w (.cells #[(.bool nan), (.slice adan xan.length can), (.bool nad), (.slice adad xad.length cad)] 26) (.cells #[(.bool nbn), (.slice adbn xbn.length cbn), (.bool nbd), (.slice adbd xbd.length cbd)] 26) (.cells #[(.bool false), (.slice none 0 0), (.bool false), (.slice none 0 0)] 26)
  rw [hW] at b0 sz0
  have Pa : Hid (Cel W0 (w.heap.size) 26 [(.bool nan), (.slice adan xan.length can), (.bool nad), (.slice adad xad.length cad)]) := by unfold Hid; rw [← hW]; exact cel_late (cel_late (cel_at (by simp)) _) _
  have Pb : Hid (Cel W0 (w.heap.size + 1) 26 [(.bool nbn), (.slice adbn xbn.length cbn), (.bool nbd), (.slice adbd xbd.length cbd)]) := by unfold Hid; rw [← hW]; exact cel_late (cel_at (by simp)) _
  have PR : Hid (Cel W0 (w.heap.size + 1 + 1) 26 [(.bool false), (.slice none 0 0), (.bool false), (.slice none 0 0)]) := by unfold Hid; rw [← hW]; exact cel_at (by simp)
  have Zan := hid (zan0.now b0)
  clear zan0
  have Zad := hid (zad0.now b0)
  clear zad0
  have Zbn := hid (zbn0.now b0)
  clear zbn0
  have Zbd := hid (zbd0.now b0)
  clear zbd0
  have G := hid b0
  clear b0
  have EW := hid hW
  clear hW
  go_enter Try.func11, Try.ntmps11
  skip
  go_wp2_with fail
  rw [EW.out]
  clear EW
  refine wp_region_tail (fun w' => w'.cell? ⟨w.heap.size, 0, none⟩ = some (.bool nan) ∧ w'.cell? ⟨w.heap.size, 1, none⟩ = some (.slice adan xan.length can) ∧ w'.cell? ⟨w.heap.size, 2, none⟩ = some (.bool nad) ∧ w'.cell? ⟨w.heap.size, 3, none⟩ = some (.slice adad xad.length cad) ∧ w'.cell? ⟨w.heap.size + 1, 0, none⟩ = some (.bool nbn) ∧ w'.cell? ⟨w.heap.size + 1, 1, none⟩ = some (.slice adbn xbn.length cbn) ∧ w'.cell? ⟨w.heap.size + 1, 2, none⟩ = some (.bool nbd) ∧ w'.cell? ⟨w.heap.size + 1, 3, none⟩ = some (.slice adbd xbd.length cbd)) 10 (by kernel_rfl) ?_
  obtain ⟨D1, hD⟩ : ∃ D1, W0.drew = D1 := ⟨_, rfl⟩
  have b : Below W0.heap.size W0 D1 := by rw [← hD]; exact (Below.refl _ _).drew
  rw [hD]
  clear hD
  replace Zan := hid (Zan.out.now b)
  replace Zad := hid (Zad.out.now b)
  replace Zbn := hid (Zbn.out.now b)
  replace Zbd := hid (Zbd.out.now b)
  replace Pa := hid (Pa.out.step b)
  replace Pb := hid (Pb.out.step b)
  replace PR := hid (PR.out.step b)
  replace G := hid (below_step G.out b)
  have lz2 := (show Below _ _ _ from b).size
  clear b
  refine wpAnyT_take (i := 0) (oi := { dst := some 6, op := Op.load 26 (Operand.tmp 2), type := 26, pos := "frac.go:35", after := #[], guard := none }) (v := (.agg #[(.bool nan), (.slice adan xan.length can), (.bool nad), (.slice adad xad.length cad)])) rfl (by kernel_rfl) (fun _ _ _ h => h) (Or.inl ⟨by rfl, ?_⟩) ⟨(Pa.out.at (i := 0) rfl), (Pa.out.at (i := 1) rfl), (Pa.out.at (i := 2) rfl), (Pa.out.at (i := 3) rfl), (Pb.out.at (i := 0) rfl), (Pb.out.at (i := 1) rfl), (Pb.out.at (i := 2) rfl), (Pb.out.at (i := 3) rfl)⟩ ?_
  · intro w hSw
    (try dsimp only at hSw)
    go_simp
  simp only [Act.put, List.setIfInBounds_toArray, List.set_cons_zero, List.set_cons_succ]
  refine wpAnyT_take (i := 1) (oi := { dst := some 7, op := Op.fieldAddr 26 (Operand.tmp 3) 0, type := 0, pos := "frac.go:35", after := #[], guard := none }) (v := (.pointer (some ⟨w.heap.size + 1, 0, none⟩))) rfl (by kernel_rfl) (fun _ _ _ h => h) (Or.inl ⟨by rfl, ?_⟩) ⟨(Pa.out.at (i := 0) rfl), (Pa.out.at (i := 1) rfl), (Pa.out.at (i := 2) rfl), (Pa.out.at (i := 3) rfl), (Pb.out.at (i := 0) rfl), (Pb.out.at (i := 1) rfl), (Pb.out.at (i := 2) rfl), (Pb.out.at (i := 3) rfl)⟩ ?_
  · intro w hSw
    (try dsimp only at hSw)
    go_simp
  simp only [Act.put, List.setIfInBounds_toArray, List.set_cons_zero, List.set_cons_succ]
  refine wpAnyT_take (i := 2) (oi := { dst := some 8, op := Op.load 24 (Operand.tmp 7), type := 24, pos := "frac.go:35", after := #[{ on := 1, ground := Ground.data }], guard := none }) (v := (.agg #[(.bool nbn), (.slice adbn xbn.length cbn)])) rfl (by kernel_rfl) (fun _ _ _ h => h) (Or.inl ⟨by rfl, ?_⟩) ⟨(Pa.out.at (i := 0) rfl), (Pa.out.at (i := 1) rfl), (Pa.out.at (i := 2) rfl), (Pa.out.at (i := 3) rfl), (Pb.out.at (i := 0) rfl), (Pb.out.at (i := 1) rfl), (Pb.out.at (i := 2) rfl), (Pb.out.at (i := 3) rfl)⟩ ?_
  · intro w hSw
    (try dsimp only at hSw)
    go_simp
  simp only [Act.put, List.setIfInBounds_toArray, List.set_cons_zero, List.set_cons_succ]
  refine wpAnyT_take (i := 4) (oi := { dst := some 10, op := Op.fieldAddr 26 (Operand.tmp 3) 1, type := 0, pos := "frac.go:35", after := #[], guard := none }) (v := (.pointer (some ⟨w.heap.size + 1, 2, none⟩))) rfl (by kernel_rfl) (fun _ _ _ h => h) (Or.inl ⟨by rfl, ?_⟩) ⟨(Pa.out.at (i := 0) rfl), (Pa.out.at (i := 1) rfl), (Pa.out.at (i := 2) rfl), (Pa.out.at (i := 3) rfl), (Pb.out.at (i := 0) rfl), (Pb.out.at (i := 1) rfl), (Pb.out.at (i := 2) rfl), (Pb.out.at (i := 3) rfl)⟩ ?_
  · intro w hSw
    (try dsimp only at hSw)
    go_simp
  simp only [Act.put, List.setIfInBounds_toArray, List.set_cons_zero, List.set_cons_succ]
  refine wpAnyT_take (i := 5) (oi := { dst := some 11, op := Op.load 24 (Operand.tmp 10), type := 24, pos := "frac.go:35", after := #[{ on := 4, ground := Ground.data }], guard := none }) (v := (.agg #[(.bool nbd), (.slice adbd xbd.length cbd)])) rfl (by kernel_rfl) (fun _ _ _ h => h) (Or.inl ⟨by rfl, ?_⟩) ⟨(Pa.out.at (i := 0) rfl), (Pa.out.at (i := 1) rfl), (Pa.out.at (i := 2) rfl), (Pa.out.at (i := 3) rfl), (Pb.out.at (i := 0) rfl), (Pb.out.at (i := 1) rfl), (Pb.out.at (i := 2) rfl), (Pb.out.at (i := 3) rfl)⟩ ?_
  · intro w hSw
    (try dsimp only at hSw)
    go_simp
  simp only [Act.put, List.setIfInBounds_toArray, List.set_cons_zero, List.set_cons_succ]
  refine wpAnyT_one (i := 3) (o := { dst := some 9, op := Op.call { callee := Callee.value (Operand.func 36), args := #[Operand.tmp 8], argTypes := #[24] }, type := 24, pos := "frac.go:35", after := #[{ on := 2, ground := Ground.data }], guard := none }) (by kernel_rfl) rfl (fun K hK => ?_)
  go_simp
  go_at_call 36
  refine (neg_z Zbn.out).mono ?_
  rintro e w3 ⟨r0, rfl, m0, b⟩
  obtain ⟨nu, xu, adu, qu, rfl, -, -, -, -, -⟩ := id m0
  replace Zan := hid (Zan.out.now b)
  replace Zad := hid (Zad.out.now b)
  replace Zbn := hid (Zbn.out.now b)
  replace Zbd := hid (Zbd.out.now b)
  replace Pa := hid (Pa.out.step b)
  replace Pb := hid (Pb.out.step b)
  replace PR := hid (PR.out.step b)
  replace G := hid (below_step G.out b)
  have lz4 := (show Below _ _ _ from b).size
  have Zu := hid m0
  clear b m0
  refine hK.out _ _ (fun _ => ⟨(Pa.out.at (i := 0) rfl), (Pa.out.at (i := 1) rfl), (Pa.out.at (i := 2) rfl), (Pa.out.at (i := 3) rfl), (Pb.out.at (i := 0) rfl), (Pb.out.at (i := 1) rfl), (Pb.out.at (i := 2) rfl), (Pb.out.at (i := 3) rfl)⟩) ?_
  clear hK
  refine wpAnyT_take (i := 6) (oi := { dst := some 12, op := Op.build 26 #[(0, Operand.tmp 9), (1, Operand.tmp 11)], type := 26, pos := "frac.go:35", after := #[{ on := 3, ground := Ground.data }, { on := 5, ground := Ground.data }], guard := none }) (v := (.agg #[.bool nu, .slice adu xu.length qu, (.bool nbd), (.slice adbd xbd.length cbd)])) rfl (by kernel_rfl) (fun _ _ _ h => h) (Or.inl ⟨by rfl, ?_⟩) ⟨(Pa.out.at (i := 0) rfl), (Pa.out.at (i := 1) rfl), (Pa.out.at (i := 2) rfl), (Pa.out.at (i := 3) rfl), (Pb.out.at (i := 0) rfl), (Pb.out.at (i := 1) rfl), (Pb.out.at (i := 2) rfl), (Pb.out.at (i := 3) rfl)⟩ ?_
  · intro w hSw
    (try dsimp only at hSw)
    go_simp
  simp only [Act.put, List.setIfInBounds_toArray, List.set_cons_zero, List.set_cons_succ]
  refine wpAnyT_one (i := 7) (o := { dst := some 13, op := Op.call { callee := Callee.value (Operand.func 10), args := #[Operand.tmp 6, Operand.tmp 12], argTypes := #[26, 26] }, type := 29, pos := "frac.go:35", after := #[{ on := 0, ground := Ground.data }, { on := 6, ground := Ground.data }, { on := 3, ground := Ground.chain }], guard := none }) (by kernel_rfl) rfl (fun K hK => ?_)
  go_simp
  go_at_call 10
  refine (fadd_bad Zan.out Zad.out Zu.out.zi Zbd.out hk HD.out).mono ?_
  rintro e w5 ⟨rfl, b⟩
  replace Zan := hid (Zan.out.now b)
  replace Zad := hid (Zad.out.now b)
  replace Zbn := hid (Zbn.out.now b)
  replace Zbd := hid (Zbd.out.now b)
  replace Zu := hid (Zu.out.now b)
  replace Pa := hid (Pa.out.step b)
  replace Pb := hid (Pb.out.step b)
  replace PR := hid (PR.out.step b)
  replace G := hid (below_step G.out b)
  have lz6 := (show Below _ _ _ from b).size
  clear b 
  refine hK.out _ _ (fun _ => ⟨(Pa.out.at (i := 0) rfl), (Pa.out.at (i := 1) rfl), (Pa.out.at (i := 2) rfl), (Pa.out.at (i := 3) rfl), (Pb.out.at (i := 0) rfl), (Pb.out.at (i := 1) rfl), (Pb.out.at (i := 2) rfl), (Pb.out.at (i := 3) rfl)⟩) ?_
  clear hK
  refine wpAnyT_take (i := 8) (oi := { dst := some 14, op := Op.extract (Operand.tmp 13) 0, type := 26, pos := "frac.go:35", after := #[{ on := 7, ground := Ground.data }], guard := none }) (v := (.agg #[(.bool false), (.slice none 0 0), (.bool false), (.slice none 0 0)])) rfl (by kernel_rfl) (fun _ _ _ h => h) (Or.inl ⟨by rfl, ?_⟩) ⟨(Pa.out.at (i := 0) rfl), (Pa.out.at (i := 1) rfl), (Pa.out.at (i := 2) rfl), (Pa.out.at (i := 3) rfl), (Pb.out.at (i := 0) rfl), (Pb.out.at (i := 1) rfl), (Pb.out.at (i := 2) rfl), (Pb.out.at (i := 3) rfl)⟩ ?_
  · intro w hSw
    (try dsimp only at hSw)
    go_simp
  simp only [Act.put, List.setIfInBounds_toArray, List.set_cons_zero, List.set_cons_succ]
  refine wpAnyT_take (i := 9) (oi := { dst := some 15, op := Op.extract (Operand.tmp 13) 1, type := 28, pos := "frac.go:35", after := #[{ on := 7, ground := Ground.data }], guard := none }) (v := (.int .i64 4)) rfl (by kernel_rfl) (fun _ _ _ h => h) (Or.inl ⟨by rfl, ?_⟩) ⟨(Pa.out.at (i := 0) rfl), (Pa.out.at (i := 1) rfl), (Pa.out.at (i := 2) rfl), (Pa.out.at (i := 3) rfl), (Pb.out.at (i := 0) rfl), (Pb.out.at (i := 1) rfl), (Pb.out.at (i := 2) rfl), (Pb.out.at (i := 3) rfl)⟩ ?_
  · intro w hSw
    (try dsimp only at hSw)
    go_simp
  simp only [Act.put, List.setIfInBounds_toArray, List.set_cons_zero, List.set_cons_succ]
  refine wpAnyT_one (i := 10) (o := { dst := none, op := Op.store 26 (Operand.tmp 4) (Operand.tmp 14), type := 0, pos := "frac.go:35", after := #[{ on := 8, ground := Ground.data }, { on := 7, ground := Ground.chain }, { on := 0, ground := Ground.phase }, { on := 1, ground := Ground.phase }, { on := 2, ground := Ground.phase }, { on := 3, ground := Ground.phase }, { on := 4, ground := Ground.phase }, { on := 5, ground := Ground.phase }, { on := 6, ground := Ground.phase }, { on := 7, ground := Ground.phase }, { on := 8, ground := Ground.phase }, { on := 9, ground := Ground.phase }], guard := none }) (by kernel_rfl) rfl (fun K hK => ?_)
  have cR0 := (PR.out.at (i := 0) rfl)
  have cR1 := (PR.out.at (i := 1) rfl)
  have cR2 := (PR.out.at (i := 2) rfl)
  have cR3 := (PR.out.at (i := 3) rfl)
  have fR0 := PR.out.fz 0
  have fR1 := PR.out.fz 1
  have fR2 := PR.out.fz 2
  have fR3 := PR.out.fz 3
  go_simp
  clear cR0 cR1 cR2 cR3 fR0 fR1 fR2 fR3
  obtain ⟨V7, hW⟩ : ∃ V7, (((w5.setCell ⟨w.heap.size + 1 + 1, 0, none⟩ (.bool false)).setCell ⟨w.heap.size + 1 + 1, 1, none⟩ (.slice none 0 0)).setCell ⟨w.heap.size + 1 + 1, 2, none⟩ (.bool false)).setCell ⟨w.heap.size + 1 + 1, 3, none⟩ (.slice none 0 0) = V7 := ⟨_, rfl⟩
  replace Zan := hid ((Zan.out).wk ((PR.out).wk4 (.bool false) (.slice none 0 0) (.bool false) (.slice none 0 0)))
  replace Zad := hid ((Zad.out).wk ((PR.out).wk4 (.bool false) (.slice none 0 0) (.bool false) (.slice none 0 0)))
  replace Zbn := hid ((Zbn.out).wk ((PR.out).wk4 (.bool false) (.slice none 0 0) (.bool false) (.slice none 0 0)))
  replace Zbd := hid ((Zbd.out).wk ((PR.out).wk4 (.bool false) (.slice none 0 0) (.bool false) (.slice none 0 0)))
  replace Zu := hid ((Zu.out).put4f (PR.out) (.bool false) (.slice none 0 0) (.bool false) (.slice none 0 0))
  replace Pa := hid ((Pa.out).away4 (b' := w.heap.size + 1 + 1) (by omega) (.bool false) (.slice none 0 0) (.bool false) (.slice none 0 0))
  replace Pb := hid ((Pb.out).away4 (b' := w.heap.size + 1 + 1) (by omega) (.bool false) (.slice none 0 0) (.bool false) (.slice none 0 0))
  replace PR := hid ((PR.out).put4 (.bool false) (.slice none 0 0) (.bool false) (.slice none 0 0))
  replace G : Hid (Below w.heap.size w (((((w5.setCell ⟨w.heap.size + 1 + 1, 0, none⟩ (.bool false)).setCell ⟨w.heap.size + 1 + 1, 1, none⟩ (.slice none 0 0)).setCell ⟨w.heap.size + 1 + 1, 2, none⟩ (.bool false)).setCell ⟨w.heap.size + 1 + 1, 3, none⟩ (.slice none 0 0)))) := bset (bset (bset (bset (G.out) (by omega)) (by omega)) (by omega)) (by omega)
  have sz7 : V7.heap.size = w5.heap.size := by rw [← hW]; simp
  dsimp only [put4] at Zan Zad Zbn Zbd Zu Pa Pb PR
  rw [hW] at Zan Zad Zbn Zbd Zu Pa Pb PR G
  rw [hW]
  clear hW
  refine hK.out _ _ (fun h => absurd h (by decide)) ?_
  clear hK
  try simp only [Act.put]
  refine wpAnyT_one (i := 11) (o := { dst := some 5, op := Op.assign (Operand.tmp 15), type := 28, pos := "frac.go:35", after := #[{ on := 9, ground := Ground.data }, { on := 10, ground := Ground.chain }, { on := 0, ground := Ground.phase }, { on := 1, ground := Ground.phase }, { on := 2, ground := Ground.phase }, { on := 3, ground := Ground.phase }, { on := 4, ground := Ground.phase }, { on := 5, ground := Ground.phase }, { on := 6, ground := Ground.phase }, { on := 7, ground := Ground.phase }, { on := 8, ground := Ground.phase }, { on := 9, ground := Ground.phase }, { on := 10, ground := Ground.phase }], guard := none }) (by kernel_rfl) rfl (fun K hK => ?_)
  go_simp
  refine hK.out _ _ (fun h => absurd h (by decide)) ?_
  clear hK
  try simp only [Act.put]
  refine wpAnyT_done (by kernel_rfl) ?_ _
  go_wp2
  exact bodyPost_ret (fback Try.results11 PR.out _ (by rfl) (by rfl)) rfl ⟨rfl, G.out⟩

set_option maxHeartbeats 6400000 in
set_option maxRecDepth 100000 in
theorem fdiv_zero {w : World} {a0 a1 a2 a3 b0 b1 b2 b3 : Value} {AN AD BN BD : Int} {k : Nat} (han : Zi w (.agg #[a0, a1]) AN k) (had : Zi w (.agg #[a2, a3]) AD k) (hbn : Zi w (.agg #[b0, b1]) BN k) (hbd : Zi w (.agg #[b2, b3]) BD k) (hk : k ≤ 17179869184) (hB : BD = 0) :
    Calls Try.prog 13 #[.agg #[a0, a1, a2, a3], .agg #[b0, b1, b2, b3]] w (GivesFE 4 w) := by
  have HB := hid hB
  clear hB
  have HS : Hid (∀ w' v, Zi w' v BD k → Calls Try.prog 19 #[v] w' fun e w'' => e = .returned (.int .i64 0) ∧ Below w'.heap.size w' w'') := fun w' v h => by
    have q := sign_z h
    rw [HB.out, cmpI_self] at q
    exact q
  have q0 : ((0 : Int) == 0) = true := rfl
  have zan0 := han
  obtain ⟨nan, xan, adan, can, ev, -, -, -⟩ := han
  simp only [Value.agg.injEq] at ev
  obtain ⟨rfl, rfl⟩ := pair_eq ev
  have zad0 := had
  obtain ⟨nad, xad, adad, cad, ev, -, -, -⟩ := had
  simp only [Value.agg.injEq] at ev
  obtain ⟨rfl, rfl⟩ := pair_eq ev
  have zbn0 := hbn
  obtain ⟨nbn, xbn, adbn, cbn, ev, -, -, -⟩ := hbn
  simp only [Value.agg.injEq] at ev
  obtain ⟨rfl, rfl⟩ := pair_eq ev
  have zbd0 := hbd
  obtain ⟨nbd, xbd, adbd, cbd, ev, -, -, -⟩ := hbd
  simp only [Value.agg.injEq] at ev
  obtain ⟨rfl, rfl⟩ := pair_eq ev
  obtain ⟨W0, hW⟩ : ∃ W0, ((w.alloc (.cells #[(.bool nan), (.slice adan xan.length can), (.bool nad), (.slice adad xad.length cad)] 26)).alloc (.cells #[(.bool nbn), (.slice adbn xbn.length cbn), (.bool nbd), (.slice adbd xbd.length cbd)] 26)).alloc (.cells #[(.bool false), (.slice none 0 0), (.bool false), (.slice none 0 0)] 26) = W0 := ⟨_, rfl⟩
  obtain ⟨b0, sz0⟩ := alloc3 w (.cells #[(.bool nan), (.slice adan xan.length can), (.bool nad), (.slice adad xad.length cad)] 26) (.cells #[(.bool nbn), (.slice adbn xbn.length cbn), (.bool nbd), (.slice adbd xbd.length cbd)] 26) (.cells #[(.bool false), (.slice none 0 0), (.bool false), (.slice none 0 0)] 26)
  rw [hW] at b0 sz0
  have Pa : Hid (Cel W0 (w.heap.size) 26 [(.bool nan), (.slice adan xan.length can), (.bool nad), (.slice adad xad.length cad)]) := by unfold Hid; rw [← hW]; exact cel_late (cel_late (cel_at (by simp)) _) _
  have Pb : Hid (Cel W0 (w.heap.size + 1) 26 [(.bool nbn), (.slice adbn xbn.length cbn), (.bool nbd), (.slice adbd xbd.length cbd)]) := by unfold Hid; rw [← hW]; exact cel_late (cel_at (by simp)) _
  have PR : Hid (Cel W0 (w.heap.size + 1 + 1) 26 [(.bool false), (.slice none 0 0), (.bool false), (.slice none 0 0)]) := by unfold Hid; rw [← hW]; exact cel_at (by simp)
  have Zan := hid (zan0.now b0)
  clear zan0
  have Zad := hid (zad0.now b0)
  clear zad0
  have Zbn := hid (zbn0.now b0)
  clear zbn0
  have Zbd := hid (zbd0.now b0)
  clear zbd0
  have G := hid b0
  clear b0
  have EW := hid hW
  clear hW
  go_enter Try.func13, Try.ntmps13
  have cb0 := (Pb.out.at (i := 0) rfl)
  have cb1 := (Pb.out.at (i := 1) rfl)
  have cb2 := (Pb.out.at (i := 2) rfl)
  have cb3 := (Pb.out.at (i := 3) rfl)
  rw [← EW.out] at cb0 cb1 cb2 cb3
  go_wp2_with fail
  rw [EW.out]
  clear EW
  clear cb0 cb1 cb2 cb3
  refine (HS.out _ _ Zbd.out).mono ?_
  rintro e w1 ⟨rfl, b⟩
  replace Zan := hid (Zan.out.now b)
  replace Zad := hid (Zad.out.now b)
  replace Zbn := hid (Zbn.out.now b)
  replace Zbd := hid (Zbd.out.now b)
  replace Pa := hid (Pa.out.step b)
  replace Pb := hid (Pb.out.step b)
  replace PR := hid (PR.out.step b)
  replace G := hid (below_step G.out b)
  have lz2 := (show Below _ _ _ from b).size
  clear b 
  have cR0 := (PR.out.at (i := 0) rfl)
  have cR1 := (PR.out.at (i := 1) rfl)
  have cR2 := (PR.out.at (i := 2) rfl)
  have cR3 := (PR.out.at (i := 3) rfl)
  have fR0 := PR.out.fz 0
  have fR1 := PR.out.fz 1
  have fR2 := PR.out.fz 2
  have fR3 := PR.out.fz 3
  go_wp2
  exact bodyPost_ret (fback Try.results13 (PR.out.put4 _ _ _ _) _ (by rfl) (by rfl)) rfl ⟨rfl, bset (bset (bset (bset G.out (by omega)) (by omega)) (by omega)) (by omega)⟩

set_option maxHeartbeats 6400000 in
set_option maxRecDepth 100000 in
theorem fdiv_bad {w : World} {a0 a1 a2 a3 b0 b1 b2 b3 : Value} {AN AD BN BD : Int} {k : Nat} (han : Zi w (.agg #[a0, a1]) AN k) (had : Zi w (.agg #[a2, a3]) AD k) (hbn : Zi w (.agg #[b0, b1]) BN k) (hbd : Zi w (.agg #[b2, b3]) BD k) (hk : k ≤ 17179869184) (hB : BD ≠ 0) (hD : AD * BN = 0) :
    Calls Try.prog 13 #[.agg #[a0, a1, a2, a3], .agg #[b0, b1, b2, b3]] w (GivesFE 4 w) := by
  have HB := hid hB
  clear hB
  have HD := hid hD
  clear hD
  have HS : Hid (∀ w' v, Zi w' v BD k → _) := fun (w' : World) (v : Value) (h : Zi w' v BD k) => sign_z h
  have q0 : (cmpI BD 0 == 0) = false := by rw [beq_eq_false_iff_ne]; exact fun e => HB.out (cmpI_zero e)
  generalize cmpI BD 0 = C at *
  have zan0 := han
  obtain ⟨nan, xan, adan, can, ev, -, -, -⟩ := han
  simp only [Value.agg.injEq] at ev
  obtain ⟨rfl, rfl⟩ := pair_eq ev
  have zad0 := had
  obtain ⟨nad, xad, adad, cad, ev, -, -, -⟩ := had
  simp only [Value.agg.injEq] at ev
  obtain ⟨rfl, rfl⟩ := pair_eq ev
  have zbn0 := hbn
  obtain ⟨nbn, xbn, adbn, cbn, ev, -, -, -⟩ := hbn
  simp only [Value.agg.injEq] at ev
  obtain ⟨rfl, rfl⟩ := pair_eq ev
  have zbd0 := hbd
  obtain ⟨nbd, xbd, adbd, cbd, ev, -, -, -⟩ := hbd
  simp only [Value.agg.injEq] at ev
  obtain ⟨rfl, rfl⟩ := pair_eq ev
  obtain ⟨W0, hW⟩ : ∃ W0, ((w.alloc (.cells #[(.bool nan), (.slice adan xan.length can), (.bool nad), (.slice adad xad.length cad)] 26)).alloc (.cells #[(.bool nbn), (.slice adbn xbn.length cbn), (.bool nbd), (.slice adbd xbd.length cbd)] 26)).alloc (.cells #[(.bool false), (.slice none 0 0), (.bool false), (.slice none 0 0)] 26) = W0 := ⟨_, rfl⟩
  obtain ⟨b0, sz0⟩ := alloc3 w (.cells #[(.bool nan), (.slice adan xan.length can), (.bool nad), (.slice adad xad.length cad)] 26) (.cells #[(.bool nbn), (.slice adbn xbn.length cbn), (.bool nbd), (.slice adbd xbd.length cbd)] 26) (.cells #[(.bool false), (.slice none 0 0), (.bool false), (.slice none 0 0)] 26)
  rw [hW] at b0 sz0
  have Pa : Hid (Cel W0 (w.heap.size) 26 [(.bool nan), (.slice adan xan.length can), (.bool nad), (.slice adad xad.length cad)]) := by unfold Hid; rw [← hW]; exact cel_late (cel_late (cel_at (by simp)) _) _
  have Pb : Hid (Cel W0 (w.heap.size + 1) 26 [(.bool nbn), (.slice adbn xbn.length cbn), (.bool nbd), (.slice adbd xbd.length cbd)]) := by unfold Hid; rw [← hW]; exact cel_late (cel_at (by simp)) _
  have PR : Hid (Cel W0 (w.heap.size + 1 + 1) 26 [(.bool false), (.slice none 0 0), (.bool false), (.slice none 0 0)]) := by unfold Hid; rw [← hW]; exact cel_at (by simp)
  have Zan := hid (zan0.now b0)
  clear zan0
  have Zad := hid (zad0.now b0)
  clear zad0
  have Zbn := hid (zbn0.now b0)
  clear zbn0
  have Zbd := hid (zbd0.now b0)
  clear zbd0
  have G := hid b0
  clear b0
  have EW := hid hW
  clear hW
  go_enter Try.func13, Try.ntmps13
  have cb0 := (Pb.out.at (i := 0) rfl)
  have cb1 := (Pb.out.at (i := 1) rfl)
  have cb2 := (Pb.out.at (i := 2) rfl)
  have cb3 := (Pb.out.at (i := 3) rfl)
  rw [← EW.out] at cb0 cb1 cb2 cb3
  go_wp2_with fail
  rw [EW.out]
  clear EW
  clear cb0 cb1 cb2 cb3
  refine (HS.out _ _ Zbd.out).mono ?_
  rintro e w1 ⟨rfl, b⟩
  replace Zan := hid (Zan.out.now b)
  replace Zad := hid (Zad.out.now b)
  replace Zbn := hid (Zbn.out.now b)
  replace Zbd := hid (Zbd.out.now b)
  replace Pa := hid (Pa.out.step b)
  replace Pb := hid (Pb.out.step b)
  replace PR := hid (PR.out.step b)
  replace G := hid (below_step G.out b)
  have lz2 := (show Below _ _ _ from b).size
  clear b 
  have ca0 := (Pa.out.at (i := 0) rfl)
  have ca1 := (Pa.out.at (i := 1) rfl)
  have ca2 := (Pa.out.at (i := 2) rfl)
  have ca3 := (Pa.out.at (i := 3) rfl)
  have cb0 := (Pb.out.at (i := 0) rfl)
  have cb1 := (Pb.out.at (i := 1) rfl)
  have cb2 := (Pb.out.at (i := 2) rfl)
  have cb3 := (Pb.out.at (i := 3) rfl)
  go_wp2_with fail
  clear ca0 ca1 ca2 ca3 cb0 cb1 cb2 cb3
  refine (fmul_bad Zan.out Zad.out Zbd.out Zbn.out hk HD.out).mono ?_
  rintro e w3 ⟨rfl, b⟩
  replace Zan := hid (Zan.out.now b)
  replace Zad := hid (Zad.out.now b)
  replace Zbn := hid (Zbn.out.now b)
  replace Zbd := hid (Zbd.out.now b)
  replace Pa := hid (Pa.out.step b)
  replace Pb := hid (Pb.out.step b)
  replace PR := hid (PR.out.step b)
  replace G := hid (below_step G.out b)
  have lz4 := (show Below _ _ _ from b).size
  clear b 
  have cR0 := (PR.out.at (i := 0) rfl)
  have cR1 := (PR.out.at (i := 1) rfl)
  have cR2 := (PR.out.at (i := 2) rfl)
  have cR3 := (PR.out.at (i := 3) rfl)
  have fR0 := PR.out.fz 0
  have fR1 := PR.out.fz 1
  have fR2 := PR.out.fz 2
  have fR3 := PR.out.fz 3
  go_wp2
  exact bodyPost_ret (fback Try.results13 (PR.out.put4 _ _ _ _) _ (by rfl) (by rfl)) rfl ⟨rfl, bset (bset (bset (bset G.out (by omega)) (by omega)) (by omega)) (by omega)⟩

set_option maxHeartbeats 6400000 in
set_option maxRecDepth 100000 in
theorem fdiv_z {w : World} {a0 a1 a2 a3 b0 b1 b2 b3 : Value} {AN AD BN BD : Int} {k : Nat} (han : Zi w (.agg #[a0, a1]) AN k) (had : Zi w (.agg #[a2, a3]) AD k) (hbn : Zi w (.agg #[b0, b1]) BN k) (hbd : Zi w (.agg #[b2, b3]) BD k) (hk : k ≤ 17179869184) (hB : BD ≠ 0) (hD : AD * BN ≠ 0) :
    Calls Try.prog 13 #[.agg #[a0, a1, a2, a3], .agg #[b0, b1, b2, b3]] w (GivesF w (Rat.divInt (AN * BD) (AD * BN)) (k + k)) := by
  have HB := hid hB
  clear hB
  have HD := hid hD
  clear hD
  have HS : Hid (∀ w' v, Zi w' v BD k → _) := fun (w' : World) (v : Value) (h : Zi w' v BD k) => sign_z h
  have q0 : (cmpI BD 0 == 0) = false := by rw [beq_eq_false_iff_ne]; exact fun e => HB.out (cmpI_zero e)
  generalize cmpI BD 0 = C at *
  have zan0 := han
  obtain ⟨nan, xan, adan, can, ev, -, -, -⟩ := han
  simp only [Value.agg.injEq] at ev
  obtain ⟨rfl, rfl⟩ := pair_eq ev
  have zad0 := had
  obtain ⟨nad, xad, adad, cad, ev, -, -, -⟩ := had
  simp only [Value.agg.injEq] at ev
  obtain ⟨rfl, rfl⟩ := pair_eq ev
  have zbn0 := hbn
  obtain ⟨nbn, xbn, adbn, cbn, ev, -, -, -⟩ := hbn
  simp only [Value.agg.injEq] at ev
  obtain ⟨rfl, rfl⟩ := pair_eq ev
  have zbd0 := hbd
  obtain ⟨nbd, xbd, adbd, cbd, ev, -, -, -⟩ := hbd
  simp only [Value.agg.injEq] at ev
  obtain ⟨rfl, rfl⟩ := pair_eq ev
  obtain ⟨W0, hW⟩ : ∃ W0, ((w.alloc (.cells #[(.bool nan), (.slice adan xan.length can), (.bool nad), (.slice adad xad.length cad)] 26)).alloc (.cells #[(.bool nbn), (.slice adbn xbn.length cbn), (.bool nbd), (.slice adbd xbd.length cbd)] 26)).alloc (.cells #[(.bool false), (.slice none 0 0), (.bool false), (.slice none 0 0)] 26) = W0 := ⟨_, rfl⟩
  obtain ⟨b0, sz0⟩ := alloc3 w (.cells #[(.bool nan), (.slice adan xan.length can), (.bool nad), (.slice adad xad.length cad)] 26) (.cells #[(.bool nbn), (.slice adbn xbn.length cbn), (.bool nbd), (.slice adbd xbd.length cbd)] 26) (.cells #[(.bool false), (.slice none 0 0), (.bool false), (.slice none 0 0)] 26)
  rw [hW] at b0 sz0
  have Pa : Hid (Cel W0 (w.heap.size) 26 [(.bool nan), (.slice adan xan.length can), (.bool nad), (.slice adad xad.length cad)]) := by unfold Hid; rw [← hW]; exact cel_late (cel_late (cel_at (by simp)) _) _
  have Pb : Hid (Cel W0 (w.heap.size + 1) 26 [(.bool nbn), (.slice adbn xbn.length cbn), (.bool nbd), (.slice adbd xbd.length cbd)]) := by unfold Hid; rw [← hW]; exact cel_late (cel_at (by simp)) _
  have PR : Hid (Cel W0 (w.heap.size + 1 + 1) 26 [(.bool false), (.slice none 0 0), (.bool false), (.slice none 0 0)]) := by unfold Hid; rw [← hW]; exact cel_at (by simp)
  have Zan := hid (zan0.now b0)
  clear zan0
  have Zad := hid (zad0.now b0)
  clear zad0
  have Zbn := hid (zbn0.now b0)
  clear zbn0
  have Zbd := hid (zbd0.now b0)
  clear zbd0
  have G := hid b0
  clear b0
  have EW := hid hW
  clear hW
  go_enter Try.func13, Try.ntmps13
  have cb0 := (Pb.out.at (i := 0) rfl)
  have cb1 := (Pb.out.at (i := 1) rfl)
  have cb2 := (Pb.out.at (i := 2) rfl)
  have cb3 := (Pb.out.at (i := 3) rfl)
  rw [← EW.out] at cb0 cb1 cb2 cb3
  go_wp2_with fail
  rw [EW.out]
  clear EW
  clear cb0 cb1 cb2 cb3
  refine (HS.out _ _ Zbd.out).mono ?_
  rintro e w1 ⟨rfl, b⟩
  replace Zan := hid (Zan.out.now b)
  replace Zad := hid (Zad.out.now b)
  replace Zbn := hid (Zbn.out.now b)
  replace Zbd := hid (Zbd.out.now b)
  replace Pa := hid (Pa.out.step b)
  replace Pb := hid (Pb.out.step b)
  replace PR := hid (PR.out.step b)
  replace G := hid (below_step G.out b)
  have lz2 := (show Below _ _ _ from b).size
  clear b 
  have ca0 := (Pa.out.at (i := 0) rfl)
  have ca1 := (Pa.out.at (i := 1) rfl)
  have ca2 := (Pa.out.at (i := 2) rfl)
  have ca3 := (Pa.out.at (i := 3) rfl)
  have cb0 := (Pb.out.at (i := 0) rfl)
  have cb1 := (Pb.out.at (i := 1) rfl)
  have cb2 := (Pb.out.at (i := 2) rfl)
  have cb3 := (Pb.out.at (i := 3) rfl)
  go_wp2_with fail
  clear ca0 ca1 ca2 ca3 cb0 cb1 cb2 cb3
  refine (fmul_z Zan.out Zad.out Zbd.out Zbn.out hk HD.out).mono ?_
  rintro e w3 ⟨r0, r1, r2, r3, rfl, m0, m1, b⟩
  obtain ⟨nn, xn, adn, qn, rfl, rfl⟩ := m0.zi.comp
  obtain ⟨nd, xd, add, qd, rfl, rfl⟩ := m1.zi.comp
  replace Zan := hid (Zan.out.now b)
  replace Zad := hid (Zad.out.now b)
  replace Zbn := hid (Zbn.out.now b)
  replace Zbd := hid (Zbd.out.now b)
  replace Pa := hid (Pa.out.step b)
  replace Pb := hid (Pb.out.step b)
  replace PR := hid (PR.out.step b)
  replace G := hid (below_step G.out b)
  have lz4 := (show Below _ _ _ from b).size
  have Zn := hid m0
  have Zd := hid m1
  clear b m0 m1
  have cR0 := (PR.out.at (i := 0) rfl)
  have cR1 := (PR.out.at (i := 1) rfl)
  have cR2 := (PR.out.at (i := 2) rfl)
  have cR3 := (PR.out.at (i := 3) rfl)
  have fR0 := PR.out.fz 0
  have fR1 := PR.out.fz 1
  have fR2 := PR.out.fz 2
  have fR3 := PR.out.fz 3
  go_wp2
  exact bodyPost_ret (fback Try.results13 (PR.out.put4 _ _ _ _) _ (by rfl) (by rfl)) rfl (gf_end PR.out Zn.out Zd.out G.out (by omega) (by omega) (by omega))

end Go.Proofs.Ytaoammmnpfbdfaa
