/-
  Powers1: BezoutPowers.
-/
import Derived.Test.YthdnnphpjdchnaaQPowers0
namespace Go.Proofs.Ythdnnphpjdchnaa
open Go.RowKit
set_option linter.unusedVariables false

set_option maxHeartbeats 102400000 in
set_option maxRecDepth 100000 in
theorem powers_some {w : World} {va vb : Value} {A B : Int} {E F : Nat} (ha : Zi w va A 1048576) (hb : Zi w vb B 1048576) (hE : E ≤ 255) (hF : F ≤ 255) (hB : B ≠ 0) :
    Calls Try.prog 6 #[va, vb, .agg #[.int .u8 (E : Int), .int .u8 (F : Int)]] w fun e w' => e = .returned (.bool true) ∧ Below w.heap.size w w' := by
  have HB := hid hB
  clear hB
  have za0 := ha
  obtain ⟨na, xa, ada, ca, rfl, -, -, -⟩ := ha
  have zb0 := hb
  obtain ⟨nb, xb, adb, cb, rfl, -, -, -⟩ := hb
  obtain ⟨W0, hW⟩ : ∃ W0, ((w.alloc (duo (.bool na) (.slice ada xa.length ca))).alloc (duo (.bool nb) (.slice adb xb.length cb))).alloc (.cells #[.int .u8 (E : Int), .int .u8 (F : Int)] 46) = W0 := ⟨_, rfl⟩
  obtain ⟨b0, sz0⟩ := alloc3 w (duo (.bool na) (.slice ada xa.length ca)) (duo (.bool nb) (.slice adb xb.length cb)) (.cells #[.int .u8 (E : Int), .int .u8 (F : Int)] 46)
  rw [hW] at b0 sz0
  have Pa : Hid (Duo W0 (w.heap.size) (.bool na) (.slice ada xa.length ca)) := by unfold Hid; rw [← hW]; exact duo_late (duo_late (duo_at rfl) _) _
  have Pb : Hid (Duo W0 (w.heap.size + 1) (.bool nb) (.slice adb xb.length cb)) := by unfold Hid; rw [← hW]; exact duo_late (duo_at (by simp)) _
  have PES : Hid (Cel W0 (w.heap.size + 1 + 1) 46 [(.int .u8 (E : Int)), (.int .u8 (F : Int))]) := by unfold Hid; rw [← hW]; exact cel_at (by simp)
  have Za := hid (za0.now b0)
  clear za0
  have Zb := hid (zb0.now b0)
  clear zb0
  have G := hid b0
  clear b0
  have EW := hid hW
  clear hW
  have u1 : IntKind.u64.wrap (E : Int) = (E : Int) := by rw [IntKind.wrap_u64]; omega
  have u2 : IntKind.u64.wrap (F : Int) = (F : Int) := by rw [IntKind.wrap_u64]; omega
  have u3 : IntKind.u64.wrap ((E : Int) + (F : Int)) = ((E + F : Nat) : Int) := by rw [IntKind.wrap_u64]; omega
  have hEF : E * F ≤ 65025 := Nat.mul_le_mul hE hF
  have u4 : IntKind.u64.wrap ((E : Int) * (F : Int)) = ((E * F : Nat) : Int) := by rw [IntKind.wrap_u64]; push_cast at hEF ⊢; have : (E : Int) * (F : Int) = ((E * F : Nat) : Int) := by push_cast; rfl
                                                                                   omega
  have u5 : IntKind.u64.wrap ((E : Int) + 1) = (E : Int) + 1 := by rw [IntKind.wrap_u64]; omega
  go_enter Try.func6, Try.ntmps6
  skip
  go_wp2_with fail
  rw [EW.out]
  clear EW
  refine (wakes6 _).mono ?_
  rintro e w1 ⟨rfl, b⟩
  replace Za := hid (Za.out.now b)
  replace Zb := hid (Zb.out.now b)
  replace Pa := hid (Pa.out.step b)
  replace Pb := hid (Pb.out.step b)
  replace PES := hid (PES.out.step b)
  replace G := hid (below_step G.out b)
  have lz2 := (show Below _ _ _ from b).size
  clear b 
  have cES0 := (PES.out.at (i := 0) rfl)
  have cES1 := (PES.out.at (i := 1) rfl)
  go_wp2_with fail
  clear cES0 cES1
  clear PES
  go_cut [9, 10] from 26 (fun s1 s2 wx => MetB w1 wx s1 (pmod A E B) (1048576) ∧ s2 = .int .i64 0)
  case first => as_aux_lemma =>
    have GR : Hid (Below w1.heap.size w1 w1) := Below.refl _ _
    refine wp_region_tail (fun w' => w'.cell? ⟨w.heap.size, 0, none⟩ = some (.bool na) ∧ w'.cell? ⟨w.heap.size, 1, none⟩ = some (.slice ada xa.length ca) ∧ w'.cell? ⟨w.heap.size + 1, 0, none⟩ = some (.bool nb) ∧ w'.cell? ⟨w.heap.size + 1, 1, none⟩ = some (.slice adb xb.length cb)) 11 (by kernel_rfl) ?_
    obtain ⟨D3, hD⟩ : ∃ D3, w1.drew = D3 := ⟨_, rfl⟩
    have b : Below w1.heap.size w1 D3 := by rw [← hD]; exact (Below.refl _ _).drew
    rw [hD]
    clear hD
    replace Za := hid (Za.out.now b)
    replace Zb := hid (Zb.out.now b)
    replace Pa := hid (Pa.out.step b)
    replace Pb := hid (Pb.out.step b)
    replace G := hid (below_step G.out b)
    replace GR := hid (below_step GR.out b)
    have lz4 := (show Below _ _ _ from b).size
    clear b
    refine wpAnyT_take (i := 0) (oi := { dst := some 33, op := Op.load 24 (Operand.tmp 3), type := 24, pos := "plain.go:123", after := #[], guard := none }) (v := (.agg #[(.bool na), (.slice ada xa.length ca)])) rfl (by kernel_rfl) (fun _ _ _ h => h) (Or.inl ⟨by rfl, ?_⟩) ⟨Pa.out.c0, Pa.out.c1, Pb.out.c0, Pb.out.c1⟩ ?_
    · intro w hSw
      (try dsimp only at hSw)
      go_simp
    simp only [Act.put, List.setIfInBounds_toArray, List.set_cons_zero, List.set_cons_succ]
    refine wpAnyT_take (i := 1) (oi := { dst := some 34, op := Op.move (Operand.tmp 7), type := 5, pos := "plain.go:123", after := #[], guard := none }) (v := (.int .u8 (E : Int))) rfl (by kernel_rfl) (fun _ _ _ h => h) (Or.inl ⟨by rfl, ?_⟩) ⟨Pa.out.c0, Pa.out.c1, Pb.out.c0, Pb.out.c1⟩ ?_
    · intro w hSw
      (try dsimp only at hSw)
      go_simp
    simp only [Act.put, List.setIfInBounds_toArray, List.set_cons_zero, List.set_cons_succ]
    refine wpAnyT_take (i := 2) (oi := { dst := some 35, op := Op.convert 5 45 (Operand.tmp 34), type := 45, pos := "plain.go:123", after := #[{ on := 1, ground := Ground.data }], guard := none }) (v := (.int .u64 (E : Int))) rfl (by kernel_rfl) (fun _ _ _ h => h) (Or.inl ⟨by rfl, ?_⟩) ⟨Pa.out.c0, Pa.out.c1, Pb.out.c0, Pb.out.c1⟩ ?_
    · intro w hSw
      (try dsimp only at hSw)
      go_simp
    simp only [Act.put, List.setIfInBounds_toArray, List.set_cons_zero, List.set_cons_succ]
    refine wpAnyT_take (i := 4) (oi := { dst := some 37, op := Op.load 24 (Operand.tmp 4), type := 24, pos := "plain.go:123", after := #[], guard := none }) (v := (.agg #[(.bool nb), (.slice adb xb.length cb)])) rfl (by kernel_rfl) (fun _ _ _ h => h) (Or.inl ⟨by rfl, ?_⟩) ⟨Pa.out.c0, Pa.out.c1, Pb.out.c0, Pb.out.c1⟩ ?_
    · intro w hSw
      (try dsimp only at hSw)
      go_simp
    simp only [Act.put, List.setIfInBounds_toArray, List.set_cons_zero, List.set_cons_succ]
    refine wpAnyT_two (i := 3) (j := 9) (oi := { dst := some 36, op := Op.call { callee := Callee.value (Operand.func 30), args := #[Operand.tmp 35], argTypes := #[45] }, type := 24, pos := "plain.go:123", after := #[{ on := 2, ground := Ground.data }], guard := none }) (oj := { dst := some 9, op := Op.alloc 24, type := 0, pos := "plain.go:123", after := #[], guard := none }) (by kernel_rfl) rfl rfl (fun K hK => ?_) (fun K hK => ?_)
    · skip
      go_simp
      go_at_call 30
      refine (of6i (n := (E : Int)) (by omega) (by omega) _).mono ?_
      rintro e w5 ⟨r0, rfl, m0, b⟩
      obtain ⟨no, xo, ado, qo, rfl, -, -, -⟩ := id m0
      replace Za := hid (Za.out.now b)
      replace Zb := hid (Zb.out.now b)
      replace Pa := hid (Pa.out.step b)
      replace Pb := hid (Pb.out.step b)
      replace G := hid (below_step G.out b)
      replace GR := hid (below_step GR.out b)
      have lz6 := (show Below _ _ _ from b).size
      have Zo := hid m0
      clear b m0
      refine hK.out _ _ (fun _ => ⟨Pa.out.c0, Pa.out.c1, Pb.out.c0, Pb.out.c1⟩) ?_
      clear hK
      refine wpAnyT_two (i := 5) (j := 9) (oi := { dst := some 38, op := Op.call { callee := Callee.value (Operand.func 32), args := #[Operand.tmp 33, Operand.tmp 36, Operand.tmp 37], argTypes := #[24, 24, 24] }, type := 35, pos := "plain.go:123", after := #[{ on := 0, ground := Ground.data }, { on := 3, ground := Ground.data }, { on := 4, ground := Ground.data }, { on := 3, ground := Ground.chain }], guard := none }) (oj := { dst := some 9, op := Op.alloc 24, type := 0, pos := "plain.go:123", after := #[], guard := none }) (by kernel_rfl) rfl rfl (fun K hK => ?_) (fun K hK => ?_)
      · skip
        go_simp
        go_at_call 32
        refine (powMod_nat (n := E) Za.out Zo.out Zb.out (by decide) (by decide) HB.out (by decide)).mono ?_
        rintro e w7 ⟨r0, rfl, m0, b⟩
        obtain ⟨np, xp, adp, qp, rfl, -, -, -, -, -⟩ := id m0
        replace Za := hid (Za.out.now b)
        replace Zb := hid (Zb.out.now b)
        replace Zo := hid (Zo.out.now b)
        replace Pa := hid (Pa.out.step b)
        replace Pb := hid (Pb.out.step b)
        replace G := hid (below_step G.out b)
        replace GR := hid (below_step GR.out b)
        have lz8 := (show Below _ _ _ from b).size
        have Zp := hid m0
        clear b m0
        refine hK.out _ _ (fun _ => ⟨Pa.out.c0, Pa.out.c1, Pb.out.c0, Pb.out.c1⟩) ?_
        clear hK
        refine wpAnyT_take (i := 6) (oi := { dst := some 32, op := Op.move (Operand.tmp 38), type := 35, pos := "plain.go:123", after := #[{ on := 5, ground := Ground.data }], guard := none }) (v := (.tuple #[(.agg #[.bool np, .slice adp xp.length qp]), (.int .i64 0)])) rfl (by kernel_rfl) (fun _ _ _ h => h) (Or.inl ⟨by rfl, ?_⟩) ⟨Pa.out.c0, Pa.out.c1, Pb.out.c0, Pb.out.c1⟩ ?_
        · intro w hSw
          (try dsimp only at hSw)
          go_simp
        simp only [Act.put, List.setIfInBounds_toArray, List.set_cons_zero, List.set_cons_succ]
        refine wpAnyT_take (i := 7) (oi := { dst := some 39, op := Op.extract (Operand.tmp 32) 0, type := 24, pos := "plain.go:123", after := #[{ on := 6, ground := Ground.data }], guard := none }) (v := (.agg #[.bool np, .slice adp xp.length qp])) rfl (by kernel_rfl) (fun _ _ _ h => h) (Or.inl ⟨by rfl, ?_⟩) ⟨Pa.out.c0, Pa.out.c1, Pb.out.c0, Pb.out.c1⟩ ?_
        · intro w hSw
          (try dsimp only at hSw)
          go_simp
        simp only [Act.put, List.setIfInBounds_toArray, List.set_cons_zero, List.set_cons_succ]
        refine wpAnyT_take (i := 8) (oi := { dst := some 40, op := Op.extract (Operand.tmp 32) 1, type := 34, pos := "plain.go:123", after := #[{ on := 6, ground := Ground.data }, { on := 10, ground := Ground.gcOnly Departure.lateStores }], guard := none }) (v := (.int .i64 0)) rfl (by kernel_rfl) (fun _ _ _ h => h) (Or.inl ⟨by rfl, ?_⟩) ⟨Pa.out.c0, Pa.out.c1, Pb.out.c0, Pb.out.c1⟩ ?_
        · intro w hSw
          (try dsimp only at hSw)
          go_simp
        simp only [Act.put, List.setIfInBounds_toArray, List.set_cons_zero, List.set_cons_succ]
        refine wpAnyT_one (i := 9) (o := { dst := some 9, op := Op.alloc 24, type := 0, pos := "plain.go:123", after := #[], guard := none }) (by kernel_rfl) rfl (fun K hK => ?_)
        go_simp
        obtain ⟨V9, hW⟩ : ∃ V9, w7.alloc zbox = V9 := ⟨_, rfl⟩
        obtain ⟨kW, sz9⟩ := alloc1 w7 zbox
        rw [hW] at kW sz9
        replace Za := hid (Za.out.now kW)
        replace Zb := hid (Zb.out.now kW)
        replace Zo := hid (Zo.out.now kW)
        replace Zp := hid (Zp.out.now kW)
        replace Pa := hid (Pa.out.step kW)
        replace Pb := hid (Pb.out.step kW)
        replace G := hid (below_step G.out kW)
        replace GR := hid (below_step GR.out kW)
        have lz10 := (show Below _ _ _ from kW).size
        have PN9 : Hid (Duo V9 (w7.heap.size) (.bool false) (.slice none 0 0)) := by unfold Hid; rw [← hW]; exact duo_at rfl
        rw [hW]
        clear hW kW
        refine hK.out _ _ (fun _ => ⟨Pa.out.c0, Pa.out.c1, Pb.out.c0, Pb.out.c1⟩) ?_
        clear hK
        try simp only [Act.put]
        refine wpAnyT_one (i := 10) (o := { dst := none, op := Op.store 24 (Operand.tmp 9) (Operand.tmp 39), type := 0, pos := "plain.go:123", after := #[{ on := 9, ground := Ground.data }, { on := 7, ground := Ground.data }, { on := 5, ground := Ground.chain }, { on := 0, ground := Ground.phase }, { on := 1, ground := Ground.phase }, { on := 2, ground := Ground.phase }, { on := 3, ground := Ground.phase }, { on := 4, ground := Ground.phase }, { on := 5, ground := Ground.phase }, { on := 6, ground := Ground.phase }, { on := 7, ground := Ground.phase }, { on := 8, ground := Ground.textOnly Departure.lateStores }, { on := 9, ground := Ground.phase }], guard := none }) (by kernel_rfl) rfl (fun K hK => ?_)
        have cN90 := PN9.out.c0
        have cN91 := PN9.out.c1
        have fN90 := PN9.out.fz 0
        have fN91 := PN9.out.fz 1
        go_simp
        clear cN90 cN91 fN90 fN91
        obtain ⟨V11, hW⟩ : ∃ V11, (V9.setCell ⟨w7.heap.size, 0, none⟩ (.bool np)).setCell ⟨w7.heap.size, 1, none⟩ (.slice adp xp.length qp) = V11 := ⟨_, rfl⟩
        replace Za := hid ((Za.out).wk ((PN9.out).wk (.bool np) (.slice adp xp.length qp)))
        replace Zb := hid ((Zb.out).wk ((PN9.out).wk (.bool np) (.slice adp xp.length qp)))
        replace Zo := hid ((Zo.out).wk ((PN9.out).wk (.bool np) (.slice adp xp.length qp)))
        replace Zp := hid ((Zp.out).box (PN9.out) (.bool np) (.slice adp xp.length qp))
        replace Pa := hid ((Pa.out).box (b' := w7.heap.size) (by omega) (.bool np) (.slice adp xp.length qp))
        replace Pb := hid ((Pb.out).box (b' := w7.heap.size) (by omega) (.bool np) (.slice adp xp.length qp))
        replace PN9 := hid ((PN9.out).set (.bool np) (.slice adp xp.length qp))
        replace G : Hid (Below w.heap.size w (((V9.setCell ⟨w7.heap.size, 0, none⟩ (.bool np)).setCell ⟨w7.heap.size, 1, none⟩ (.slice adp xp.length qp)))) := bset (bset (G.out) (by omega)) (by omega)
        replace GR : Hid (Below w1.heap.size w1 (((V9.setCell ⟨w7.heap.size, 0, none⟩ (.bool np)).setCell ⟨w7.heap.size, 1, none⟩ (.slice adp xp.length qp)))) := bset (bset (GR.out) (by omega)) (by omega)
        have sz11 : V11.heap.size = V9.heap.size := by rw [← hW]; simp
        rw [hW] at Za Zb Zo Zp Pa Pb PN9 G GR
        rw [hW]
        clear hW
        refine hK.out _ _ (fun _ => ⟨Pa.out.c0, Pa.out.c1, Pb.out.c0, Pb.out.c1⟩) ?_
        clear hK
        try simp only [Act.put]
        refine wpAnyT_one (i := 11) (o := { dst := some 10, op := Op.assign (Operand.tmp 40), type := 34, pos := "plain.go:123", after := #[{ on := 8, ground := Ground.data }, { on := 10, ground := Ground.chain }, { on := 0, ground := Ground.phase }, { on := 1, ground := Ground.phase }, { on := 2, ground := Ground.phase }, { on := 3, ground := Ground.phase }, { on := 4, ground := Ground.phase }, { on := 5, ground := Ground.phase }, { on := 6, ground := Ground.phase }, { on := 7, ground := Ground.phase }, { on := 8, ground := Ground.phase }, { on := 9, ground := Ground.phase }, { on := 10, ground := Ground.phase }], guard := none }) (by kernel_rfl) rfl (fun K hK => ?_)
        go_simp
        refine hK.out _ _ (fun h => absurd h (by decide)) ?_
        clear hK
        try simp only [Act.put]
        refine wpAnyT_done (by kernel_rfl) ?_ _
        go_wp2_with fail
        go_meet
        exact ⟨⟨_, _, _, _, _, rfl, GR.out, by omega, PN9.out.blk, PN9.out, Zp.out.mono (by omega)⟩, rfl⟩
      · skip
        go_simp
        obtain ⟨V12, hW⟩ : ∃ V12, w5.alloc zbox = V12 := ⟨_, rfl⟩
        obtain ⟨kW, sz12⟩ := alloc1 w5 zbox
        rw [hW] at kW sz12
        replace Za := hid (Za.out.now kW)
        replace Zb := hid (Zb.out.now kW)
        replace Zo := hid (Zo.out.now kW)
        replace Pa := hid (Pa.out.step kW)
        replace Pb := hid (Pb.out.step kW)
        replace G := hid (below_step G.out kW)
        replace GR := hid (below_step GR.out kW)
        have lz13 := (show Below _ _ _ from kW).size
        have PN9 : Hid (Duo V12 (w5.heap.size) (.bool false) (.slice none 0 0)) := by unfold Hid; rw [← hW]; exact duo_at rfl
        rw [hW]
        clear hW kW
        refine hK.out _ _ (fun _ => ⟨Pa.out.c0, Pa.out.c1, Pb.out.c0, Pb.out.c1⟩) ?_
        clear hK
        try simp only [Act.put]
        refine wpAnyT_one (i := 5) (o := { dst := some 38, op := Op.call { callee := Callee.value (Operand.func 32), args := #[Operand.tmp 33, Operand.tmp 36, Operand.tmp 37], argTypes := #[24, 24, 24] }, type := 35, pos := "plain.go:123", after := #[{ on := 0, ground := Ground.data }, { on := 3, ground := Ground.data }, { on := 4, ground := Ground.data }, { on := 3, ground := Ground.chain }], guard := none }) (by kernel_rfl) rfl (fun K hK => ?_)
        go_simp
        go_at_call 32
        refine (powMod_nat (n := E) Za.out Zo.out Zb.out (by decide) (by decide) HB.out (by decide)).mono ?_
        rintro e w14 ⟨r0, rfl, m0, b⟩
        obtain ⟨np, xp, adp, qp, rfl, -, -, -, -, -⟩ := id m0
        replace Za := hid (Za.out.now b)
        replace Zb := hid (Zb.out.now b)
        replace Zo := hid (Zo.out.now b)
        replace Pa := hid (Pa.out.step b)
        replace Pb := hid (Pb.out.step b)
        replace PN9 := hid (PN9.out.step b)
        replace G := hid (below_step G.out b)
        replace GR := hid (below_step GR.out b)
        have lz15 := (show Below _ _ _ from b).size
        have Zp := hid m0
        clear b m0
        refine hK.out _ _ (fun _ => ⟨Pa.out.c0, Pa.out.c1, Pb.out.c0, Pb.out.c1⟩) ?_
        clear hK
        refine wpAnyT_take (i := 6) (oi := { dst := some 32, op := Op.move (Operand.tmp 38), type := 35, pos := "plain.go:123", after := #[{ on := 5, ground := Ground.data }], guard := none }) (v := (.tuple #[(.agg #[.bool np, .slice adp xp.length qp]), (.int .i64 0)])) rfl (by kernel_rfl) (fun _ _ _ h => h) (Or.inl ⟨by rfl, ?_⟩) ⟨Pa.out.c0, Pa.out.c1, Pb.out.c0, Pb.out.c1⟩ ?_
        · intro w hSw
          (try dsimp only at hSw)
          go_simp
        simp only [Act.put, List.setIfInBounds_toArray, List.set_cons_zero, List.set_cons_succ]
        refine wpAnyT_take (i := 7) (oi := { dst := some 39, op := Op.extract (Operand.tmp 32) 0, type := 24, pos := "plain.go:123", after := #[{ on := 6, ground := Ground.data }], guard := none }) (v := (.agg #[.bool np, .slice adp xp.length qp])) rfl (by kernel_rfl) (fun _ _ _ h => h) (Or.inl ⟨by rfl, ?_⟩) ⟨Pa.out.c0, Pa.out.c1, Pb.out.c0, Pb.out.c1⟩ ?_
        · intro w hSw
          (try dsimp only at hSw)
          go_simp
        simp only [Act.put, List.setIfInBounds_toArray, List.set_cons_zero, List.set_cons_succ]
        refine wpAnyT_take (i := 8) (oi := { dst := some 40, op := Op.extract (Operand.tmp 32) 1, type := 34, pos := "plain.go:123", after := #[{ on := 6, ground := Ground.data }, { on := 10, ground := Ground.gcOnly Departure.lateStores }], guard := none }) (v := (.int .i64 0)) rfl (by kernel_rfl) (fun _ _ _ h => h) (Or.inl ⟨by rfl, ?_⟩) ⟨Pa.out.c0, Pa.out.c1, Pb.out.c0, Pb.out.c1⟩ ?_
        · intro w hSw
          (try dsimp only at hSw)
          go_simp
        simp only [Act.put, List.setIfInBounds_toArray, List.set_cons_zero, List.set_cons_succ]
        refine wpAnyT_one (i := 10) (o := { dst := none, op := Op.store 24 (Operand.tmp 9) (Operand.tmp 39), type := 0, pos := "plain.go:123", after := #[{ on := 9, ground := Ground.data }, { on := 7, ground := Ground.data }, { on := 5, ground := Ground.chain }, { on := 0, ground := Ground.phase }, { on := 1, ground := Ground.phase }, { on := 2, ground := Ground.phase }, { on := 3, ground := Ground.phase }, { on := 4, ground := Ground.phase }, { on := 5, ground := Ground.phase }, { on := 6, ground := Ground.phase }, { on := 7, ground := Ground.phase }, { on := 8, ground := Ground.textOnly Departure.lateStores }, { on := 9, ground := Ground.phase }], guard := none }) (by kernel_rfl) rfl (fun K hK => ?_)
        have cN90 := PN9.out.c0
        have cN91 := PN9.out.c1
        have fN90 := PN9.out.fz 0
        have fN91 := PN9.out.fz 1
        go_simp
        clear cN90 cN91 fN90 fN91
        obtain ⟨V16, hW⟩ : ∃ V16, (w14.setCell ⟨w5.heap.size, 0, none⟩ (.bool np)).setCell ⟨w5.heap.size, 1, none⟩ (.slice adp xp.length qp) = V16 := ⟨_, rfl⟩
        replace Za := hid ((Za.out).wk ((PN9.out).wk (.bool np) (.slice adp xp.length qp)))
        replace Zb := hid ((Zb.out).wk ((PN9.out).wk (.bool np) (.slice adp xp.length qp)))
        replace Zo := hid ((Zo.out).wk ((PN9.out).wk (.bool np) (.slice adp xp.length qp)))
        replace Zp := hid ((Zp.out).box (PN9.out) (.bool np) (.slice adp xp.length qp))
        replace Pa := hid ((Pa.out).box (b' := w5.heap.size) (by omega) (.bool np) (.slice adp xp.length qp))
        replace Pb := hid ((Pb.out).box (b' := w5.heap.size) (by omega) (.bool np) (.slice adp xp.length qp))
        replace PN9 := hid ((PN9.out).set (.bool np) (.slice adp xp.length qp))
        replace G : Hid (Below w.heap.size w (((w14.setCell ⟨w5.heap.size, 0, none⟩ (.bool np)).setCell ⟨w5.heap.size, 1, none⟩ (.slice adp xp.length qp)))) := bset (bset (G.out) (by omega)) (by omega)
        replace GR : Hid (Below w1.heap.size w1 (((w14.setCell ⟨w5.heap.size, 0, none⟩ (.bool np)).setCell ⟨w5.heap.size, 1, none⟩ (.slice adp xp.length qp)))) := bset (bset (GR.out) (by omega)) (by omega)
        have sz16 : V16.heap.size = w14.heap.size := by rw [← hW]; simp
        rw [hW] at Za Zb Zo Zp Pa Pb PN9 G GR
        rw [hW]
        clear hW
        refine hK.out _ _ (fun _ => ⟨Pa.out.c0, Pa.out.c1, Pb.out.c0, Pb.out.c1⟩) ?_
        clear hK
        try simp only [Act.put]
        refine wpAnyT_one (i := 11) (o := { dst := some 10, op := Op.assign (Operand.tmp 40), type := 34, pos := "plain.go:123", after := #[{ on := 8, ground := Ground.data }, { on := 10, ground := Ground.chain }, { on := 0, ground := Ground.phase }, { on := 1, ground := Ground.phase }, { on := 2, ground := Ground.phase }, { on := 3, ground := Ground.phase }, { on := 4, ground := Ground.phase }, { on := 5, ground := Ground.phase }, { on := 6, ground := Ground.phase }, { on := 7, ground := Ground.phase }, { on := 8, ground := Ground.phase }, { on := 9, ground := Ground.phase }, { on := 10, ground := Ground.phase }], guard := none }) (by kernel_rfl) rfl (fun K hK => ?_)
        go_simp
        refine hK.out _ _ (fun h => absurd h (by decide)) ?_
        clear hK
        try simp only [Act.put]
        refine wpAnyT_done (by kernel_rfl) ?_ _
        go_wp2_with fail
        go_meet
        exact ⟨⟨_, _, _, _, _, rfl, GR.out, by omega, PN9.out.blk, PN9.out, Zp.out.mono (by omega)⟩, rfl⟩
    · skip
      go_simp
      obtain ⟨V17, hW⟩ : ∃ V17, D3.alloc zbox = V17 := ⟨_, rfl⟩
      obtain ⟨kW, sz17⟩ := alloc1 D3 zbox
      rw [hW] at kW sz17
      replace Za := hid (Za.out.now kW)
      replace Zb := hid (Zb.out.now kW)
      replace Pa := hid (Pa.out.step kW)
      replace Pb := hid (Pb.out.step kW)
      replace G := hid (below_step G.out kW)
      replace GR := hid (below_step GR.out kW)
      have lz18 := (show Below _ _ _ from kW).size
      have PN9 : Hid (Duo V17 (D3.heap.size) (.bool false) (.slice none 0 0)) := by unfold Hid; rw [← hW]; exact duo_at rfl
      rw [hW]
      clear hW kW
      refine hK.out _ _ (fun _ => ⟨Pa.out.c0, Pa.out.c1, Pb.out.c0, Pb.out.c1⟩) ?_
      clear hK
      try simp only [Act.put]
      refine wpAnyT_one (i := 3) (o := { dst := some 36, op := Op.call { callee := Callee.value (Operand.func 30), args := #[Operand.tmp 35], argTypes := #[45] }, type := 24, pos := "plain.go:123", after := #[{ on := 2, ground := Ground.data }], guard := none }) (by kernel_rfl) rfl (fun K hK => ?_)
      go_simp
      go_at_call 30
      refine (of6i (n := (E : Int)) (by omega) (by omega) _).mono ?_
      rintro e w19 ⟨r0, rfl, m0, b⟩
      obtain ⟨no, xo, ado, qo, rfl, -, -, -⟩ := id m0
      replace Za := hid (Za.out.now b)
      replace Zb := hid (Zb.out.now b)
      replace Pa := hid (Pa.out.step b)
      replace Pb := hid (Pb.out.step b)
      replace PN9 := hid (PN9.out.step b)
      replace G := hid (below_step G.out b)
      replace GR := hid (below_step GR.out b)
      have lz20 := (show Below _ _ _ from b).size
      have Zo := hid m0
      clear b m0
      refine hK.out _ _ (fun _ => ⟨Pa.out.c0, Pa.out.c1, Pb.out.c0, Pb.out.c1⟩) ?_
      clear hK
      refine wpAnyT_one (i := 5) (o := { dst := some 38, op := Op.call { callee := Callee.value (Operand.func 32), args := #[Operand.tmp 33, Operand.tmp 36, Operand.tmp 37], argTypes := #[24, 24, 24] }, type := 35, pos := "plain.go:123", after := #[{ on := 0, ground := Ground.data }, { on := 3, ground := Ground.data }, { on := 4, ground := Ground.data }, { on := 3, ground := Ground.chain }], guard := none }) (by kernel_rfl) rfl (fun K hK => ?_)
      go_simp
      go_at_call 32
      refine (powMod_nat (n := E) Za.out Zo.out Zb.out (by decide) (by decide) HB.out (by decide)).mono ?_
      rintro e w21 ⟨r0, rfl, m0, b⟩
      obtain ⟨np, xp, adp, qp, rfl, -, -, -, -, -⟩ := id m0
      replace Za := hid (Za.out.now b)
      replace Zb := hid (Zb.out.now b)
      replace Zo := hid (Zo.out.now b)
      replace Pa := hid (Pa.out.step b)
      replace Pb := hid (Pb.out.step b)
      replace PN9 := hid (PN9.out.step b)
      replace G := hid (below_step G.out b)
      replace GR := hid (below_step GR.out b)
      have lz22 := (show Below _ _ _ from b).size
      have Zp := hid m0
      clear b m0
      refine hK.out _ _ (fun _ => ⟨Pa.out.c0, Pa.out.c1, Pb.out.c0, Pb.out.c1⟩) ?_
      clear hK
      refine wpAnyT_take (i := 6) (oi := { dst := some 32, op := Op.move (Operand.tmp 38), type := 35, pos := "plain.go:123", after := #[{ on := 5, ground := Ground.data }], guard := none }) (v := (.tuple #[(.agg #[.bool np, .slice adp xp.length qp]), (.int .i64 0)])) rfl (by kernel_rfl) (fun _ _ _ h => h) (Or.inl ⟨by rfl, ?_⟩) ⟨Pa.out.c0, Pa.out.c1, Pb.out.c0, Pb.out.c1⟩ ?_
      · intro w hSw
        (try dsimp only at hSw)
        go_simp
      simp only [Act.put, List.setIfInBounds_toArray, List.set_cons_zero, List.set_cons_succ]
      refine wpAnyT_take (i := 7) (oi := { dst := some 39, op := Op.extract (Operand.tmp 32) 0, type := 24, pos := "plain.go:123", after := #[{ on := 6, ground := Ground.data }], guard := none }) (v := (.agg #[.bool np, .slice adp xp.length qp])) rfl (by kernel_rfl) (fun _ _ _ h => h) (Or.inl ⟨by rfl, ?_⟩) ⟨Pa.out.c0, Pa.out.c1, Pb.out.c0, Pb.out.c1⟩ ?_
      · intro w hSw
        (try dsimp only at hSw)
        go_simp
      simp only [Act.put, List.setIfInBounds_toArray, List.set_cons_zero, List.set_cons_succ]
      refine wpAnyT_take (i := 8) (oi := { dst := some 40, op := Op.extract (Operand.tmp 32) 1, type := 34, pos := "plain.go:123", after := #[{ on := 6, ground := Ground.data }, { on := 10, ground := Ground.gcOnly Departure.lateStores }], guard := none }) (v := (.int .i64 0)) rfl (by kernel_rfl) (fun _ _ _ h => h) (Or.inl ⟨by rfl, ?_⟩) ⟨Pa.out.c0, Pa.out.c1, Pb.out.c0, Pb.out.c1⟩ ?_
      · intro w hSw
        (try dsimp only at hSw)
        go_simp
      simp only [Act.put, List.setIfInBounds_toArray, List.set_cons_zero, List.set_cons_succ]
      refine wpAnyT_one (i := 10) (o := { dst := none, op := Op.store 24 (Operand.tmp 9) (Operand.tmp 39), type := 0, pos := "plain.go:123", after := #[{ on := 9, ground := Ground.data }, { on := 7, ground := Ground.data }, { on := 5, ground := Ground.chain }, { on := 0, ground := Ground.phase }, { on := 1, ground := Ground.phase }, { on := 2, ground := Ground.phase }, { on := 3, ground := Ground.phase }, { on := 4, ground := Ground.phase }, { on := 5, ground := Ground.phase }, { on := 6, ground := Ground.phase }, { on := 7, ground := Ground.phase }, { on := 8, ground := Ground.textOnly Departure.lateStores }, { on := 9, ground := Ground.phase }], guard := none }) (by kernel_rfl) rfl (fun K hK => ?_)
      have cN90 := PN9.out.c0
      have cN91 := PN9.out.c1
      have fN90 := PN9.out.fz 0
      have fN91 := PN9.out.fz 1
      go_simp
      clear cN90 cN91 fN90 fN91
      obtain ⟨V23, hW⟩ : ∃ V23, (w21.setCell ⟨D3.heap.size, 0, none⟩ (.bool np)).setCell ⟨D3.heap.size, 1, none⟩ (.slice adp xp.length qp) = V23 := ⟨_, rfl⟩
      replace Za := hid ((Za.out).wk ((PN9.out).wk (.bool np) (.slice adp xp.length qp)))
      replace Zb := hid ((Zb.out).wk ((PN9.out).wk (.bool np) (.slice adp xp.length qp)))
      replace Zo := hid ((Zo.out).wk ((PN9.out).wk (.bool np) (.slice adp xp.length qp)))
      replace Zp := hid ((Zp.out).box (PN9.out) (.bool np) (.slice adp xp.length qp))
      replace Pa := hid ((Pa.out).box (b' := D3.heap.size) (by omega) (.bool np) (.slice adp xp.length qp))
      replace Pb := hid ((Pb.out).box (b' := D3.heap.size) (by omega) (.bool np) (.slice adp xp.length qp))
      replace PN9 := hid ((PN9.out).set (.bool np) (.slice adp xp.length qp))
      replace G : Hid (Below w.heap.size w (((w21.setCell ⟨D3.heap.size, 0, none⟩ (.bool np)).setCell ⟨D3.heap.size, 1, none⟩ (.slice adp xp.length qp)))) := bset (bset (G.out) (by omega)) (by omega)
      replace GR : Hid (Below w1.heap.size w1 (((w21.setCell ⟨D3.heap.size, 0, none⟩ (.bool np)).setCell ⟨D3.heap.size, 1, none⟩ (.slice adp xp.length qp)))) := bset (bset (GR.out) (by omega)) (by omega)
      have sz23 : V23.heap.size = w21.heap.size := by rw [← hW]; simp
      rw [hW] at Za Zb Zo Zp Pa Pb PN9 G GR
      rw [hW]
      clear hW
      refine hK.out _ _ (fun _ => ⟨Pa.out.c0, Pa.out.c1, Pb.out.c0, Pb.out.c1⟩) ?_
      clear hK
      try simp only [Act.put]
      refine wpAnyT_one (i := 11) (o := { dst := some 10, op := Op.assign (Operand.tmp 40), type := 34, pos := "plain.go:123", after := #[{ on := 8, ground := Ground.data }, { on := 10, ground := Ground.chain }, { on := 0, ground := Ground.phase }, { on := 1, ground := Ground.phase }, { on := 2, ground := Ground.phase }, { on := 3, ground := Ground.phase }, { on := 4, ground := Ground.phase }, { on := 5, ground := Ground.phase }, { on := 6, ground := Ground.phase }, { on := 7, ground := Ground.phase }, { on := 8, ground := Ground.phase }, { on := 9, ground := Ground.phase }, { on := 10, ground := Ground.phase }], guard := none }) (by kernel_rfl) rfl (fun K hK => ?_)
      go_simp
      refine hK.out _ _ (fun h => absurd h (by decide)) ?_
      clear hK
      try simp only [Act.put]
      refine wpAnyT_done (by kernel_rfl) ?_ _
      go_wp2_with fail
      go_meet
      exact ⟨⟨_, _, _, _, _, rfl, GR.out, by omega, PN9.out.blk, PN9.out, Zp.out.mono (by omega)⟩, rfl⟩
  case rest => as_aux_lemma =>
  obtain ⟨⟨bkp, np, xp, adp, qp, rfl, b, gep, ltp, p, m⟩, rfl⟩ := hcut
  replace Za := hid (Za.out.now b)
  replace Zb := hid (Zb.out.now b)
  replace Pa := hid (Pa.out.step b)
  replace Pb := hid (Pb.out.step b)
  replace G := hid (below_step G.out b)
  have lz25 := (show Below _ _ _ from b).size
  have Zp := hid m
  have Pp := hid p
  clear b p m
  generalize wc = C25 at *
  have bB : (cmpI B 0 == 0) = false := by rw [beq_eq_false_iff_ne]; exact fun e => HB.out (cmpI_zero e)
  have HSB : Hid (∀ w' v, Zi w' v B 1048576 → _) := fun (w' : World) (v : Value) (h : Zi w' v B 1048576) => rsign_z h (by decide)
  generalize cmpI B 0 = SB at *
  have q0 : ((0 : Int) != 0) = false := rfl
  have q3 : ((3 : Int) != 3) = false := rfl
  have cb0 := Pb.out.c0
  have cb1 := Pb.out.c1
  go_wp2_with fail
  clear cb0 cb1
  refine (HSB.out _ _ Zb.out).mono ?_
  rintro e w26 ⟨rfl, b⟩
  replace Za := hid (Za.out.now b)
  replace Zb := hid (Zb.out.now b)
  replace Zp := hid (Zp.out.now b)
  replace Pa := hid (Pa.out.step b)
  replace Pb := hid (Pb.out.step b)
  replace Pp := hid (Pp.out.step b)
  replace G := hid (below_step G.out b)
  have lz27 := (show Below _ _ _ from b).size
  clear b 
  clear HSB
  go_wp2_with fail
  go_cut [11, 12] from 26 (fun s1 s2 wx => MetB w26 wx s1 (pmod A F B) (1048576) ∧ s2 = .int .i64 0)
  case first => as_aux_lemma =>
    have GR : Hid (Below w26.heap.size w26 w26) := Below.refl _ _
    refine wp_region_tail (fun w' => w'.cell? ⟨w.heap.size, 0, none⟩ = some (.bool na) ∧ w'.cell? ⟨w.heap.size, 1, none⟩ = some (.slice ada xa.length ca) ∧ w'.cell? ⟨w.heap.size + 1, 0, none⟩ = some (.bool nb) ∧ w'.cell? ⟨w.heap.size + 1, 1, none⟩ = some (.slice adb xb.length cb)) 11 (by kernel_rfl) ?_
    obtain ⟨D28, hD⟩ : ∃ D28, w26.drew = D28 := ⟨_, rfl⟩
    have b : Below w26.heap.size w26 D28 := by rw [← hD]; exact (Below.refl _ _).drew
    rw [hD]
    clear hD
    replace Za := hid (Za.out.now b)
    replace Zb := hid (Zb.out.now b)
    replace Zp := hid (Zp.out.now b)
    replace Pa := hid (Pa.out.step b)
    replace Pb := hid (Pb.out.step b)
    replace Pp := hid (Pp.out.step b)
    replace G := hid (below_step G.out b)
    replace GR := hid (below_step GR.out b)
    have lz29 := (show Below _ _ _ from b).size
    clear b
    refine wpAnyT_take (i := 0) (oi := { dst := some 52, op := Op.load 24 (Operand.tmp 3), type := 24, pos := "plain.go:127", after := #[], guard := none }) (v := (.agg #[(.bool na), (.slice ada xa.length ca)])) rfl (by kernel_rfl) (fun _ _ _ h => h) (Or.inl ⟨by rfl, ?_⟩) ⟨Pa.out.c0, Pa.out.c1, Pb.out.c0, Pb.out.c1⟩ ?_
    · intro w hSw
      (try dsimp only at hSw)
      go_simp
    simp only [Act.put, List.setIfInBounds_toArray, List.set_cons_zero, List.set_cons_succ]
    refine wpAnyT_take (i := 1) (oi := { dst := some 53, op := Op.move (Operand.tmp 8), type := 5, pos := "plain.go:127", after := #[], guard := none }) (v := (.int .u8 (F : Int))) rfl (by kernel_rfl) (fun _ _ _ h => h) (Or.inl ⟨by rfl, ?_⟩) ⟨Pa.out.c0, Pa.out.c1, Pb.out.c0, Pb.out.c1⟩ ?_
    · intro w hSw
      (try dsimp only at hSw)
      go_simp
    simp only [Act.put, List.setIfInBounds_toArray, List.set_cons_zero, List.set_cons_succ]
    refine wpAnyT_take (i := 2) (oi := { dst := some 54, op := Op.convert 5 45 (Operand.tmp 53), type := 45, pos := "plain.go:127", after := #[{ on := 1, ground := Ground.data }], guard := none }) (v := (.int .u64 (F : Int))) rfl (by kernel_rfl) (fun _ _ _ h => h) (Or.inl ⟨by rfl, ?_⟩) ⟨Pa.out.c0, Pa.out.c1, Pb.out.c0, Pb.out.c1⟩ ?_
    · intro w hSw
      (try dsimp only at hSw)
      go_simp
    simp only [Act.put, List.setIfInBounds_toArray, List.set_cons_zero, List.set_cons_succ]
    refine wpAnyT_take (i := 4) (oi := { dst := some 56, op := Op.load 24 (Operand.tmp 4), type := 24, pos := "plain.go:127", after := #[], guard := none }) (v := (.agg #[(.bool nb), (.slice adb xb.length cb)])) rfl (by kernel_rfl) (fun _ _ _ h => h) (Or.inl ⟨by rfl, ?_⟩) ⟨Pa.out.c0, Pa.out.c1, Pb.out.c0, Pb.out.c1⟩ ?_
    · intro w hSw
      (try dsimp only at hSw)
      go_simp
    simp only [Act.put, List.setIfInBounds_toArray, List.set_cons_zero, List.set_cons_succ]
    refine wpAnyT_two (i := 3) (j := 9) (oi := { dst := some 55, op := Op.call { callee := Callee.value (Operand.func 30), args := #[Operand.tmp 54], argTypes := #[45] }, type := 24, pos := "plain.go:127", after := #[{ on := 2, ground := Ground.data }], guard := none }) (oj := { dst := some 11, op := Op.alloc 24, type := 0, pos := "plain.go:127", after := #[], guard := none }) (by kernel_rfl) rfl rfl (fun K hK => ?_) (fun K hK => ?_)
    · skip
      go_simp
      go_at_call 30
      refine (of6i (n := (F : Int)) (by omega) (by omega) _).mono ?_
      rintro e w30 ⟨r0, rfl, m0, b⟩
      obtain ⟨no, xo, ado, qo, rfl, -, -, -⟩ := id m0
      replace Za := hid (Za.out.now b)
      replace Zb := hid (Zb.out.now b)
      replace Zp := hid (Zp.out.now b)
      replace Pa := hid (Pa.out.step b)
      replace Pb := hid (Pb.out.step b)
      replace Pp := hid (Pp.out.step b)
      replace G := hid (below_step G.out b)
      replace GR := hid (below_step GR.out b)
      have lz31 := (show Below _ _ _ from b).size
      have Zo := hid m0
      clear b m0
      refine hK.out _ _ (fun _ => ⟨Pa.out.c0, Pa.out.c1, Pb.out.c0, Pb.out.c1⟩) ?_
      clear hK
      refine wpAnyT_two (i := 5) (j := 9) (oi := { dst := some 57, op := Op.call { callee := Callee.value (Operand.func 32), args := #[Operand.tmp 52, Operand.tmp 55, Operand.tmp 56], argTypes := #[24, 24, 24] }, type := 35, pos := "plain.go:127", after := #[{ on := 0, ground := Ground.data }, { on := 3, ground := Ground.data }, { on := 4, ground := Ground.data }, { on := 3, ground := Ground.chain }], guard := none }) (oj := { dst := some 11, op := Op.alloc 24, type := 0, pos := "plain.go:127", after := #[], guard := none }) (by kernel_rfl) rfl rfl (fun K hK => ?_) (fun K hK => ?_)
      · skip
        go_simp
        go_at_call 32
        refine (powMod_nat (n := F) Za.out Zo.out Zb.out (by decide) (by decide) HB.out (by decide)).mono ?_
        rintro e w32 ⟨r0, rfl, m0, b⟩
        obtain ⟨nq, xq, adq, qq, rfl, -, -, -, -, -⟩ := id m0
        replace Za := hid (Za.out.now b)
        replace Zb := hid (Zb.out.now b)
        replace Zp := hid (Zp.out.now b)
        replace Zo := hid (Zo.out.now b)
        replace Pa := hid (Pa.out.step b)
        replace Pb := hid (Pb.out.step b)
        replace Pp := hid (Pp.out.step b)
        replace G := hid (below_step G.out b)
        replace GR := hid (below_step GR.out b)
        have lz33 := (show Below _ _ _ from b).size
        have Zq := hid m0
        clear b m0
        refine hK.out _ _ (fun _ => ⟨Pa.out.c0, Pa.out.c1, Pb.out.c0, Pb.out.c1⟩) ?_
        clear hK
        refine wpAnyT_take (i := 6) (oi := { dst := some 51, op := Op.move (Operand.tmp 57), type := 35, pos := "plain.go:127", after := #[{ on := 5, ground := Ground.data }], guard := none }) (v := (.tuple #[(.agg #[.bool nq, .slice adq xq.length qq]), (.int .i64 0)])) rfl (by kernel_rfl) (fun _ _ _ h => h) (Or.inl ⟨by rfl, ?_⟩) ⟨Pa.out.c0, Pa.out.c1, Pb.out.c0, Pb.out.c1⟩ ?_
        · intro w hSw
          (try dsimp only at hSw)
          go_simp
        simp only [Act.put, List.setIfInBounds_toArray, List.set_cons_zero, List.set_cons_succ]
        refine wpAnyT_take (i := 7) (oi := { dst := some 58, op := Op.extract (Operand.tmp 51) 0, type := 24, pos := "plain.go:127", after := #[{ on := 6, ground := Ground.data }], guard := none }) (v := (.agg #[.bool nq, .slice adq xq.length qq])) rfl (by kernel_rfl) (fun _ _ _ h => h) (Or.inl ⟨by rfl, ?_⟩) ⟨Pa.out.c0, Pa.out.c1, Pb.out.c0, Pb.out.c1⟩ ?_
        · intro w hSw
          (try dsimp only at hSw)
          go_simp
        simp only [Act.put, List.setIfInBounds_toArray, List.set_cons_zero, List.set_cons_succ]
        refine wpAnyT_take (i := 8) (oi := { dst := some 59, op := Op.extract (Operand.tmp 51) 1, type := 34, pos := "plain.go:127", after := #[{ on := 6, ground := Ground.data }, { on := 10, ground := Ground.gcOnly Departure.lateStores }], guard := none }) (v := (.int .i64 0)) rfl (by kernel_rfl) (fun _ _ _ h => h) (Or.inl ⟨by rfl, ?_⟩) ⟨Pa.out.c0, Pa.out.c1, Pb.out.c0, Pb.out.c1⟩ ?_
        · intro w hSw
          (try dsimp only at hSw)
          go_simp
        simp only [Act.put, List.setIfInBounds_toArray, List.set_cons_zero, List.set_cons_succ]
        refine wpAnyT_one (i := 9) (o := { dst := some 11, op := Op.alloc 24, type := 0, pos := "plain.go:127", after := #[], guard := none }) (by kernel_rfl) rfl (fun K hK => ?_)
        go_simp
        obtain ⟨V34, hW⟩ : ∃ V34, w32.alloc zbox = V34 := ⟨_, rfl⟩
        obtain ⟨kW, sz34⟩ := alloc1 w32 zbox
        rw [hW] at kW sz34
        replace Za := hid (Za.out.now kW)
        replace Zb := hid (Zb.out.now kW)
        replace Zp := hid (Zp.out.now kW)
        replace Zo := hid (Zo.out.now kW)
        replace Zq := hid (Zq.out.now kW)
        replace Pa := hid (Pa.out.step kW)
        replace Pb := hid (Pb.out.step kW)
        replace Pp := hid (Pp.out.step kW)
        replace G := hid (below_step G.out kW)
        replace GR := hid (below_step GR.out kW)
        have lz35 := (show Below _ _ _ from kW).size
        have PN11 : Hid (Duo V34 (w32.heap.size) (.bool false) (.slice none 0 0)) := by unfold Hid; rw [← hW]; exact duo_at rfl
        rw [hW]
        clear hW kW
        refine hK.out _ _ (fun _ => ⟨Pa.out.c0, Pa.out.c1, Pb.out.c0, Pb.out.c1⟩) ?_
        clear hK
        try simp only [Act.put]
        refine wpAnyT_one (i := 10) (o := { dst := none, op := Op.store 24 (Operand.tmp 11) (Operand.tmp 58), type := 0, pos := "plain.go:127", after := #[{ on := 9, ground := Ground.data }, { on := 7, ground := Ground.data }, { on := 5, ground := Ground.chain }, { on := 0, ground := Ground.phase }, { on := 1, ground := Ground.phase }, { on := 2, ground := Ground.phase }, { on := 3, ground := Ground.phase }, { on := 4, ground := Ground.phase }, { on := 5, ground := Ground.phase }, { on := 6, ground := Ground.phase }, { on := 7, ground := Ground.phase }, { on := 8, ground := Ground.textOnly Departure.lateStores }, { on := 9, ground := Ground.phase }], guard := none }) (by kernel_rfl) rfl (fun K hK => ?_)
        have cN110 := PN11.out.c0
        have cN111 := PN11.out.c1
        have fN110 := PN11.out.fz 0
        have fN111 := PN11.out.fz 1
        go_simp
        clear cN110 cN111 fN110 fN111
        obtain ⟨V36, hW⟩ : ∃ V36, (V34.setCell ⟨w32.heap.size, 0, none⟩ (.bool nq)).setCell ⟨w32.heap.size, 1, none⟩ (.slice adq xq.length qq) = V36 := ⟨_, rfl⟩
        replace Za := hid ((Za.out).wk ((PN11.out).wk (.bool nq) (.slice adq xq.length qq)))
        replace Zb := hid ((Zb.out).wk ((PN11.out).wk (.bool nq) (.slice adq xq.length qq)))
        replace Zp := hid ((Zp.out).box (PN11.out) (.bool nq) (.slice adq xq.length qq))
        replace Zo := hid ((Zo.out).wk ((PN11.out).wk (.bool nq) (.slice adq xq.length qq)))
        replace Zq := hid ((Zq.out).box (PN11.out) (.bool nq) (.slice adq xq.length qq))
        replace Pa := hid ((Pa.out).box (b' := w32.heap.size) (by omega) (.bool nq) (.slice adq xq.length qq))
        replace Pb := hid ((Pb.out).box (b' := w32.heap.size) (by omega) (.bool nq) (.slice adq xq.length qq))
        replace Pp := hid ((Pp.out).box (b' := w32.heap.size) (by omega) (.bool nq) (.slice adq xq.length qq))
        replace PN11 := hid ((PN11.out).set (.bool nq) (.slice adq xq.length qq))
        replace G : Hid (Below w.heap.size w (((V34.setCell ⟨w32.heap.size, 0, none⟩ (.bool nq)).setCell ⟨w32.heap.size, 1, none⟩ (.slice adq xq.length qq)))) := bset (bset (G.out) (by omega)) (by omega)
        replace GR : Hid (Below w26.heap.size w26 (((V34.setCell ⟨w32.heap.size, 0, none⟩ (.bool nq)).setCell ⟨w32.heap.size, 1, none⟩ (.slice adq xq.length qq)))) := bset (bset (GR.out) (by omega)) (by omega)
        have sz36 : V36.heap.size = V34.heap.size := by rw [← hW]; simp
        rw [hW] at Za Zb Zp Zo Zq Pa Pb Pp PN11 G GR
        rw [hW]
        clear hW
        refine hK.out _ _ (fun _ => ⟨Pa.out.c0, Pa.out.c1, Pb.out.c0, Pb.out.c1⟩) ?_
        clear hK
        try simp only [Act.put]
        refine wpAnyT_one (i := 11) (o := { dst := some 12, op := Op.assign (Operand.tmp 59), type := 34, pos := "plain.go:127", after := #[{ on := 8, ground := Ground.data }, { on := 10, ground := Ground.chain }, { on := 0, ground := Ground.phase }, { on := 1, ground := Ground.phase }, { on := 2, ground := Ground.phase }, { on := 3, ground := Ground.phase }, { on := 4, ground := Ground.phase }, { on := 5, ground := Ground.phase }, { on := 6, ground := Ground.phase }, { on := 7, ground := Ground.phase }, { on := 8, ground := Ground.phase }, { on := 9, ground := Ground.phase }, { on := 10, ground := Ground.phase }], guard := none }) (by kernel_rfl) rfl (fun K hK => ?_)
        go_simp
        refine hK.out _ _ (fun h => absurd h (by decide)) ?_
        clear hK
        try simp only [Act.put]
        refine wpAnyT_done (by kernel_rfl) ?_ _
        go_wp2_with fail
        go_meet
        exact ⟨⟨_, _, _, _, _, rfl, GR.out, by omega, PN11.out.blk, PN11.out, Zq.out.mono (by omega)⟩, rfl⟩
      · skip
        go_simp
        obtain ⟨V37, hW⟩ : ∃ V37, w30.alloc zbox = V37 := ⟨_, rfl⟩
        obtain ⟨kW, sz37⟩ := alloc1 w30 zbox
        rw [hW] at kW sz37
        replace Za := hid (Za.out.now kW)
        replace Zb := hid (Zb.out.now kW)
        replace Zp := hid (Zp.out.now kW)
        replace Zo := hid (Zo.out.now kW)
        replace Pa := hid (Pa.out.step kW)
        replace Pb := hid (Pb.out.step kW)
        replace Pp := hid (Pp.out.step kW)
        replace G := hid (below_step G.out kW)
        replace GR := hid (below_step GR.out kW)
        have lz38 := (show Below _ _ _ from kW).size
        have PN11 : Hid (Duo V37 (w30.heap.size) (.bool false) (.slice none 0 0)) := by unfold Hid; rw [← hW]; exact duo_at rfl
        rw [hW]
        clear hW kW
        refine hK.out _ _ (fun _ => ⟨Pa.out.c0, Pa.out.c1, Pb.out.c0, Pb.out.c1⟩) ?_
        clear hK
        try simp only [Act.put]
        refine wpAnyT_one (i := 5) (o := { dst := some 57, op := Op.call { callee := Callee.value (Operand.func 32), args := #[Operand.tmp 52, Operand.tmp 55, Operand.tmp 56], argTypes := #[24, 24, 24] }, type := 35, pos := "plain.go:127", after := #[{ on := 0, ground := Ground.data }, { on := 3, ground := Ground.data }, { on := 4, ground := Ground.data }, { on := 3, ground := Ground.chain }], guard := none }) (by kernel_rfl) rfl (fun K hK => ?_)
        go_simp
        go_at_call 32
        refine (powMod_nat (n := F) Za.out Zo.out Zb.out (by decide) (by decide) HB.out (by decide)).mono ?_
        rintro e w39 ⟨r0, rfl, m0, b⟩
        obtain ⟨nq, xq, adq, qq, rfl, -, -, -, -, -⟩ := id m0
        replace Za := hid (Za.out.now b)
        replace Zb := hid (Zb.out.now b)
        replace Zp := hid (Zp.out.now b)
        replace Zo := hid (Zo.out.now b)
        replace Pa := hid (Pa.out.step b)
        replace Pb := hid (Pb.out.step b)
        replace Pp := hid (Pp.out.step b)
        replace PN11 := hid (PN11.out.step b)
        replace G := hid (below_step G.out b)
        replace GR := hid (below_step GR.out b)
        have lz40 := (show Below _ _ _ from b).size
        have Zq := hid m0
        clear b m0
        refine hK.out _ _ (fun _ => ⟨Pa.out.c0, Pa.out.c1, Pb.out.c0, Pb.out.c1⟩) ?_
        clear hK
        refine wpAnyT_take (i := 6) (oi := { dst := some 51, op := Op.move (Operand.tmp 57), type := 35, pos := "plain.go:127", after := #[{ on := 5, ground := Ground.data }], guard := none }) (v := (.tuple #[(.agg #[.bool nq, .slice adq xq.length qq]), (.int .i64 0)])) rfl (by kernel_rfl) (fun _ _ _ h => h) (Or.inl ⟨by rfl, ?_⟩) ⟨Pa.out.c0, Pa.out.c1, Pb.out.c0, Pb.out.c1⟩ ?_
        · intro w hSw
          (try dsimp only at hSw)
          go_simp
        simp only [Act.put, List.setIfInBounds_toArray, List.set_cons_zero, List.set_cons_succ]
        refine wpAnyT_take (i := 7) (oi := { dst := some 58, op := Op.extract (Operand.tmp 51) 0, type := 24, pos := "plain.go:127", after := #[{ on := 6, ground := Ground.data }], guard := none }) (v := (.agg #[.bool nq, .slice adq xq.length qq])) rfl (by kernel_rfl) (fun _ _ _ h => h) (Or.inl ⟨by rfl, ?_⟩) ⟨Pa.out.c0, Pa.out.c1, Pb.out.c0, Pb.out.c1⟩ ?_
        · intro w hSw
          (try dsimp only at hSw)
          go_simp
        simp only [Act.put, List.setIfInBounds_toArray, List.set_cons_zero, List.set_cons_succ]
        refine wpAnyT_take (i := 8) (oi := { dst := some 59, op := Op.extract (Operand.tmp 51) 1, type := 34, pos := "plain.go:127", after := #[{ on := 6, ground := Ground.data }, { on := 10, ground := Ground.gcOnly Departure.lateStores }], guard := none }) (v := (.int .i64 0)) rfl (by kernel_rfl) (fun _ _ _ h => h) (Or.inl ⟨by rfl, ?_⟩) ⟨Pa.out.c0, Pa.out.c1, Pb.out.c0, Pb.out.c1⟩ ?_
        · intro w hSw
          (try dsimp only at hSw)
          go_simp
        simp only [Act.put, List.setIfInBounds_toArray, List.set_cons_zero, List.set_cons_succ]
        refine wpAnyT_one (i := 10) (o := { dst := none, op := Op.store 24 (Operand.tmp 11) (Operand.tmp 58), type := 0, pos := "plain.go:127", after := #[{ on := 9, ground := Ground.data }, { on := 7, ground := Ground.data }, { on := 5, ground := Ground.chain }, { on := 0, ground := Ground.phase }, { on := 1, ground := Ground.phase }, { on := 2, ground := Ground.phase }, { on := 3, ground := Ground.phase }, { on := 4, ground := Ground.phase }, { on := 5, ground := Ground.phase }, { on := 6, ground := Ground.phase }, { on := 7, ground := Ground.phase }, { on := 8, ground := Ground.textOnly Departure.lateStores }, { on := 9, ground := Ground.phase }], guard := none }) (by kernel_rfl) rfl (fun K hK => ?_)
        have cN110 := PN11.out.c0
        have cN111 := PN11.out.c1
        have fN110 := PN11.out.fz 0
        have fN111 := PN11.out.fz 1
        go_simp
        clear cN110 cN111 fN110 fN111
        obtain ⟨V41, hW⟩ : ∃ V41, (w39.setCell ⟨w30.heap.size, 0, none⟩ (.bool nq)).setCell ⟨w30.heap.size, 1, none⟩ (.slice adq xq.length qq) = V41 := ⟨_, rfl⟩
        replace Za := hid ((Za.out).wk ((PN11.out).wk (.bool nq) (.slice adq xq.length qq)))
        replace Zb := hid ((Zb.out).wk ((PN11.out).wk (.bool nq) (.slice adq xq.length qq)))
        replace Zp := hid ((Zp.out).box (PN11.out) (.bool nq) (.slice adq xq.length qq))
        replace Zo := hid ((Zo.out).wk ((PN11.out).wk (.bool nq) (.slice adq xq.length qq)))
        replace Zq := hid ((Zq.out).box (PN11.out) (.bool nq) (.slice adq xq.length qq))
        replace Pa := hid ((Pa.out).box (b' := w30.heap.size) (by omega) (.bool nq) (.slice adq xq.length qq))
        replace Pb := hid ((Pb.out).box (b' := w30.heap.size) (by omega) (.bool nq) (.slice adq xq.length qq))
        replace Pp := hid ((Pp.out).box (b' := w30.heap.size) (by omega) (.bool nq) (.slice adq xq.length qq))
        replace PN11 := hid ((PN11.out).set (.bool nq) (.slice adq xq.length qq))
        replace G : Hid (Below w.heap.size w (((w39.setCell ⟨w30.heap.size, 0, none⟩ (.bool nq)).setCell ⟨w30.heap.size, 1, none⟩ (.slice adq xq.length qq)))) := bset (bset (G.out) (by omega)) (by omega)
        replace GR : Hid (Below w26.heap.size w26 (((w39.setCell ⟨w30.heap.size, 0, none⟩ (.bool nq)).setCell ⟨w30.heap.size, 1, none⟩ (.slice adq xq.length qq)))) := bset (bset (GR.out) (by omega)) (by omega)
        have sz41 : V41.heap.size = w39.heap.size := by rw [← hW]; simp
        rw [hW] at Za Zb Zp Zo Zq Pa Pb Pp PN11 G GR
        rw [hW]
        clear hW
        refine hK.out _ _ (fun _ => ⟨Pa.out.c0, Pa.out.c1, Pb.out.c0, Pb.out.c1⟩) ?_
        clear hK
        try simp only [Act.put]
        refine wpAnyT_one (i := 11) (o := { dst := some 12, op := Op.assign (Operand.tmp 59), type := 34, pos := "plain.go:127", after := #[{ on := 8, ground := Ground.data }, { on := 10, ground := Ground.chain }, { on := 0, ground := Ground.phase }, { on := 1, ground := Ground.phase }, { on := 2, ground := Ground.phase }, { on := 3, ground := Ground.phase }, { on := 4, ground := Ground.phase }, { on := 5, ground := Ground.phase }, { on := 6, ground := Ground.phase }, { on := 7, ground := Ground.phase }, { on := 8, ground := Ground.phase }, { on := 9, ground := Ground.phase }, { on := 10, ground := Ground.phase }], guard := none }) (by kernel_rfl) rfl (fun K hK => ?_)
        go_simp
        refine hK.out _ _ (fun h => absurd h (by decide)) ?_
        clear hK
        try simp only [Act.put]
        refine wpAnyT_done (by kernel_rfl) ?_ _
        go_wp2_with fail
        go_meet
        exact ⟨⟨_, _, _, _, _, rfl, GR.out, by omega, PN11.out.blk, PN11.out, Zq.out.mono (by omega)⟩, rfl⟩
    · skip
      go_simp
      obtain ⟨V42, hW⟩ : ∃ V42, D28.alloc zbox = V42 := ⟨_, rfl⟩
      obtain ⟨kW, sz42⟩ := alloc1 D28 zbox
      rw [hW] at kW sz42
      replace Za := hid (Za.out.now kW)
      replace Zb := hid (Zb.out.now kW)
      replace Zp := hid (Zp.out.now kW)
      replace Pa := hid (Pa.out.step kW)
      replace Pb := hid (Pb.out.step kW)
      replace Pp := hid (Pp.out.step kW)
      replace G := hid (below_step G.out kW)
      replace GR := hid (below_step GR.out kW)
      have lz43 := (show Below _ _ _ from kW).size
      have PN11 : Hid (Duo V42 (D28.heap.size) (.bool false) (.slice none 0 0)) := by unfold Hid; rw [← hW]; exact duo_at rfl
      rw [hW]
      clear hW kW
      refine hK.out _ _ (fun _ => ⟨Pa.out.c0, Pa.out.c1, Pb.out.c0, Pb.out.c1⟩) ?_
      clear hK
      try simp only [Act.put]
      refine wpAnyT_one (i := 3) (o := { dst := some 55, op := Op.call { callee := Callee.value (Operand.func 30), args := #[Operand.tmp 54], argTypes := #[45] }, type := 24, pos := "plain.go:127", after := #[{ on := 2, ground := Ground.data }], guard := none }) (by kernel_rfl) rfl (fun K hK => ?_)
      go_simp
      go_at_call 30
      refine (of6i (n := (F : Int)) (by omega) (by omega) _).mono ?_
      rintro e w44 ⟨r0, rfl, m0, b⟩
      obtain ⟨no, xo, ado, qo, rfl, -, -, -⟩ := id m0
      replace Za := hid (Za.out.now b)
      replace Zb := hid (Zb.out.now b)
      replace Zp := hid (Zp.out.now b)
      replace Pa := hid (Pa.out.step b)
      replace Pb := hid (Pb.out.step b)
      replace Pp := hid (Pp.out.step b)
      replace PN11 := hid (PN11.out.step b)
      replace G := hid (below_step G.out b)
      replace GR := hid (below_step GR.out b)
      have lz45 := (show Below _ _ _ from b).size
      have Zo := hid m0
      clear b m0
      refine hK.out _ _ (fun _ => ⟨Pa.out.c0, Pa.out.c1, Pb.out.c0, Pb.out.c1⟩) ?_
      clear hK
      refine wpAnyT_one (i := 5) (o := { dst := some 57, op := Op.call { callee := Callee.value (Operand.func 32), args := #[Operand.tmp 52, Operand.tmp 55, Operand.tmp 56], argTypes := #[24, 24, 24] }, type := 35, pos := "plain.go:127", after := #[{ on := 0, ground := Ground.data }, { on := 3, ground := Ground.data }, { on := 4, ground := Ground.data }, { on := 3, ground := Ground.chain }], guard := none }) (by kernel_rfl) rfl (fun K hK => ?_)
      go_simp
      go_at_call 32
      refine (powMod_nat (n := F) Za.out Zo.out Zb.out (by decide) (by decide) HB.out (by decide)).mono ?_
      rintro e w46 ⟨r0, rfl, m0, b⟩
      obtain ⟨nq, xq, adq, qq, rfl, -, -, -, -, -⟩ := id m0
      replace Za := hid (Za.out.now b)
      replace Zb := hid (Zb.out.now b)
      replace Zp := hid (Zp.out.now b)
      replace Zo := hid (Zo.out.now b)
      replace Pa := hid (Pa.out.step b)
      replace Pb := hid (Pb.out.step b)
      replace Pp := hid (Pp.out.step b)
      replace PN11 := hid (PN11.out.step b)
      replace G := hid (below_step G.out b)
      replace GR := hid (below_step GR.out b)
      have lz47 := (show Below _ _ _ from b).size
      have Zq := hid m0
      clear b m0
      refine hK.out _ _ (fun _ => ⟨Pa.out.c0, Pa.out.c1, Pb.out.c0, Pb.out.c1⟩) ?_
      clear hK
      refine wpAnyT_take (i := 6) (oi := { dst := some 51, op := Op.move (Operand.tmp 57), type := 35, pos := "plain.go:127", after := #[{ on := 5, ground := Ground.data }], guard := none }) (v := (.tuple #[(.agg #[.bool nq, .slice adq xq.length qq]), (.int .i64 0)])) rfl (by kernel_rfl) (fun _ _ _ h => h) (Or.inl ⟨by rfl, ?_⟩) ⟨Pa.out.c0, Pa.out.c1, Pb.out.c0, Pb.out.c1⟩ ?_
      · intro w hSw
        (try dsimp only at hSw)
        go_simp
      simp only [Act.put, List.setIfInBounds_toArray, List.set_cons_zero, List.set_cons_succ]
      refine wpAnyT_take (i := 7) (oi := { dst := some 58, op := Op.extract (Operand.tmp 51) 0, type := 24, pos := "plain.go:127", after := #[{ on := 6, ground := Ground.data }], guard := none }) (v := (.agg #[.bool nq, .slice adq xq.length qq])) rfl (by kernel_rfl) (fun _ _ _ h => h) (Or.inl ⟨by rfl, ?_⟩) ⟨Pa.out.c0, Pa.out.c1, Pb.out.c0, Pb.out.c1⟩ ?_
      · intro w hSw
        (try dsimp only at hSw)
        go_simp
      simp only [Act.put, List.setIfInBounds_toArray, List.set_cons_zero, List.set_cons_succ]
      refine wpAnyT_take (i := 8) (oi := { dst := some 59, op := Op.extract (Operand.tmp 51) 1, type := 34, pos := "plain.go:127", after := #[{ on := 6, ground := Ground.data }, { on := 10, ground := Ground.gcOnly Departure.lateStores }], guard := none }) (v := (.int .i64 0)) rfl (by kernel_rfl) (fun _ _ _ h => h) (Or.inl ⟨by rfl, ?_⟩) ⟨Pa.out.c0, Pa.out.c1, Pb.out.c0, Pb.out.c1⟩ ?_
      · intro w hSw
        (try dsimp only at hSw)
        go_simp
      simp only [Act.put, List.setIfInBounds_toArray, List.set_cons_zero, List.set_cons_succ]
      refine wpAnyT_one (i := 10) (o := { dst := none, op := Op.store 24 (Operand.tmp 11) (Operand.tmp 58), type := 0, pos := "plain.go:127", after := #[{ on := 9, ground := Ground.data }, { on := 7, ground := Ground.data }, { on := 5, ground := Ground.chain }, { on := 0, ground := Ground.phase }, { on := 1, ground := Ground.phase }, { on := 2, ground := Ground.phase }, { on := 3, ground := Ground.phase }, { on := 4, ground := Ground.phase }, { on := 5, ground := Ground.phase }, { on := 6, ground := Ground.phase }, { on := 7, ground := Ground.phase }, { on := 8, ground := Ground.textOnly Departure.lateStores }, { on := 9, ground := Ground.phase }], guard := none }) (by kernel_rfl) rfl (fun K hK => ?_)
      have cN110 := PN11.out.c0
      have cN111 := PN11.out.c1
      have fN110 := PN11.out.fz 0
      have fN111 := PN11.out.fz 1
      go_simp
      clear cN110 cN111 fN110 fN111
      obtain ⟨V48, hW⟩ : ∃ V48, (w46.setCell ⟨D28.heap.size, 0, none⟩ (.bool nq)).setCell ⟨D28.heap.size, 1, none⟩ (.slice adq xq.length qq) = V48 := ⟨_, rfl⟩
      replace Za := hid ((Za.out).wk ((PN11.out).wk (.bool nq) (.slice adq xq.length qq)))
      replace Zb := hid ((Zb.out).wk ((PN11.out).wk (.bool nq) (.slice adq xq.length qq)))
      replace Zp := hid ((Zp.out).box (PN11.out) (.bool nq) (.slice adq xq.length qq))
      replace Zo := hid ((Zo.out).wk ((PN11.out).wk (.bool nq) (.slice adq xq.length qq)))
      replace Zq := hid ((Zq.out).box (PN11.out) (.bool nq) (.slice adq xq.length qq))
      replace Pa := hid ((Pa.out).box (b' := D28.heap.size) (by omega) (.bool nq) (.slice adq xq.length qq))
      replace Pb := hid ((Pb.out).box (b' := D28.heap.size) (by omega) (.bool nq) (.slice adq xq.length qq))
      replace Pp := hid ((Pp.out).box (b' := D28.heap.size) (by omega) (.bool nq) (.slice adq xq.length qq))
      replace PN11 := hid ((PN11.out).set (.bool nq) (.slice adq xq.length qq))
      replace G : Hid (Below w.heap.size w (((w46.setCell ⟨D28.heap.size, 0, none⟩ (.bool nq)).setCell ⟨D28.heap.size, 1, none⟩ (.slice adq xq.length qq)))) := bset (bset (G.out) (by omega)) (by omega)
      replace GR : Hid (Below w26.heap.size w26 (((w46.setCell ⟨D28.heap.size, 0, none⟩ (.bool nq)).setCell ⟨D28.heap.size, 1, none⟩ (.slice adq xq.length qq)))) := bset (bset (GR.out) (by omega)) (by omega)
      have sz48 : V48.heap.size = w46.heap.size := by rw [← hW]; simp
      rw [hW] at Za Zb Zp Zo Zq Pa Pb Pp PN11 G GR
      rw [hW]
      clear hW
      refine hK.out _ _ (fun _ => ⟨Pa.out.c0, Pa.out.c1, Pb.out.c0, Pb.out.c1⟩) ?_
      clear hK
      try simp only [Act.put]
      refine wpAnyT_one (i := 11) (o := { dst := some 12, op := Op.assign (Operand.tmp 59), type := 34, pos := "plain.go:127", after := #[{ on := 8, ground := Ground.data }, { on := 10, ground := Ground.chain }, { on := 0, ground := Ground.phase }, { on := 1, ground := Ground.phase }, { on := 2, ground := Ground.phase }, { on := 3, ground := Ground.phase }, { on := 4, ground := Ground.phase }, { on := 5, ground := Ground.phase }, { on := 6, ground := Ground.phase }, { on := 7, ground := Ground.phase }, { on := 8, ground := Ground.phase }, { on := 9, ground := Ground.phase }, { on := 10, ground := Ground.phase }], guard := none }) (by kernel_rfl) rfl (fun K hK => ?_)
      go_simp
      refine hK.out _ _ (fun h => absurd h (by decide)) ?_
      clear hK
      try simp only [Act.put]
      refine wpAnyT_done (by kernel_rfl) ?_ _
      go_wp2_with fail
      go_meet
      exact ⟨⟨_, _, _, _, _, rfl, GR.out, by omega, PN11.out.blk, PN11.out, Zq.out.mono (by omega)⟩, rfl⟩
  case rest => as_aux_lemma =>
  obtain ⟨⟨bkq, nq, xq, adq, qq, rfl, b, geq, ltq, p, m⟩, rfl⟩ := hcut
  replace Za := hid (Za.out.now b)
  replace Zb := hid (Zb.out.now b)
  replace Zp := hid (Zp.out.now b)
  replace Pa := hid (Pa.out.step b)
  replace Pb := hid (Pb.out.step b)
  replace Pp := hid (Pp.out.step b)
  replace G := hid (below_step G.out b)
  have lz50 := (show Below _ _ _ from b).size
  have Zq := hid m
  have Pq := hid p
  clear b p m
  generalize wc = C50 at *
  go_wp2_with fail
  go_cut [13, 14] from 26 (fun s1 s2 wx => MetB C50 wx s1 (pmod A (E + F) B) (1048576) ∧ s2 = .int .i64 0)
  case first => as_aux_lemma =>
    have GR : Hid (Below C50.heap.size C50 C50) := Below.refl _ _
    refine wp_region_tail (fun w' => w'.cell? ⟨w.heap.size, 0, none⟩ = some (.bool na) ∧ w'.cell? ⟨w.heap.size, 1, none⟩ = some (.slice ada xa.length ca) ∧ w'.cell? ⟨w.heap.size + 1, 0, none⟩ = some (.bool nb) ∧ w'.cell? ⟨w.heap.size + 1, 1, none⟩ = some (.slice adb xb.length cb)) 14 (by kernel_rfl) ?_
    obtain ⟨D51, hD⟩ : ∃ D51, C50.drew = D51 := ⟨_, rfl⟩
    have b : Below C50.heap.size C50 D51 := by rw [← hD]; exact (Below.refl _ _).drew
    rw [hD]
    clear hD
    replace Za := hid (Za.out.now b)
    replace Zb := hid (Zb.out.now b)
    replace Zp := hid (Zp.out.now b)
    replace Zq := hid (Zq.out.now b)
    replace Pa := hid (Pa.out.step b)
    replace Pb := hid (Pb.out.step b)
    replace Pp := hid (Pp.out.step b)
    replace Pq := hid (Pq.out.step b)
    replace G := hid (below_step G.out b)
    replace GR := hid (below_step GR.out b)
    have lz52 := (show Below _ _ _ from b).size
    clear b
    refine wpAnyT_take (i := 0) (oi := { dst := some 61, op := Op.load 24 (Operand.tmp 3), type := 24, pos := "plain.go:128", after := #[], guard := none }) (v := (.agg #[(.bool na), (.slice ada xa.length ca)])) rfl (by kernel_rfl) (fun _ _ _ h => h) (Or.inl ⟨by rfl, ?_⟩) ⟨Pa.out.c0, Pa.out.c1, Pb.out.c0, Pb.out.c1⟩ ?_
    · intro w hSw
      (try dsimp only at hSw)
      go_simp
    simp only [Act.put, List.setIfInBounds_toArray, List.set_cons_zero, List.set_cons_succ]
    refine wpAnyT_take (i := 1) (oi := { dst := some 62, op := Op.move (Operand.tmp 7), type := 5, pos := "plain.go:128", after := #[], guard := none }) (v := (.int .u8 (E : Int))) rfl (by kernel_rfl) (fun _ _ _ h => h) (Or.inl ⟨by rfl, ?_⟩) ⟨Pa.out.c0, Pa.out.c1, Pb.out.c0, Pb.out.c1⟩ ?_
    · intro w hSw
      (try dsimp only at hSw)
      go_simp
    simp only [Act.put, List.setIfInBounds_toArray, List.set_cons_zero, List.set_cons_succ]
    refine wpAnyT_take (i := 2) (oi := { dst := some 63, op := Op.convert 5 45 (Operand.tmp 62), type := 45, pos := "plain.go:128", after := #[{ on := 1, ground := Ground.data }], guard := none }) (v := (.int .u64 (E : Int))) rfl (by kernel_rfl) (fun _ _ _ h => h) (Or.inl ⟨by rfl, ?_⟩) ⟨Pa.out.c0, Pa.out.c1, Pb.out.c0, Pb.out.c1⟩ ?_
    · intro w hSw
      (try dsimp only at hSw)
      go_simp
    simp only [Act.put, List.setIfInBounds_toArray, List.set_cons_zero, List.set_cons_succ]
    refine wpAnyT_take (i := 3) (oi := { dst := some 64, op := Op.move (Operand.tmp 8), type := 5, pos := "plain.go:128", after := #[], guard := none }) (v := (.int .u8 (F : Int))) rfl (by kernel_rfl) (fun _ _ _ h => h) (Or.inl ⟨by rfl, ?_⟩) ⟨Pa.out.c0, Pa.out.c1, Pb.out.c0, Pb.out.c1⟩ ?_
    · intro w hSw
      (try dsimp only at hSw)
      go_simp
    simp only [Act.put, List.setIfInBounds_toArray, List.set_cons_zero, List.set_cons_succ]
    refine wpAnyT_take (i := 4) (oi := { dst := some 65, op := Op.convert 5 45 (Operand.tmp 64), type := 45, pos := "plain.go:128", after := #[{ on := 3, ground := Ground.data }], guard := none }) (v := (.int .u64 (F : Int))) rfl (by kernel_rfl) (fun _ _ _ h => h) (Or.inl ⟨by rfl, ?_⟩) ⟨Pa.out.c0, Pa.out.c1, Pb.out.c0, Pb.out.c1⟩ ?_
    · intro w hSw
      (try dsimp only at hSw)
      go_simp
    simp only [Act.put, List.setIfInBounds_toArray, List.set_cons_zero, List.set_cons_succ]
    refine wpAnyT_take (i := 5) (oi := { dst := some 66, op := Op.binOp BinOp.add 45 (Operand.tmp 63) (Operand.tmp 65) 45, type := 45, pos := "plain.go:128", after := #[{ on := 2, ground := Ground.data }, { on := 4, ground := Ground.data }], guard := none }) (v := (.int .u64 ((E + F : Nat) : Int))) rfl (by kernel_rfl) (fun _ _ _ h => h) (Or.inl ⟨by rfl, ?_⟩) ⟨Pa.out.c0, Pa.out.c1, Pb.out.c0, Pb.out.c1⟩ ?_
    · intro w hSw
      (try dsimp only at hSw)
      go_simp
    simp only [Act.put, List.setIfInBounds_toArray, List.set_cons_zero, List.set_cons_succ]
    refine wpAnyT_take (i := 7) (oi := { dst := some 68, op := Op.load 24 (Operand.tmp 4), type := 24, pos := "plain.go:128", after := #[], guard := none }) (v := (.agg #[(.bool nb), (.slice adb xb.length cb)])) rfl (by kernel_rfl) (fun _ _ _ h => h) (Or.inl ⟨by rfl, ?_⟩) ⟨Pa.out.c0, Pa.out.c1, Pb.out.c0, Pb.out.c1⟩ ?_
    · intro w hSw
      (try dsimp only at hSw)
      go_simp
    simp only [Act.put, List.setIfInBounds_toArray, List.set_cons_zero, List.set_cons_succ]
    refine wpAnyT_two (i := 6) (j := 12) (oi := { dst := some 67, op := Op.call { callee := Callee.value (Operand.func 30), args := #[Operand.tmp 66], argTypes := #[45] }, type := 24, pos := "plain.go:128", after := #[{ on := 5, ground := Ground.data }], guard := none }) (oj := { dst := some 13, op := Op.alloc 24, type := 0, pos := "plain.go:128", after := #[], guard := none }) (by kernel_rfl) rfl rfl (fun K hK => ?_) (fun K hK => ?_)
    · skip
      go_simp
      go_at_call 30
      refine (of6i (n := ((E + F : Nat) : Int)) (by omega) (by omega) _).mono ?_
      rintro e w53 ⟨r0, rfl, m0, b⟩
      obtain ⟨no, xo, ado, qo, rfl, -, -, -⟩ := id m0
      replace Za := hid (Za.out.now b)
      replace Zb := hid (Zb.out.now b)
      replace Zp := hid (Zp.out.now b)
      replace Zq := hid (Zq.out.now b)
      replace Pa := hid (Pa.out.step b)
      replace Pb := hid (Pb.out.step b)
      replace Pp := hid (Pp.out.step b)
      replace Pq := hid (Pq.out.step b)
      replace G := hid (below_step G.out b)
      replace GR := hid (below_step GR.out b)
      have lz54 := (show Below _ _ _ from b).size
      have Zo := hid m0
      clear b m0
      refine hK.out _ _ (fun _ => ⟨Pa.out.c0, Pa.out.c1, Pb.out.c0, Pb.out.c1⟩) ?_
      clear hK
      refine wpAnyT_two (i := 8) (j := 12) (oi := { dst := some 69, op := Op.call { callee := Callee.value (Operand.func 32), args := #[Operand.tmp 61, Operand.tmp 67, Operand.tmp 68], argTypes := #[24, 24, 24] }, type := 35, pos := "plain.go:128", after := #[{ on := 0, ground := Ground.data }, { on := 6, ground := Ground.data }, { on := 7, ground := Ground.data }, { on := 6, ground := Ground.chain }], guard := none }) (oj := { dst := some 13, op := Op.alloc 24, type := 0, pos := "plain.go:128", after := #[], guard := none }) (by kernel_rfl) rfl rfl (fun K hK => ?_) (fun K hK => ?_)
      · skip
        go_simp
        go_at_call 32
        refine (powMod_nat (n := E + F) Za.out Zo.out Zb.out (by decide) (by decide) HB.out (by decide)).mono ?_
        rintro e w55 ⟨r0, rfl, m0, b⟩
        obtain ⟨ns, xs, ads, qs, rfl, -, -, -, -, -⟩ := id m0
        replace Za := hid (Za.out.now b)
        replace Zb := hid (Zb.out.now b)
        replace Zp := hid (Zp.out.now b)
        replace Zq := hid (Zq.out.now b)
        replace Zo := hid (Zo.out.now b)
        replace Pa := hid (Pa.out.step b)
        replace Pb := hid (Pb.out.step b)
        replace Pp := hid (Pp.out.step b)
        replace Pq := hid (Pq.out.step b)
        replace G := hid (below_step G.out b)
        replace GR := hid (below_step GR.out b)
        have lz56 := (show Below _ _ _ from b).size
        have Zs := hid m0
        clear b m0
        refine hK.out _ _ (fun _ => ⟨Pa.out.c0, Pa.out.c1, Pb.out.c0, Pb.out.c1⟩) ?_
        clear hK
        refine wpAnyT_take (i := 9) (oi := { dst := some 60, op := Op.move (Operand.tmp 69), type := 35, pos := "plain.go:128", after := #[{ on := 8, ground := Ground.data }], guard := none }) (v := (.tuple #[(.agg #[.bool ns, .slice ads xs.length qs]), (.int .i64 0)])) rfl (by kernel_rfl) (fun _ _ _ h => h) (Or.inl ⟨by rfl, ?_⟩) ⟨Pa.out.c0, Pa.out.c1, Pb.out.c0, Pb.out.c1⟩ ?_
        · intro w hSw
          (try dsimp only at hSw)
          go_simp
        simp only [Act.put, List.setIfInBounds_toArray, List.set_cons_zero, List.set_cons_succ]
        refine wpAnyT_take (i := 10) (oi := { dst := some 70, op := Op.extract (Operand.tmp 60) 0, type := 24, pos := "plain.go:128", after := #[{ on := 9, ground := Ground.data }], guard := none }) (v := (.agg #[.bool ns, .slice ads xs.length qs])) rfl (by kernel_rfl) (fun _ _ _ h => h) (Or.inl ⟨by rfl, ?_⟩) ⟨Pa.out.c0, Pa.out.c1, Pb.out.c0, Pb.out.c1⟩ ?_
        · intro w hSw
          (try dsimp only at hSw)
          go_simp
        simp only [Act.put, List.setIfInBounds_toArray, List.set_cons_zero, List.set_cons_succ]
        refine wpAnyT_take (i := 11) (oi := { dst := some 71, op := Op.extract (Operand.tmp 60) 1, type := 34, pos := "plain.go:128", after := #[{ on := 9, ground := Ground.data }, { on := 13, ground := Ground.gcOnly Departure.lateStores }], guard := none }) (v := (.int .i64 0)) rfl (by kernel_rfl) (fun _ _ _ h => h) (Or.inl ⟨by rfl, ?_⟩) ⟨Pa.out.c0, Pa.out.c1, Pb.out.c0, Pb.out.c1⟩ ?_
        · intro w hSw
          (try dsimp only at hSw)
          go_simp
        simp only [Act.put, List.setIfInBounds_toArray, List.set_cons_zero, List.set_cons_succ]
        refine wpAnyT_one (i := 12) (o := { dst := some 13, op := Op.alloc 24, type := 0, pos := "plain.go:128", after := #[], guard := none }) (by kernel_rfl) rfl (fun K hK => ?_)
        go_simp
        obtain ⟨V57, hW⟩ : ∃ V57, w55.alloc zbox = V57 := ⟨_, rfl⟩
        obtain ⟨kW, sz57⟩ := alloc1 w55 zbox
        rw [hW] at kW sz57
        replace Za := hid (Za.out.now kW)
        replace Zb := hid (Zb.out.now kW)
        replace Zp := hid (Zp.out.now kW)
        replace Zq := hid (Zq.out.now kW)
        replace Zo := hid (Zo.out.now kW)
        replace Zs := hid (Zs.out.now kW)
        replace Pa := hid (Pa.out.step kW)
        replace Pb := hid (Pb.out.step kW)
        replace Pp := hid (Pp.out.step kW)
        replace Pq := hid (Pq.out.step kW)
        replace G := hid (below_step G.out kW)
        replace GR := hid (below_step GR.out kW)
        have lz58 := (show Below _ _ _ from kW).size
        have PN13 : Hid (Duo V57 (w55.heap.size) (.bool false) (.slice none 0 0)) := by unfold Hid; rw [← hW]; exact duo_at rfl
        rw [hW]
        clear hW kW
        refine hK.out _ _ (fun _ => ⟨Pa.out.c0, Pa.out.c1, Pb.out.c0, Pb.out.c1⟩) ?_
        clear hK
        try simp only [Act.put]
        refine wpAnyT_one (i := 13) (o := { dst := none, op := Op.store 24 (Operand.tmp 13) (Operand.tmp 70), type := 0, pos := "plain.go:128", after := #[{ on := 12, ground := Ground.data }, { on := 10, ground := Ground.data }, { on := 8, ground := Ground.chain }, { on := 0, ground := Ground.phase }, { on := 1, ground := Ground.phase }, { on := 2, ground := Ground.phase }, { on := 3, ground := Ground.phase }, { on := 4, ground := Ground.phase }, { on := 5, ground := Ground.phase }, { on := 6, ground := Ground.phase }, { on := 7, ground := Ground.phase }, { on := 8, ground := Ground.phase }, { on := 9, ground := Ground.phase }, { on := 10, ground := Ground.phase }, { on := 11, ground := Ground.textOnly Departure.lateStores }, { on := 12, ground := Ground.phase }], guard := none }) (by kernel_rfl) rfl (fun K hK => ?_)
        have cN130 := PN13.out.c0
        have cN131 := PN13.out.c1
        have fN130 := PN13.out.fz 0
        have fN131 := PN13.out.fz 1
        go_simp
        clear cN130 cN131 fN130 fN131
        obtain ⟨V59, hW⟩ : ∃ V59, (V57.setCell ⟨w55.heap.size, 0, none⟩ (.bool ns)).setCell ⟨w55.heap.size, 1, none⟩ (.slice ads xs.length qs) = V59 := ⟨_, rfl⟩
        replace Za := hid ((Za.out).wk ((PN13.out).wk (.bool ns) (.slice ads xs.length qs)))
        replace Zb := hid ((Zb.out).wk ((PN13.out).wk (.bool ns) (.slice ads xs.length qs)))
        replace Zp := hid ((Zp.out).box (PN13.out) (.bool ns) (.slice ads xs.length qs))
        replace Zq := hid ((Zq.out).box (PN13.out) (.bool ns) (.slice ads xs.length qs))
        replace Zo := hid ((Zo.out).wk ((PN13.out).wk (.bool ns) (.slice ads xs.length qs)))
        replace Zs := hid ((Zs.out).box (PN13.out) (.bool ns) (.slice ads xs.length qs))
        replace Pa := hid ((Pa.out).box (b' := w55.heap.size) (by omega) (.bool ns) (.slice ads xs.length qs))
        replace Pb := hid ((Pb.out).box (b' := w55.heap.size) (by omega) (.bool ns) (.slice ads xs.length qs))
        replace Pp := hid ((Pp.out).box (b' := w55.heap.size) (by omega) (.bool ns) (.slice ads xs.length qs))
        replace Pq := hid ((Pq.out).box (b' := w55.heap.size) (by omega) (.bool ns) (.slice ads xs.length qs))
        replace PN13 := hid ((PN13.out).set (.bool ns) (.slice ads xs.length qs))
        replace G : Hid (Below w.heap.size w (((V57.setCell ⟨w55.heap.size, 0, none⟩ (.bool ns)).setCell ⟨w55.heap.size, 1, none⟩ (.slice ads xs.length qs)))) := bset (bset (G.out) (by omega)) (by omega)
        replace GR : Hid (Below C50.heap.size C50 (((V57.setCell ⟨w55.heap.size, 0, none⟩ (.bool ns)).setCell ⟨w55.heap.size, 1, none⟩ (.slice ads xs.length qs)))) := bset (bset (GR.out) (by omega)) (by omega)
        have sz59 : V59.heap.size = V57.heap.size := by rw [← hW]; simp
        rw [hW] at Za Zb Zp Zq Zo Zs Pa Pb Pp Pq PN13 G GR
        rw [hW]
        clear hW
        refine hK.out _ _ (fun _ => ⟨Pa.out.c0, Pa.out.c1, Pb.out.c0, Pb.out.c1⟩) ?_
        clear hK
        try simp only [Act.put]
        refine wpAnyT_one (i := 14) (o := { dst := some 14, op := Op.assign (Operand.tmp 71), type := 34, pos := "plain.go:128", after := #[{ on := 11, ground := Ground.data }, { on := 13, ground := Ground.chain }, { on := 0, ground := Ground.phase }, { on := 1, ground := Ground.phase }, { on := 2, ground := Ground.phase }, { on := 3, ground := Ground.phase }, { on := 4, ground := Ground.phase }, { on := 5, ground := Ground.phase }, { on := 6, ground := Ground.phase }, { on := 7, ground := Ground.phase }, { on := 8, ground := Ground.phase }, { on := 9, ground := Ground.phase }, { on := 10, ground := Ground.phase }, { on := 11, ground := Ground.phase }, { on := 12, ground := Ground.phase }, { on := 13, ground := Ground.phase }], guard := none }) (by kernel_rfl) rfl (fun K hK => ?_)
        go_simp
        refine hK.out _ _ (fun h => absurd h (by decide)) ?_
        clear hK
        try simp only [Act.put]
        refine wpAnyT_done (by kernel_rfl) ?_ _
        go_wp2_with fail
        go_meet
        exact ⟨⟨_, _, _, _, _, rfl, GR.out, by omega, PN13.out.blk, PN13.out, Zs.out.mono (by omega)⟩, rfl⟩
      · skip
        go_simp
        obtain ⟨V60, hW⟩ : ∃ V60, w53.alloc zbox = V60 := ⟨_, rfl⟩
        obtain ⟨kW, sz60⟩ := alloc1 w53 zbox
        rw [hW] at kW sz60
        replace Za := hid (Za.out.now kW)
        replace Zb := hid (Zb.out.now kW)
        replace Zp := hid (Zp.out.now kW)
        replace Zq := hid (Zq.out.now kW)
        replace Zo := hid (Zo.out.now kW)
        replace Pa := hid (Pa.out.step kW)
        replace Pb := hid (Pb.out.step kW)
        replace Pp := hid (Pp.out.step kW)
        replace Pq := hid (Pq.out.step kW)
        replace G := hid (below_step G.out kW)
        replace GR := hid (below_step GR.out kW)
        have lz61 := (show Below _ _ _ from kW).size
        have PN13 : Hid (Duo V60 (w53.heap.size) (.bool false) (.slice none 0 0)) := by unfold Hid; rw [← hW]; exact duo_at rfl
        rw [hW]
        clear hW kW
        refine hK.out _ _ (fun _ => ⟨Pa.out.c0, Pa.out.c1, Pb.out.c0, Pb.out.c1⟩) ?_
        clear hK
        try simp only [Act.put]
        refine wpAnyT_one (i := 8) (o := { dst := some 69, op := Op.call { callee := Callee.value (Operand.func 32), args := #[Operand.tmp 61, Operand.tmp 67, Operand.tmp 68], argTypes := #[24, 24, 24] }, type := 35, pos := "plain.go:128", after := #[{ on := 0, ground := Ground.data }, { on := 6, ground := Ground.data }, { on := 7, ground := Ground.data }, { on := 6, ground := Ground.chain }], guard := none }) (by kernel_rfl) rfl (fun K hK => ?_)
        go_simp
        go_at_call 32
        refine (powMod_nat (n := E + F) Za.out Zo.out Zb.out (by decide) (by decide) HB.out (by decide)).mono ?_
        rintro e w62 ⟨r0, rfl, m0, b⟩
        obtain ⟨ns, xs, ads, qs, rfl, -, -, -, -, -⟩ := id m0
        replace Za := hid (Za.out.now b)
        replace Zb := hid (Zb.out.now b)
        replace Zp := hid (Zp.out.now b)
        replace Zq := hid (Zq.out.now b)
        replace Zo := hid (Zo.out.now b)
        replace Pa := hid (Pa.out.step b)
        replace Pb := hid (Pb.out.step b)
        replace Pp := hid (Pp.out.step b)
        replace Pq := hid (Pq.out.step b)
        replace PN13 := hid (PN13.out.step b)
        replace G := hid (below_step G.out b)
        replace GR := hid (below_step GR.out b)
        have lz63 := (show Below _ _ _ from b).size
        have Zs := hid m0
        clear b m0
        refine hK.out _ _ (fun _ => ⟨Pa.out.c0, Pa.out.c1, Pb.out.c0, Pb.out.c1⟩) ?_
        clear hK
        refine wpAnyT_take (i := 9) (oi := { dst := some 60, op := Op.move (Operand.tmp 69), type := 35, pos := "plain.go:128", after := #[{ on := 8, ground := Ground.data }], guard := none }) (v := (.tuple #[(.agg #[.bool ns, .slice ads xs.length qs]), (.int .i64 0)])) rfl (by kernel_rfl) (fun _ _ _ h => h) (Or.inl ⟨by rfl, ?_⟩) ⟨Pa.out.c0, Pa.out.c1, Pb.out.c0, Pb.out.c1⟩ ?_
        · intro w hSw
          (try dsimp only at hSw)
          go_simp
        simp only [Act.put, List.setIfInBounds_toArray, List.set_cons_zero, List.set_cons_succ]
        refine wpAnyT_take (i := 10) (oi := { dst := some 70, op := Op.extract (Operand.tmp 60) 0, type := 24, pos := "plain.go:128", after := #[{ on := 9, ground := Ground.data }], guard := none }) (v := (.agg #[.bool ns, .slice ads xs.length qs])) rfl (by kernel_rfl) (fun _ _ _ h => h) (Or.inl ⟨by rfl, ?_⟩) ⟨Pa.out.c0, Pa.out.c1, Pb.out.c0, Pb.out.c1⟩ ?_
        · intro w hSw
          (try dsimp only at hSw)
          go_simp
        simp only [Act.put, List.setIfInBounds_toArray, List.set_cons_zero, List.set_cons_succ]
        refine wpAnyT_take (i := 11) (oi := { dst := some 71, op := Op.extract (Operand.tmp 60) 1, type := 34, pos := "plain.go:128", after := #[{ on := 9, ground := Ground.data }, { on := 13, ground := Ground.gcOnly Departure.lateStores }], guard := none }) (v := (.int .i64 0)) rfl (by kernel_rfl) (fun _ _ _ h => h) (Or.inl ⟨by rfl, ?_⟩) ⟨Pa.out.c0, Pa.out.c1, Pb.out.c0, Pb.out.c1⟩ ?_
        · intro w hSw
          (try dsimp only at hSw)
          go_simp
        simp only [Act.put, List.setIfInBounds_toArray, List.set_cons_zero, List.set_cons_succ]
        refine wpAnyT_one (i := 13) (o := { dst := none, op := Op.store 24 (Operand.tmp 13) (Operand.tmp 70), type := 0, pos := "plain.go:128", after := #[{ on := 12, ground := Ground.data }, { on := 10, ground := Ground.data }, { on := 8, ground := Ground.chain }, { on := 0, ground := Ground.phase }, { on := 1, ground := Ground.phase }, { on := 2, ground := Ground.phase }, { on := 3, ground := Ground.phase }, { on := 4, ground := Ground.phase }, { on := 5, ground := Ground.phase }, { on := 6, ground := Ground.phase }, { on := 7, ground := Ground.phase }, { on := 8, ground := Ground.phase }, { on := 9, ground := Ground.phase }, { on := 10, ground := Ground.phase }, { on := 11, ground := Ground.textOnly Departure.lateStores }, { on := 12, ground := Ground.phase }], guard := none }) (by kernel_rfl) rfl (fun K hK => ?_)
        have cN130 := PN13.out.c0
        have cN131 := PN13.out.c1
        have fN130 := PN13.out.fz 0
        have fN131 := PN13.out.fz 1
        go_simp
        clear cN130 cN131 fN130 fN131
        obtain ⟨V64, hW⟩ : ∃ V64, (w62.setCell ⟨w53.heap.size, 0, none⟩ (.bool ns)).setCell ⟨w53.heap.size, 1, none⟩ (.slice ads xs.length qs) = V64 := ⟨_, rfl⟩
        replace Za := hid ((Za.out).wk ((PN13.out).wk (.bool ns) (.slice ads xs.length qs)))
        replace Zb := hid ((Zb.out).wk ((PN13.out).wk (.bool ns) (.slice ads xs.length qs)))
        replace Zp := hid ((Zp.out).box (PN13.out) (.bool ns) (.slice ads xs.length qs))
        replace Zq := hid ((Zq.out).box (PN13.out) (.bool ns) (.slice ads xs.length qs))
        replace Zo := hid ((Zo.out).wk ((PN13.out).wk (.bool ns) (.slice ads xs.length qs)))
        replace Zs := hid ((Zs.out).box (PN13.out) (.bool ns) (.slice ads xs.length qs))
        replace Pa := hid ((Pa.out).box (b' := w53.heap.size) (by omega) (.bool ns) (.slice ads xs.length qs))
        replace Pb := hid ((Pb.out).box (b' := w53.heap.size) (by omega) (.bool ns) (.slice ads xs.length qs))
        replace Pp := hid ((Pp.out).box (b' := w53.heap.size) (by omega) (.bool ns) (.slice ads xs.length qs))
        replace Pq := hid ((Pq.out).box (b' := w53.heap.size) (by omega) (.bool ns) (.slice ads xs.length qs))
        replace PN13 := hid ((PN13.out).set (.bool ns) (.slice ads xs.length qs))
        replace G : Hid (Below w.heap.size w (((w62.setCell ⟨w53.heap.size, 0, none⟩ (.bool ns)).setCell ⟨w53.heap.size, 1, none⟩ (.slice ads xs.length qs)))) := bset (bset (G.out) (by omega)) (by omega)
        replace GR : Hid (Below C50.heap.size C50 (((w62.setCell ⟨w53.heap.size, 0, none⟩ (.bool ns)).setCell ⟨w53.heap.size, 1, none⟩ (.slice ads xs.length qs)))) := bset (bset (GR.out) (by omega)) (by omega)
        have sz64 : V64.heap.size = w62.heap.size := by rw [← hW]; simp
        rw [hW] at Za Zb Zp Zq Zo Zs Pa Pb Pp Pq PN13 G GR
        rw [hW]
        clear hW
        refine hK.out _ _ (fun _ => ⟨Pa.out.c0, Pa.out.c1, Pb.out.c0, Pb.out.c1⟩) ?_
        clear hK
        try simp only [Act.put]
        refine wpAnyT_one (i := 14) (o := { dst := some 14, op := Op.assign (Operand.tmp 71), type := 34, pos := "plain.go:128", after := #[{ on := 11, ground := Ground.data }, { on := 13, ground := Ground.chain }, { on := 0, ground := Ground.phase }, { on := 1, ground := Ground.phase }, { on := 2, ground := Ground.phase }, { on := 3, ground := Ground.phase }, { on := 4, ground := Ground.phase }, { on := 5, ground := Ground.phase }, { on := 6, ground := Ground.phase }, { on := 7, ground := Ground.phase }, { on := 8, ground := Ground.phase }, { on := 9, ground := Ground.phase }, { on := 10, ground := Ground.phase }, { on := 11, ground := Ground.phase }, { on := 12, ground := Ground.phase }, { on := 13, ground := Ground.phase }], guard := none }) (by kernel_rfl) rfl (fun K hK => ?_)
        go_simp
        refine hK.out _ _ (fun h => absurd h (by decide)) ?_
        clear hK
        try simp only [Act.put]
        refine wpAnyT_done (by kernel_rfl) ?_ _
        go_wp2_with fail
        go_meet
        exact ⟨⟨_, _, _, _, _, rfl, GR.out, by omega, PN13.out.blk, PN13.out, Zs.out.mono (by omega)⟩, rfl⟩
    · skip
      go_simp
      obtain ⟨V65, hW⟩ : ∃ V65, D51.alloc zbox = V65 := ⟨_, rfl⟩
      obtain ⟨kW, sz65⟩ := alloc1 D51 zbox
      rw [hW] at kW sz65
      replace Za := hid (Za.out.now kW)
      replace Zb := hid (Zb.out.now kW)
      replace Zp := hid (Zp.out.now kW)
      replace Zq := hid (Zq.out.now kW)
      replace Pa := hid (Pa.out.step kW)
      replace Pb := hid (Pb.out.step kW)
      replace Pp := hid (Pp.out.step kW)
      replace Pq := hid (Pq.out.step kW)
      replace G := hid (below_step G.out kW)
      replace GR := hid (below_step GR.out kW)
      have lz66 := (show Below _ _ _ from kW).size
      have PN13 : Hid (Duo V65 (D51.heap.size) (.bool false) (.slice none 0 0)) := by unfold Hid; rw [← hW]; exact duo_at rfl
      rw [hW]
      clear hW kW
      refine hK.out _ _ (fun _ => ⟨Pa.out.c0, Pa.out.c1, Pb.out.c0, Pb.out.c1⟩) ?_
      clear hK
      try simp only [Act.put]
      refine wpAnyT_one (i := 6) (o := { dst := some 67, op := Op.call { callee := Callee.value (Operand.func 30), args := #[Operand.tmp 66], argTypes := #[45] }, type := 24, pos := "plain.go:128", after := #[{ on := 5, ground := Ground.data }], guard := none }) (by kernel_rfl) rfl (fun K hK => ?_)
      go_simp
      go_at_call 30
      refine (of6i (n := ((E + F : Nat) : Int)) (by omega) (by omega) _).mono ?_
      rintro e w67 ⟨r0, rfl, m0, b⟩
      obtain ⟨no, xo, ado, qo, rfl, -, -, -⟩ := id m0
      replace Za := hid (Za.out.now b)
      replace Zb := hid (Zb.out.now b)
      replace Zp := hid (Zp.out.now b)
      replace Zq := hid (Zq.out.now b)
      replace Pa := hid (Pa.out.step b)
      replace Pb := hid (Pb.out.step b)
      replace Pp := hid (Pp.out.step b)
      replace Pq := hid (Pq.out.step b)
      replace PN13 := hid (PN13.out.step b)
      replace G := hid (below_step G.out b)
      replace GR := hid (below_step GR.out b)
      have lz68 := (show Below _ _ _ from b).size
      have Zo := hid m0
      clear b m0
      refine hK.out _ _ (fun _ => ⟨Pa.out.c0, Pa.out.c1, Pb.out.c0, Pb.out.c1⟩) ?_
      clear hK
      refine wpAnyT_one (i := 8) (o := { dst := some 69, op := Op.call { callee := Callee.value (Operand.func 32), args := #[Operand.tmp 61, Operand.tmp 67, Operand.tmp 68], argTypes := #[24, 24, 24] }, type := 35, pos := "plain.go:128", after := #[{ on := 0, ground := Ground.data }, { on := 6, ground := Ground.data }, { on := 7, ground := Ground.data }, { on := 6, ground := Ground.chain }], guard := none }) (by kernel_rfl) rfl (fun K hK => ?_)
      go_simp
      go_at_call 32
      refine (powMod_nat (n := E + F) Za.out Zo.out Zb.out (by decide) (by decide) HB.out (by decide)).mono ?_
      rintro e w69 ⟨r0, rfl, m0, b⟩
      obtain ⟨ns, xs, ads, qs, rfl, -, -, -, -, -⟩ := id m0
      replace Za := hid (Za.out.now b)
      replace Zb := hid (Zb.out.now b)
      replace Zp := hid (Zp.out.now b)
      replace Zq := hid (Zq.out.now b)
      replace Zo := hid (Zo.out.now b)
      replace Pa := hid (Pa.out.step b)
      replace Pb := hid (Pb.out.step b)
      replace Pp := hid (Pp.out.step b)
      replace Pq := hid (Pq.out.step b)
      replace PN13 := hid (PN13.out.step b)
      replace G := hid (below_step G.out b)
      replace GR := hid (below_step GR.out b)
      have lz70 := (show Below _ _ _ from b).size
      have Zs := hid m0
      clear b m0
      refine hK.out _ _ (fun _ => ⟨Pa.out.c0, Pa.out.c1, Pb.out.c0, Pb.out.c1⟩) ?_
      clear hK
      refine wpAnyT_take (i := 9) (oi := { dst := some 60, op := Op.move (Operand.tmp 69), type := 35, pos := "plain.go:128", after := #[{ on := 8, ground := Ground.data }], guard := none }) (v := (.tuple #[(.agg #[.bool ns, .slice ads xs.length qs]), (.int .i64 0)])) rfl (by kernel_rfl) (fun _ _ _ h => h) (Or.inl ⟨by rfl, ?_⟩) ⟨Pa.out.c0, Pa.out.c1, Pb.out.c0, Pb.out.c1⟩ ?_
      · intro w hSw
        (try dsimp only at hSw)
        go_simp
      simp only [Act.put, List.setIfInBounds_toArray, List.set_cons_zero, List.set_cons_succ]
      refine wpAnyT_take (i := 10) (oi := { dst := some 70, op := Op.extract (Operand.tmp 60) 0, type := 24, pos := "plain.go:128", after := #[{ on := 9, ground := Ground.data }], guard := none }) (v := (.agg #[.bool ns, .slice ads xs.length qs])) rfl (by kernel_rfl) (fun _ _ _ h => h) (Or.inl ⟨by rfl, ?_⟩) ⟨Pa.out.c0, Pa.out.c1, Pb.out.c0, Pb.out.c1⟩ ?_
      · intro w hSw
        (try dsimp only at hSw)
        go_simp
      simp only [Act.put, List.setIfInBounds_toArray, List.set_cons_zero, List.set_cons_succ]
      refine wpAnyT_take (i := 11) (oi := { dst := some 71, op := Op.extract (Operand.tmp 60) 1, type := 34, pos := "plain.go:128", after := #[{ on := 9, ground := Ground.data }, { on := 13, ground := Ground.gcOnly Departure.lateStores }], guard := none }) (v := (.int .i64 0)) rfl (by kernel_rfl) (fun _ _ _ h => h) (Or.inl ⟨by rfl, ?_⟩) ⟨Pa.out.c0, Pa.out.c1, Pb.out.c0, Pb.out.c1⟩ ?_
      · intro w hSw
        (try dsimp only at hSw)
        go_simp
      simp only [Act.put, List.setIfInBounds_toArray, List.set_cons_zero, List.set_cons_succ]
      refine wpAnyT_one (i := 13) (o := { dst := none, op := Op.store 24 (Operand.tmp 13) (Operand.tmp 70), type := 0, pos := "plain.go:128", after := #[{ on := 12, ground := Ground.data }, { on := 10, ground := Ground.data }, { on := 8, ground := Ground.chain }, { on := 0, ground := Ground.phase }, { on := 1, ground := Ground.phase }, { on := 2, ground := Ground.phase }, { on := 3, ground := Ground.phase }, { on := 4, ground := Ground.phase }, { on := 5, ground := Ground.phase }, { on := 6, ground := Ground.phase }, { on := 7, ground := Ground.phase }, { on := 8, ground := Ground.phase }, { on := 9, ground := Ground.phase }, { on := 10, ground := Ground.phase }, { on := 11, ground := Ground.textOnly Departure.lateStores }, { on := 12, ground := Ground.phase }], guard := none }) (by kernel_rfl) rfl (fun K hK => ?_)
      have cN130 := PN13.out.c0
      have cN131 := PN13.out.c1
      have fN130 := PN13.out.fz 0
      have fN131 := PN13.out.fz 1
      go_simp
      clear cN130 cN131 fN130 fN131
      obtain ⟨V71, hW⟩ : ∃ V71, (w69.setCell ⟨D51.heap.size, 0, none⟩ (.bool ns)).setCell ⟨D51.heap.size, 1, none⟩ (.slice ads xs.length qs) = V71 := ⟨_, rfl⟩
      replace Za := hid ((Za.out).wk ((PN13.out).wk (.bool ns) (.slice ads xs.length qs)))
      replace Zb := hid ((Zb.out).wk ((PN13.out).wk (.bool ns) (.slice ads xs.length qs)))
      replace Zp := hid ((Zp.out).box (PN13.out) (.bool ns) (.slice ads xs.length qs))
      replace Zq := hid ((Zq.out).box (PN13.out) (.bool ns) (.slice ads xs.length qs))
      replace Zo := hid ((Zo.out).wk ((PN13.out).wk (.bool ns) (.slice ads xs.length qs)))
      replace Zs := hid ((Zs.out).box (PN13.out) (.bool ns) (.slice ads xs.length qs))
      replace Pa := hid ((Pa.out).box (b' := D51.heap.size) (by omega) (.bool ns) (.slice ads xs.length qs))
      replace Pb := hid ((Pb.out).box (b' := D51.heap.size) (by omega) (.bool ns) (.slice ads xs.length qs))
      replace Pp := hid ((Pp.out).box (b' := D51.heap.size) (by omega) (.bool ns) (.slice ads xs.length qs))
      replace Pq := hid ((Pq.out).box (b' := D51.heap.size) (by omega) (.bool ns) (.slice ads xs.length qs))
      replace PN13 := hid ((PN13.out).set (.bool ns) (.slice ads xs.length qs))
      replace G : Hid (Below w.heap.size w (((w69.setCell ⟨D51.heap.size, 0, none⟩ (.bool ns)).setCell ⟨D51.heap.size, 1, none⟩ (.slice ads xs.length qs)))) := bset (bset (G.out) (by omega)) (by omega)
      replace GR : Hid (Below C50.heap.size C50 (((w69.setCell ⟨D51.heap.size, 0, none⟩ (.bool ns)).setCell ⟨D51.heap.size, 1, none⟩ (.slice ads xs.length qs)))) := bset (bset (GR.out) (by omega)) (by omega)
      have sz71 : V71.heap.size = w69.heap.size := by rw [← hW]; simp
      rw [hW] at Za Zb Zp Zq Zo Zs Pa Pb Pp Pq PN13 G GR
      rw [hW]
      clear hW
      refine hK.out _ _ (fun _ => ⟨Pa.out.c0, Pa.out.c1, Pb.out.c0, Pb.out.c1⟩) ?_
      clear hK
      try simp only [Act.put]
      refine wpAnyT_one (i := 14) (o := { dst := some 14, op := Op.assign (Operand.tmp 71), type := 34, pos := "plain.go:128", after := #[{ on := 11, ground := Ground.data }, { on := 13, ground := Ground.chain }, { on := 0, ground := Ground.phase }, { on := 1, ground := Ground.phase }, { on := 2, ground := Ground.phase }, { on := 3, ground := Ground.phase }, { on := 4, ground := Ground.phase }, { on := 5, ground := Ground.phase }, { on := 6, ground := Ground.phase }, { on := 7, ground := Ground.phase }, { on := 8, ground := Ground.phase }, { on := 9, ground := Ground.phase }, { on := 10, ground := Ground.phase }, { on := 11, ground := Ground.phase }, { on := 12, ground := Ground.phase }, { on := 13, ground := Ground.phase }], guard := none }) (by kernel_rfl) rfl (fun K hK => ?_)
      go_simp
      refine hK.out _ _ (fun h => absurd h (by decide)) ?_
      clear hK
      try simp only [Act.put]
      refine wpAnyT_done (by kernel_rfl) ?_ _
      go_wp2_with fail
      go_meet
      exact ⟨⟨_, _, _, _, _, rfl, GR.out, by omega, PN13.out.blk, PN13.out, Zs.out.mono (by omega)⟩, rfl⟩
  case rest => as_aux_lemma =>
  obtain ⟨⟨bks, ns, xs, ads, qs, rfl, b, ges, lts, p, m⟩, rfl⟩ := hcut
  replace Za := hid (Za.out.now b)
  replace Zb := hid (Zb.out.now b)
  replace Zp := hid (Zp.out.now b)
  replace Zq := hid (Zq.out.now b)
  replace Pa := hid (Pa.out.step b)
  replace Pb := hid (Pb.out.step b)
  replace Pp := hid (Pp.out.step b)
  replace Pq := hid (Pq.out.step b)
  replace G := hid (below_step G.out b)
  have lz73 := (show Below _ _ _ from b).size
  have Zs := hid m
  have Ps := hid p
  clear b p m
  generalize wc = C73 at *
  have HI : Hid (∀ n, 0 ≤ pmod A n B ∧ pmod A n B < (B.natAbs : Int)) := fun n => pmod_in HB.out
  have cp0 := Pp.out.c0
  have cp1 := Pp.out.c1
  go_wp2_with fail
  clear cp0 cp1
  refine (least6 Zp.out.zc).mono ?_
  rintro e w74 ⟨rfl, b⟩
  replace Za := hid (Za.out.now b)
  replace Zb := hid (Zb.out.now b)
  replace Zp := hid (Zp.out.now b)
  replace Zq := hid (Zq.out.now b)
  replace Zs := hid (Zs.out.now b)
  replace Pa := hid (Pa.out.step b)
  replace Pb := hid (Pb.out.step b)
  replace Pp := hid (Pp.out.step b)
  replace Pq := hid (Pq.out.step b)
  replace Ps := hid (Ps.out.step b)
  replace G := hid (below_step G.out b)
  have lz75 := (show Below _ _ _ from b).size
  clear b 
  have cp0 := Pp.out.c0
  have cp1 := Pp.out.c1
  have cb0 := Pb.out.c0
  have cb1 := Pb.out.c1
  go_wp2_with fail
  clear cp0 cp1 cb0 cb1
  refine (within6 Zp.out.zi Zb.out (by decide) (HI.out E)).mono ?_
  rintro e w76 ⟨rfl, b⟩
  replace Za := hid (Za.out.now b)
  replace Zb := hid (Zb.out.now b)
  replace Zp := hid (Zp.out.now b)
  replace Zq := hid (Zq.out.now b)
  replace Zs := hid (Zs.out.now b)
  replace Pa := hid (Pa.out.step b)
  replace Pb := hid (Pb.out.step b)
  replace Pp := hid (Pp.out.step b)
  replace Pq := hid (Pq.out.step b)
  replace Ps := hid (Ps.out.step b)
  replace G := hid (below_step G.out b)
  have lz77 := (show Below _ _ _ from b).size
  clear b 
  have cq0 := Pq.out.c0
  have cq1 := Pq.out.c1
  have cb0 := Pb.out.c0
  have cb1 := Pb.out.c1
  go_wp2_with fail
  clear cq0 cq1 cb0 cb1
  refine (within6 Zq.out.zi Zb.out (by decide) (HI.out F)).mono ?_
  rintro e w78 ⟨rfl, b⟩
  replace Za := hid (Za.out.now b)
  replace Zb := hid (Zb.out.now b)
  replace Zp := hid (Zp.out.now b)
  replace Zq := hid (Zq.out.now b)
  replace Zs := hid (Zs.out.now b)
  replace Pa := hid (Pa.out.step b)
  replace Pb := hid (Pb.out.step b)
  replace Pp := hid (Pp.out.step b)
  replace Pq := hid (Pq.out.step b)
  replace Ps := hid (Ps.out.step b)
  replace G := hid (below_step G.out b)
  have lz79 := (show Below _ _ _ from b).size
  clear b 
  have cs0 := Ps.out.c0
  have cs1 := Ps.out.c1
  have cb0 := Pb.out.c0
  have cb1 := Pb.out.c1
  go_wp2_with fail
  clear cs0 cs1 cb0 cb1
  refine (within6 Zs.out.zi Zb.out (by decide) (HI.out (E + F))).mono ?_
  rintro e w80 ⟨rfl, b⟩
  replace Za := hid (Za.out.now b)
  replace Zb := hid (Zb.out.now b)
  replace Zp := hid (Zp.out.now b)
  replace Zq := hid (Zq.out.now b)
  replace Zs := hid (Zs.out.now b)
  replace Pa := hid (Pa.out.step b)
  replace Pb := hid (Pb.out.step b)
  replace Pp := hid (Pp.out.step b)
  replace Pq := hid (Pq.out.step b)
  replace Ps := hid (Ps.out.step b)
  replace G := hid (below_step G.out b)
  have lz81 := (show Below _ _ _ from b).size
  clear b 
  go_wp2_with fail
  go_cut [15] from 26 (fun s1 wx => MetB w80 wx s1 (pmod A E B * pmod A F B - pmod A (E + F) B) (max (1048576 + 1048576) 1048576 + 1))
  case first => as_aux_lemma =>
    have GR : Hid (Below w80.heap.size w80 w80) := Below.refl _ _
    refine wp_region_tail (fun w' => w'.cell? ⟨bkp, 0, none⟩ = some (.bool np) ∧ w'.cell? ⟨bkp, 1, none⟩ = some (.slice adp xp.length qp) ∧ w'.cell? ⟨bkq, 0, none⟩ = some (.bool nq) ∧ w'.cell? ⟨bkq, 1, none⟩ = some (.slice adq xq.length qq) ∧ w'.cell? ⟨bks, 0, none⟩ = some (.bool ns) ∧ w'.cell? ⟨bks, 1, none⟩ = some (.slice ads xs.length qs)) 6 (by kernel_rfl) ?_
    obtain ⟨D82, hD⟩ : ∃ D82, w80.drew = D82 := ⟨_, rfl⟩
    have b : Below w80.heap.size w80 D82 := by rw [← hD]; exact (Below.refl _ _).drew
    rw [hD]
    clear hD
    replace Za := hid (Za.out.now b)
    replace Zb := hid (Zb.out.now b)
    replace Zp := hid (Zp.out.now b)
    replace Zq := hid (Zq.out.now b)
    replace Zs := hid (Zs.out.now b)
    replace Pa := hid (Pa.out.step b)
    replace Pb := hid (Pb.out.step b)
    replace Pp := hid (Pp.out.step b)
    replace Pq := hid (Pq.out.step b)
    replace Ps := hid (Ps.out.step b)
    replace G := hid (below_step G.out b)
    replace GR := hid (below_step GR.out b)
    have lz83 := (show Below _ _ _ from b).size
    clear b
    refine wpAnyT_take (i := 0) (oi := { dst := some 105, op := Op.load 24 (Operand.tmp 9), type := 24, pos := "plain.go:132", after := #[], guard := none }) (v := (.agg #[(.bool np), (.slice adp xp.length qp)])) rfl (by kernel_rfl) (fun _ _ _ h => h) (Or.inl ⟨by rfl, ?_⟩) ⟨Pp.out.c0, Pp.out.c1, Pq.out.c0, Pq.out.c1, Ps.out.c0, Ps.out.c1⟩ ?_
    · intro w hSw
      (try dsimp only at hSw)
      go_simp
    simp only [Act.put, List.setIfInBounds_toArray, List.set_cons_zero, List.set_cons_succ]
    refine wpAnyT_take (i := 1) (oi := { dst := some 106, op := Op.load 24 (Operand.tmp 11), type := 24, pos := "plain.go:132", after := #[], guard := none }) (v := (.agg #[(.bool nq), (.slice adq xq.length qq)])) rfl (by kernel_rfl) (fun _ _ _ h => h) (Or.inl ⟨by rfl, ?_⟩) ⟨Pp.out.c0, Pp.out.c1, Pq.out.c0, Pq.out.c1, Ps.out.c0, Ps.out.c1⟩ ?_
    · intro w hSw
      (try dsimp only at hSw)
      go_simp
    simp only [Act.put, List.setIfInBounds_toArray, List.set_cons_zero, List.set_cons_succ]
    refine wpAnyT_take (i := 3) (oi := { dst := some 108, op := Op.load 24 (Operand.tmp 13), type := 24, pos := "plain.go:132", after := #[], guard := none }) (v := (.agg #[(.bool ns), (.slice ads xs.length qs)])) rfl (by kernel_rfl) (fun _ _ _ h => h) (Or.inl ⟨by rfl, ?_⟩) ⟨Pp.out.c0, Pp.out.c1, Pq.out.c0, Pq.out.c1, Ps.out.c0, Ps.out.c1⟩ ?_
    · intro w hSw
      (try dsimp only at hSw)
      go_simp
    simp only [Act.put, List.setIfInBounds_toArray, List.set_cons_zero, List.set_cons_succ]
    refine wpAnyT_two (i := 2) (j := 5) (oi := { dst := some 107, op := Op.call { callee := Callee.value (Operand.func 18), args := #[Operand.tmp 105, Operand.tmp 106], argTypes := #[24, 24] }, type := 24, pos := "plain.go:132", after := #[{ on := 0, ground := Ground.data }, { on := 1, ground := Ground.data }], guard := none }) (oj := { dst := some 15, op := Op.alloc 24, type := 0, pos := "plain.go:132", after := #[], guard := none }) (by kernel_rfl) rfl rfl (fun K hK => ?_) (fun K hK => ?_)
    · skip
      go_simp
      go_at_call 18
      refine (rmul_z Zp.out.zi Zq.out.zi (by decide) (by decide)).mono ?_
      rintro e w84 ⟨r0, rfl, m0, b⟩
      obtain ⟨nu, xu, adu, qu, rfl, -, -, -, -, -⟩ := id m0
      replace Za := hid (Za.out.now b)
      replace Zb := hid (Zb.out.now b)
      replace Zp := hid (Zp.out.now b)
      replace Zq := hid (Zq.out.now b)
      replace Zs := hid (Zs.out.now b)
      replace Pa := hid (Pa.out.step b)
      replace Pb := hid (Pb.out.step b)
      replace Pp := hid (Pp.out.step b)
      replace Pq := hid (Pq.out.step b)
      replace Ps := hid (Ps.out.step b)
      replace G := hid (below_step G.out b)
      replace GR := hid (below_step GR.out b)
      have lz85 := (show Below _ _ _ from b).size
      have Zu := hid m0
      clear b m0
      refine hK.out _ _ (fun _ => ⟨Pp.out.c0, Pp.out.c1, Pq.out.c0, Pq.out.c1, Ps.out.c0, Ps.out.c1⟩) ?_
      clear hK
      refine wpAnyT_two (i := 4) (j := 5) (oi := { dst := some 109, op := Op.call { callee := Callee.value (Operand.func 29), args := #[Operand.tmp 107, Operand.tmp 108], argTypes := #[24, 24] }, type := 24, pos := "plain.go:132", after := #[{ on := 2, ground := Ground.data }, { on := 3, ground := Ground.data }, { on := 2, ground := Ground.chain }], guard := none }) (oj := { dst := some 15, op := Op.alloc 24, type := 0, pos := "plain.go:132", after := #[], guard := none }) (by kernel_rfl) rfl rfl (fun K hK => ?_) (fun K hK => ?_)
      · skip
        go_simp
        go_at_call 29
        refine (rsub_z Zu.out.zi Zs.out.zi (by decide) (by decide)).mono ?_
        rintro e w86 ⟨r0, rfl, m0, b⟩
        obtain ⟨nd, xd, add, qd, rfl, -, -, -, -, -⟩ := id m0
        replace Za := hid (Za.out.now b)
        replace Zb := hid (Zb.out.now b)
        replace Zp := hid (Zp.out.now b)
        replace Zq := hid (Zq.out.now b)
        replace Zs := hid (Zs.out.now b)
        replace Zu := hid (Zu.out.now b)
        replace Pa := hid (Pa.out.step b)
        replace Pb := hid (Pb.out.step b)
        replace Pp := hid (Pp.out.step b)
        replace Pq := hid (Pq.out.step b)
        replace Ps := hid (Ps.out.step b)
        replace G := hid (below_step G.out b)
        replace GR := hid (below_step GR.out b)
        have lz87 := (show Below _ _ _ from b).size
        have Zd := hid m0
        clear b m0
        refine hK.out _ _ (fun _ => ⟨Pp.out.c0, Pp.out.c1, Pq.out.c0, Pq.out.c1, Ps.out.c0, Ps.out.c1⟩) ?_
        clear hK
        refine wpAnyT_one (i := 5) (o := { dst := some 15, op := Op.alloc 24, type := 0, pos := "plain.go:132", after := #[], guard := none }) (by kernel_rfl) rfl (fun K hK => ?_)
        go_simp
        obtain ⟨V88, hW⟩ : ∃ V88, w86.alloc zbox = V88 := ⟨_, rfl⟩
        obtain ⟨kW, sz88⟩ := alloc1 w86 zbox
        rw [hW] at kW sz88
        replace Za := hid (Za.out.now kW)
        replace Zb := hid (Zb.out.now kW)
        replace Zp := hid (Zp.out.now kW)
        replace Zq := hid (Zq.out.now kW)
        replace Zs := hid (Zs.out.now kW)
        replace Zu := hid (Zu.out.now kW)
        replace Zd := hid (Zd.out.now kW)
        replace Pa := hid (Pa.out.step kW)
        replace Pb := hid (Pb.out.step kW)
        replace Pp := hid (Pp.out.step kW)
        replace Pq := hid (Pq.out.step kW)
        replace Ps := hid (Ps.out.step kW)
        replace G := hid (below_step G.out kW)
        replace GR := hid (below_step GR.out kW)
        have lz89 := (show Below _ _ _ from kW).size
        have PN15 : Hid (Duo V88 (w86.heap.size) (.bool false) (.slice none 0 0)) := by unfold Hid; rw [← hW]; exact duo_at rfl
        rw [hW]
        clear hW kW
        refine hK.out _ _ (fun _ => ⟨Pp.out.c0, Pp.out.c1, Pq.out.c0, Pq.out.c1, Ps.out.c0, Ps.out.c1⟩) ?_
        clear hK
        try simp only [Act.put]
        refine wpAnyT_one (i := 6) (o := { dst := none, op := Op.store 24 (Operand.tmp 15) (Operand.tmp 109), type := 0, pos := "plain.go:132", after := #[{ on := 5, ground := Ground.data }, { on := 4, ground := Ground.data }, { on := 4, ground := Ground.chain }, { on := 0, ground := Ground.phase }, { on := 1, ground := Ground.phase }, { on := 2, ground := Ground.phase }, { on := 3, ground := Ground.phase }, { on := 4, ground := Ground.phase }, { on := 5, ground := Ground.phase }], guard := none }) (by kernel_rfl) rfl (fun K hK => ?_)
        have cN150 := PN15.out.c0
        have cN151 := PN15.out.c1
        have fN150 := PN15.out.fz 0
        have fN151 := PN15.out.fz 1
        go_simp
        clear cN150 cN151 fN150 fN151
        obtain ⟨V90, hW⟩ : ∃ V90, (V88.setCell ⟨w86.heap.size, 0, none⟩ (.bool nd)).setCell ⟨w86.heap.size, 1, none⟩ (.slice add xd.length qd) = V90 := ⟨_, rfl⟩
        replace Za := hid ((Za.out).wk ((PN15.out).wk (.bool nd) (.slice add xd.length qd)))
        replace Zb := hid ((Zb.out).wk ((PN15.out).wk (.bool nd) (.slice add xd.length qd)))
        replace Zp := hid ((Zp.out).box (PN15.out) (.bool nd) (.slice add xd.length qd))
        replace Zq := hid ((Zq.out).box (PN15.out) (.bool nd) (.slice add xd.length qd))
        replace Zs := hid ((Zs.out).box (PN15.out) (.bool nd) (.slice add xd.length qd))
        replace Zu := hid ((Zu.out).box (PN15.out) (.bool nd) (.slice add xd.length qd))
        replace Zd := hid ((Zd.out).box (PN15.out) (.bool nd) (.slice add xd.length qd))
        replace Pa := hid ((Pa.out).box (b' := w86.heap.size) (by omega) (.bool nd) (.slice add xd.length qd))
        replace Pb := hid ((Pb.out).box (b' := w86.heap.size) (by omega) (.bool nd) (.slice add xd.length qd))
        replace Pp := hid ((Pp.out).box (b' := w86.heap.size) (by omega) (.bool nd) (.slice add xd.length qd))
        replace Pq := hid ((Pq.out).box (b' := w86.heap.size) (by omega) (.bool nd) (.slice add xd.length qd))
        replace Ps := hid ((Ps.out).box (b' := w86.heap.size) (by omega) (.bool nd) (.slice add xd.length qd))
        replace PN15 := hid ((PN15.out).set (.bool nd) (.slice add xd.length qd))
        replace G : Hid (Below w.heap.size w (((V88.setCell ⟨w86.heap.size, 0, none⟩ (.bool nd)).setCell ⟨w86.heap.size, 1, none⟩ (.slice add xd.length qd)))) := bset (bset (G.out) (by omega)) (by omega)
        replace GR : Hid (Below w80.heap.size w80 (((V88.setCell ⟨w86.heap.size, 0, none⟩ (.bool nd)).setCell ⟨w86.heap.size, 1, none⟩ (.slice add xd.length qd)))) := bset (bset (GR.out) (by omega)) (by omega)
        have sz90 : V90.heap.size = V88.heap.size := by rw [← hW]; simp
        rw [hW] at Za Zb Zp Zq Zs Zu Zd Pa Pb Pp Pq Ps PN15 G GR
        rw [hW]
        clear hW
        refine hK.out _ _ (fun h => absurd h (by decide)) ?_
        clear hK
        try simp only [Act.put]
        refine wpAnyT_done (by kernel_rfl) ?_ _
        go_wp2_with fail
        go_meet
        exact ⟨_, _, _, _, _, rfl, GR.out, by omega, PN15.out.blk, PN15.out, Zd.out.mono (by omega)⟩
      · skip
        go_simp
        obtain ⟨V91, hW⟩ : ∃ V91, w84.alloc zbox = V91 := ⟨_, rfl⟩
        obtain ⟨kW, sz91⟩ := alloc1 w84 zbox
        rw [hW] at kW sz91
        replace Za := hid (Za.out.now kW)
        replace Zb := hid (Zb.out.now kW)
        replace Zp := hid (Zp.out.now kW)
        replace Zq := hid (Zq.out.now kW)
        replace Zs := hid (Zs.out.now kW)
        replace Zu := hid (Zu.out.now kW)
        replace Pa := hid (Pa.out.step kW)
        replace Pb := hid (Pb.out.step kW)
        replace Pp := hid (Pp.out.step kW)
        replace Pq := hid (Pq.out.step kW)
        replace Ps := hid (Ps.out.step kW)
        replace G := hid (below_step G.out kW)
        replace GR := hid (below_step GR.out kW)
        have lz92 := (show Below _ _ _ from kW).size
        have PN15 : Hid (Duo V91 (w84.heap.size) (.bool false) (.slice none 0 0)) := by unfold Hid; rw [← hW]; exact duo_at rfl
        rw [hW]
        clear hW kW
        refine hK.out _ _ (fun _ => ⟨Pp.out.c0, Pp.out.c1, Pq.out.c0, Pq.out.c1, Ps.out.c0, Ps.out.c1⟩) ?_
        clear hK
        try simp only [Act.put]
        refine wpAnyT_one (i := 4) (o := { dst := some 109, op := Op.call { callee := Callee.value (Operand.func 29), args := #[Operand.tmp 107, Operand.tmp 108], argTypes := #[24, 24] }, type := 24, pos := "plain.go:132", after := #[{ on := 2, ground := Ground.data }, { on := 3, ground := Ground.data }, { on := 2, ground := Ground.chain }], guard := none }) (by kernel_rfl) rfl (fun K hK => ?_)
        go_simp
        go_at_call 29
        refine (rsub_z Zu.out.zi Zs.out.zi (by decide) (by decide)).mono ?_
        rintro e w93 ⟨r0, rfl, m0, b⟩
        obtain ⟨nd, xd, add, qd, rfl, -, -, -, -, -⟩ := id m0
        replace Za := hid (Za.out.now b)
        replace Zb := hid (Zb.out.now b)
        replace Zp := hid (Zp.out.now b)
        replace Zq := hid (Zq.out.now b)
        replace Zs := hid (Zs.out.now b)
        replace Zu := hid (Zu.out.now b)
        replace Pa := hid (Pa.out.step b)
        replace Pb := hid (Pb.out.step b)
        replace Pp := hid (Pp.out.step b)
        replace Pq := hid (Pq.out.step b)
        replace Ps := hid (Ps.out.step b)
        replace PN15 := hid (PN15.out.step b)
        replace G := hid (below_step G.out b)
        replace GR := hid (below_step GR.out b)
        have lz94 := (show Below _ _ _ from b).size
        have Zd := hid m0
        clear b m0
        refine hK.out _ _ (fun _ => ⟨Pp.out.c0, Pp.out.c1, Pq.out.c0, Pq.out.c1, Ps.out.c0, Ps.out.c1⟩) ?_
        clear hK
        refine wpAnyT_one (i := 6) (o := { dst := none, op := Op.store 24 (Operand.tmp 15) (Operand.tmp 109), type := 0, pos := "plain.go:132", after := #[{ on := 5, ground := Ground.data }, { on := 4, ground := Ground.data }, { on := 4, ground := Ground.chain }, { on := 0, ground := Ground.phase }, { on := 1, ground := Ground.phase }, { on := 2, ground := Ground.phase }, { on := 3, ground := Ground.phase }, { on := 4, ground := Ground.phase }, { on := 5, ground := Ground.phase }], guard := none }) (by kernel_rfl) rfl (fun K hK => ?_)
        have cN150 := PN15.out.c0
        have cN151 := PN15.out.c1
        have fN150 := PN15.out.fz 0
        have fN151 := PN15.out.fz 1
        go_simp
        clear cN150 cN151 fN150 fN151
        obtain ⟨V95, hW⟩ : ∃ V95, (w93.setCell ⟨w84.heap.size, 0, none⟩ (.bool nd)).setCell ⟨w84.heap.size, 1, none⟩ (.slice add xd.length qd) = V95 := ⟨_, rfl⟩
        replace Za := hid ((Za.out).wk ((PN15.out).wk (.bool nd) (.slice add xd.length qd)))
        replace Zb := hid ((Zb.out).wk ((PN15.out).wk (.bool nd) (.slice add xd.length qd)))
        replace Zp := hid ((Zp.out).box (PN15.out) (.bool nd) (.slice add xd.length qd))
        replace Zq := hid ((Zq.out).box (PN15.out) (.bool nd) (.slice add xd.length qd))
        replace Zs := hid ((Zs.out).box (PN15.out) (.bool nd) (.slice add xd.length qd))
        replace Zu := hid ((Zu.out).box (PN15.out) (.bool nd) (.slice add xd.length qd))
        replace Zd := hid ((Zd.out).box (PN15.out) (.bool nd) (.slice add xd.length qd))
        replace Pa := hid ((Pa.out).box (b' := w84.heap.size) (by omega) (.bool nd) (.slice add xd.length qd))
        replace Pb := hid ((Pb.out).box (b' := w84.heap.size) (by omega) (.bool nd) (.slice add xd.length qd))
        replace Pp := hid ((Pp.out).box (b' := w84.heap.size) (by omega) (.bool nd) (.slice add xd.length qd))
        replace Pq := hid ((Pq.out).box (b' := w84.heap.size) (by omega) (.bool nd) (.slice add xd.length qd))
        replace Ps := hid ((Ps.out).box (b' := w84.heap.size) (by omega) (.bool nd) (.slice add xd.length qd))
        replace PN15 := hid ((PN15.out).set (.bool nd) (.slice add xd.length qd))
        replace G : Hid (Below w.heap.size w (((w93.setCell ⟨w84.heap.size, 0, none⟩ (.bool nd)).setCell ⟨w84.heap.size, 1, none⟩ (.slice add xd.length qd)))) := bset (bset (G.out) (by omega)) (by omega)
        replace GR : Hid (Below w80.heap.size w80 (((w93.setCell ⟨w84.heap.size, 0, none⟩ (.bool nd)).setCell ⟨w84.heap.size, 1, none⟩ (.slice add xd.length qd)))) := bset (bset (GR.out) (by omega)) (by omega)
        have sz95 : V95.heap.size = w93.heap.size := by rw [← hW]; simp
        rw [hW] at Za Zb Zp Zq Zs Zu Zd Pa Pb Pp Pq Ps PN15 G GR
        rw [hW]
        clear hW
        refine hK.out _ _ (fun h => absurd h (by decide)) ?_
        clear hK
        try simp only [Act.put]
        refine wpAnyT_done (by kernel_rfl) ?_ _
        go_wp2_with fail
        go_meet
        exact ⟨_, _, _, _, _, rfl, GR.out, by omega, PN15.out.blk, PN15.out, Zd.out.mono (by omega)⟩
    · skip
      go_simp
      obtain ⟨V96, hW⟩ : ∃ V96, D82.alloc zbox = V96 := ⟨_, rfl⟩
      obtain ⟨kW, sz96⟩ := alloc1 D82 zbox
      rw [hW] at kW sz96
      replace Za := hid (Za.out.now kW)
      replace Zb := hid (Zb.out.now kW)
      replace Zp := hid (Zp.out.now kW)
      replace Zq := hid (Zq.out.now kW)
      replace Zs := hid (Zs.out.now kW)
      replace Pa := hid (Pa.out.step kW)
      replace Pb := hid (Pb.out.step kW)
      replace Pp := hid (Pp.out.step kW)
      replace Pq := hid (Pq.out.step kW)
      replace Ps := hid (Ps.out.step kW)
      replace G := hid (below_step G.out kW)
      replace GR := hid (below_step GR.out kW)
      have lz97 := (show Below _ _ _ from kW).size
      have PN15 : Hid (Duo V96 (D82.heap.size) (.bool false) (.slice none 0 0)) := by unfold Hid; rw [← hW]; exact duo_at rfl
      rw [hW]
      clear hW kW
      refine hK.out _ _ (fun _ => ⟨Pp.out.c0, Pp.out.c1, Pq.out.c0, Pq.out.c1, Ps.out.c0, Ps.out.c1⟩) ?_
      clear hK
      try simp only [Act.put]
      refine wpAnyT_one (i := 2) (o := { dst := some 107, op := Op.call { callee := Callee.value (Operand.func 18), args := #[Operand.tmp 105, Operand.tmp 106], argTypes := #[24, 24] }, type := 24, pos := "plain.go:132", after := #[{ on := 0, ground := Ground.data }, { on := 1, ground := Ground.data }], guard := none }) (by kernel_rfl) rfl (fun K hK => ?_)
      go_simp
      go_at_call 18
      refine (rmul_z Zp.out.zi Zq.out.zi (by decide) (by decide)).mono ?_
      rintro e w98 ⟨r0, rfl, m0, b⟩
      obtain ⟨nu, xu, adu, qu, rfl, -, -, -, -, -⟩ := id m0
      replace Za := hid (Za.out.now b)
      replace Zb := hid (Zb.out.now b)
      replace Zp := hid (Zp.out.now b)
      replace Zq := hid (Zq.out.now b)
      replace Zs := hid (Zs.out.now b)
      replace Pa := hid (Pa.out.step b)
      replace Pb := hid (Pb.out.step b)
      replace Pp := hid (Pp.out.step b)
      replace Pq := hid (Pq.out.step b)
      replace Ps := hid (Ps.out.step b)
      replace PN15 := hid (PN15.out.step b)
      replace G := hid (below_step G.out b)
      replace GR := hid (below_step GR.out b)
      have lz99 := (show Below _ _ _ from b).size
      have Zu := hid m0
      clear b m0
      refine hK.out _ _ (fun _ => ⟨Pp.out.c0, Pp.out.c1, Pq.out.c0, Pq.out.c1, Ps.out.c0, Ps.out.c1⟩) ?_
      clear hK
      refine wpAnyT_one (i := 4) (o := { dst := some 109, op := Op.call { callee := Callee.value (Operand.func 29), args := #[Operand.tmp 107, Operand.tmp 108], argTypes := #[24, 24] }, type := 24, pos := "plain.go:132", after := #[{ on := 2, ground := Ground.data }, { on := 3, ground := Ground.data }, { on := 2, ground := Ground.chain }], guard := none }) (by kernel_rfl) rfl (fun K hK => ?_)
      go_simp
      go_at_call 29
      refine (rsub_z Zu.out.zi Zs.out.zi (by decide) (by decide)).mono ?_
      rintro e w100 ⟨r0, rfl, m0, b⟩
      obtain ⟨nd, xd, add, qd, rfl, -, -, -, -, -⟩ := id m0
      replace Za := hid (Za.out.now b)
      replace Zb := hid (Zb.out.now b)
      replace Zp := hid (Zp.out.now b)
      replace Zq := hid (Zq.out.now b)
      replace Zs := hid (Zs.out.now b)
      replace Zu := hid (Zu.out.now b)
      replace Pa := hid (Pa.out.step b)
      replace Pb := hid (Pb.out.step b)
      replace Pp := hid (Pp.out.step b)
      replace Pq := hid (Pq.out.step b)
      replace Ps := hid (Ps.out.step b)
      replace PN15 := hid (PN15.out.step b)
      replace G := hid (below_step G.out b)
      replace GR := hid (below_step GR.out b)
      have lz101 := (show Below _ _ _ from b).size
      have Zd := hid m0
      clear b m0
      refine hK.out _ _ (fun _ => ⟨Pp.out.c0, Pp.out.c1, Pq.out.c0, Pq.out.c1, Ps.out.c0, Ps.out.c1⟩) ?_
      clear hK
      refine wpAnyT_one (i := 6) (o := { dst := none, op := Op.store 24 (Operand.tmp 15) (Operand.tmp 109), type := 0, pos := "plain.go:132", after := #[{ on := 5, ground := Ground.data }, { on := 4, ground := Ground.data }, { on := 4, ground := Ground.chain }, { on := 0, ground := Ground.phase }, { on := 1, ground := Ground.phase }, { on := 2, ground := Ground.phase }, { on := 3, ground := Ground.phase }, { on := 4, ground := Ground.phase }, { on := 5, ground := Ground.phase }], guard := none }) (by kernel_rfl) rfl (fun K hK => ?_)
      have cN150 := PN15.out.c0
      have cN151 := PN15.out.c1
      have fN150 := PN15.out.fz 0
      have fN151 := PN15.out.fz 1
      go_simp
      clear cN150 cN151 fN150 fN151
      obtain ⟨V102, hW⟩ : ∃ V102, (w100.setCell ⟨D82.heap.size, 0, none⟩ (.bool nd)).setCell ⟨D82.heap.size, 1, none⟩ (.slice add xd.length qd) = V102 := ⟨_, rfl⟩
      replace Za := hid ((Za.out).wk ((PN15.out).wk (.bool nd) (.slice add xd.length qd)))
      replace Zb := hid ((Zb.out).wk ((PN15.out).wk (.bool nd) (.slice add xd.length qd)))
      replace Zp := hid ((Zp.out).box (PN15.out) (.bool nd) (.slice add xd.length qd))
      replace Zq := hid ((Zq.out).box (PN15.out) (.bool nd) (.slice add xd.length qd))
      replace Zs := hid ((Zs.out).box (PN15.out) (.bool nd) (.slice add xd.length qd))
      replace Zu := hid ((Zu.out).box (PN15.out) (.bool nd) (.slice add xd.length qd))
      replace Zd := hid ((Zd.out).box (PN15.out) (.bool nd) (.slice add xd.length qd))
      replace Pa := hid ((Pa.out).box (b' := D82.heap.size) (by omega) (.bool nd) (.slice add xd.length qd))
      replace Pb := hid ((Pb.out).box (b' := D82.heap.size) (by omega) (.bool nd) (.slice add xd.length qd))
      replace Pp := hid ((Pp.out).box (b' := D82.heap.size) (by omega) (.bool nd) (.slice add xd.length qd))
      replace Pq := hid ((Pq.out).box (b' := D82.heap.size) (by omega) (.bool nd) (.slice add xd.length qd))
      replace Ps := hid ((Ps.out).box (b' := D82.heap.size) (by omega) (.bool nd) (.slice add xd.length qd))
      replace PN15 := hid ((PN15.out).set (.bool nd) (.slice add xd.length qd))
      replace G : Hid (Below w.heap.size w (((w100.setCell ⟨D82.heap.size, 0, none⟩ (.bool nd)).setCell ⟨D82.heap.size, 1, none⟩ (.slice add xd.length qd)))) := bset (bset (G.out) (by omega)) (by omega)
      replace GR : Hid (Below w80.heap.size w80 (((w100.setCell ⟨D82.heap.size, 0, none⟩ (.bool nd)).setCell ⟨D82.heap.size, 1, none⟩ (.slice add xd.length qd)))) := bset (bset (GR.out) (by omega)) (by omega)
      have sz102 : V102.heap.size = w100.heap.size := by rw [← hW]; simp
      rw [hW] at Za Zb Zp Zq Zs Zu Zd Pa Pb Pp Pq Ps PN15 G GR
      rw [hW]
      clear hW
      refine hK.out _ _ (fun h => absurd h (by decide)) ?_
      clear hK
      try simp only [Act.put]
      refine wpAnyT_done (by kernel_rfl) ?_ _
      go_wp2_with fail
      go_meet
      exact ⟨_, _, _, _, _, rfl, GR.out, by omega, PN15.out.blk, PN15.out, Zd.out.mono (by omega)⟩
  case rest => as_aux_lemma =>
  obtain ⟨bkd, nd, xd, add, qd, rfl, b, ged, ltd, p, m⟩ := hcut
  replace Za := hid (Za.out.now b)
  replace Zb := hid (Zb.out.now b)
  replace Zp := hid (Zp.out.now b)
  replace Zq := hid (Zq.out.now b)
  replace Zs := hid (Zs.out.now b)
  replace Pa := hid (Pa.out.step b)
  replace Pb := hid (Pb.out.step b)
  replace Pp := hid (Pp.out.step b)
  replace Pq := hid (Pq.out.step b)
  replace Ps := hid (Ps.out.step b)
  replace G := hid (below_step G.out b)
  have lz104 := (show Below _ _ _ from b).size
  have Zd := hid m
  have Pd := hid p
  clear b p m
  generalize wc = C104 at *
  have cb0 := Pb.out.c0
  have cb1 := Pb.out.c1
  have cd0 := Pd.out.c0
  have cd1 := Pd.out.c1
  go_wp2_with fail
  clear cb0 cb1 cd0 cd1
  refine (divides6 Zb.out Zd.out.zi (by decide) (by decide) (powers_d1 A B E F)).mono ?_
  rintro e w105 ⟨rfl, b⟩
  replace Za := hid (Za.out.now b)
  replace Zb := hid (Zb.out.now b)
  replace Zp := hid (Zp.out.now b)
  replace Zq := hid (Zq.out.now b)
  replace Zs := hid (Zs.out.now b)
  replace Zd := hid (Zd.out.now b)
  replace Pa := hid (Pa.out.step b)
  replace Pb := hid (Pb.out.step b)
  replace Pp := hid (Pp.out.step b)
  replace Pq := hid (Pq.out.step b)
  replace Ps := hid (Ps.out.step b)
  replace Pd := hid (Pd.out.step b)
  replace G := hid (below_step G.out b)
  have lz106 := (show Below _ _ _ from b).size
  clear b 
  clear Zq
  clear Zs
  clear Zd
  clear Pq
  clear Ps
  clear Pd
  go_wp2_with fail
  go_cut [16, 17] from 26 (fun s1 s2 wx => MetB w105 wx s1 (pmod (pmod A E B) F B) (1048576) ∧ s2 = .int .i64 0)
  case first => as_aux_lemma =>
    have GR : Hid (Below w105.heap.size w105 w105) := Below.refl _ _
    refine wp_region_tail (fun w' => w'.cell? ⟨bkp, 0, none⟩ = some (.bool np) ∧ w'.cell? ⟨bkp, 1, none⟩ = some (.slice adp xp.length qp) ∧ w'.cell? ⟨w.heap.size + 1, 0, none⟩ = some (.bool nb) ∧ w'.cell? ⟨w.heap.size + 1, 1, none⟩ = some (.slice adb xb.length cb)) 11 (by kernel_rfl) ?_
    obtain ⟨D107, hD⟩ : ∃ D107, w105.drew = D107 := ⟨_, rfl⟩
    have b : Below w105.heap.size w105 D107 := by rw [← hD]; exact (Below.refl _ _).drew
    rw [hD]
    clear hD
    replace Za := hid (Za.out.now b)
    replace Zb := hid (Zb.out.now b)
    replace Zp := hid (Zp.out.now b)
    replace Pa := hid (Pa.out.step b)
    replace Pb := hid (Pb.out.step b)
    replace Pp := hid (Pp.out.step b)
    replace G := hid (below_step G.out b)
    replace GR := hid (below_step GR.out b)
    have lz108 := (show Below _ _ _ from b).size
    clear b
    refine wpAnyT_take (i := 0) (oi := { dst := some 115, op := Op.load 24 (Operand.tmp 9), type := 24, pos := "plain.go:136", after := #[], guard := none }) (v := (.agg #[(.bool np), (.slice adp xp.length qp)])) rfl (by kernel_rfl) (fun _ _ _ h => h) (Or.inl ⟨by rfl, ?_⟩) ⟨Pp.out.c0, Pp.out.c1, Pb.out.c0, Pb.out.c1⟩ ?_
    · intro w hSw
      (try dsimp only at hSw)
      go_simp
    simp only [Act.put, List.setIfInBounds_toArray, List.set_cons_zero, List.set_cons_succ]
    refine wpAnyT_take (i := 1) (oi := { dst := some 116, op := Op.move (Operand.tmp 8), type := 5, pos := "plain.go:136", after := #[], guard := none }) (v := (.int .u8 (F : Int))) rfl (by kernel_rfl) (fun _ _ _ h => h) (Or.inl ⟨by rfl, ?_⟩) ⟨Pp.out.c0, Pp.out.c1, Pb.out.c0, Pb.out.c1⟩ ?_
    · intro w hSw
      (try dsimp only at hSw)
      go_simp
    simp only [Act.put, List.setIfInBounds_toArray, List.set_cons_zero, List.set_cons_succ]
    refine wpAnyT_take (i := 2) (oi := { dst := some 117, op := Op.convert 5 45 (Operand.tmp 116), type := 45, pos := "plain.go:136", after := #[{ on := 1, ground := Ground.data }], guard := none }) (v := (.int .u64 (F : Int))) rfl (by kernel_rfl) (fun _ _ _ h => h) (Or.inl ⟨by rfl, ?_⟩) ⟨Pp.out.c0, Pp.out.c1, Pb.out.c0, Pb.out.c1⟩ ?_
    · intro w hSw
      (try dsimp only at hSw)
      go_simp
    simp only [Act.put, List.setIfInBounds_toArray, List.set_cons_zero, List.set_cons_succ]
    refine wpAnyT_take (i := 4) (oi := { dst := some 119, op := Op.load 24 (Operand.tmp 4), type := 24, pos := "plain.go:136", after := #[], guard := none }) (v := (.agg #[(.bool nb), (.slice adb xb.length cb)])) rfl (by kernel_rfl) (fun _ _ _ h => h) (Or.inl ⟨by rfl, ?_⟩) ⟨Pp.out.c0, Pp.out.c1, Pb.out.c0, Pb.out.c1⟩ ?_
    · intro w hSw
      (try dsimp only at hSw)
      go_simp
    simp only [Act.put, List.setIfInBounds_toArray, List.set_cons_zero, List.set_cons_succ]
    refine wpAnyT_two (i := 3) (j := 9) (oi := { dst := some 118, op := Op.call { callee := Callee.value (Operand.func 30), args := #[Operand.tmp 117], argTypes := #[45] }, type := 24, pos := "plain.go:136", after := #[{ on := 2, ground := Ground.data }], guard := none }) (oj := { dst := some 16, op := Op.alloc 24, type := 0, pos := "plain.go:136", after := #[], guard := none }) (by kernel_rfl) rfl rfl (fun K hK => ?_) (fun K hK => ?_)
    · skip
      go_simp
      go_at_call 30
      refine (of6i (n := (F : Int)) (by omega) (by omega) _).mono ?_
      rintro e w109 ⟨r0, rfl, m0, b⟩
      obtain ⟨no, xo, ado, qo, rfl, -, -, -⟩ := id m0
      replace Za := hid (Za.out.now b)
      replace Zb := hid (Zb.out.now b)
      replace Zp := hid (Zp.out.now b)
      replace Pa := hid (Pa.out.step b)
      replace Pb := hid (Pb.out.step b)
      replace Pp := hid (Pp.out.step b)
      replace G := hid (below_step G.out b)
      replace GR := hid (below_step GR.out b)
      have lz110 := (show Below _ _ _ from b).size
      have Zo := hid m0
      clear b m0
      refine hK.out _ _ (fun _ => ⟨Pp.out.c0, Pp.out.c1, Pb.out.c0, Pb.out.c1⟩) ?_
      clear hK
      refine wpAnyT_two (i := 5) (j := 9) (oi := { dst := some 120, op := Op.call { callee := Callee.value (Operand.func 32), args := #[Operand.tmp 115, Operand.tmp 118, Operand.tmp 119], argTypes := #[24, 24, 24] }, type := 35, pos := "plain.go:136", after := #[{ on := 0, ground := Ground.data }, { on := 3, ground := Ground.data }, { on := 4, ground := Ground.data }, { on := 3, ground := Ground.chain }], guard := none }) (oj := { dst := some 16, op := Op.alloc 24, type := 0, pos := "plain.go:136", after := #[], guard := none }) (by kernel_rfl) rfl rfl (fun K hK => ?_) (fun K hK => ?_)
      · skip
        go_simp
        go_at_call 32
        refine (powMod_nat (n := F) Zp.out.zi Zo.out Zb.out (by decide) (by decide) HB.out (by decide)).mono ?_
        rintro e w111 ⟨r0, rfl, m0, b⟩
        obtain ⟨nh, xh, adh, qh, rfl, -, -, -, -, -⟩ := id m0
        replace Za := hid (Za.out.now b)
        replace Zb := hid (Zb.out.now b)
        replace Zp := hid (Zp.out.now b)
        replace Zo := hid (Zo.out.now b)
        replace Pa := hid (Pa.out.step b)
        replace Pb := hid (Pb.out.step b)
        replace Pp := hid (Pp.out.step b)
        replace G := hid (below_step G.out b)
        replace GR := hid (below_step GR.out b)
        have lz112 := (show Below _ _ _ from b).size
        have Zh := hid m0
        clear b m0
        refine hK.out _ _ (fun _ => ⟨Pp.out.c0, Pp.out.c1, Pb.out.c0, Pb.out.c1⟩) ?_
        clear hK
        refine wpAnyT_take (i := 6) (oi := { dst := some 114, op := Op.move (Operand.tmp 120), type := 35, pos := "plain.go:136", after := #[{ on := 5, ground := Ground.data }], guard := none }) (v := (.tuple #[(.agg #[.bool nh, .slice adh xh.length qh]), (.int .i64 0)])) rfl (by kernel_rfl) (fun _ _ _ h => h) (Or.inl ⟨by rfl, ?_⟩) ⟨Pp.out.c0, Pp.out.c1, Pb.out.c0, Pb.out.c1⟩ ?_
        · intro w hSw
          (try dsimp only at hSw)
          go_simp
        simp only [Act.put, List.setIfInBounds_toArray, List.set_cons_zero, List.set_cons_succ]
        refine wpAnyT_take (i := 7) (oi := { dst := some 121, op := Op.extract (Operand.tmp 114) 0, type := 24, pos := "plain.go:136", after := #[{ on := 6, ground := Ground.data }], guard := none }) (v := (.agg #[.bool nh, .slice adh xh.length qh])) rfl (by kernel_rfl) (fun _ _ _ h => h) (Or.inl ⟨by rfl, ?_⟩) ⟨Pp.out.c0, Pp.out.c1, Pb.out.c0, Pb.out.c1⟩ ?_
        · intro w hSw
          (try dsimp only at hSw)
          go_simp
        simp only [Act.put, List.setIfInBounds_toArray, List.set_cons_zero, List.set_cons_succ]
        refine wpAnyT_take (i := 8) (oi := { dst := some 122, op := Op.extract (Operand.tmp 114) 1, type := 34, pos := "plain.go:136", after := #[{ on := 6, ground := Ground.data }, { on := 10, ground := Ground.gcOnly Departure.lateStores }], guard := none }) (v := (.int .i64 0)) rfl (by kernel_rfl) (fun _ _ _ h => h) (Or.inl ⟨by rfl, ?_⟩) ⟨Pp.out.c0, Pp.out.c1, Pb.out.c0, Pb.out.c1⟩ ?_
        · intro w hSw
          (try dsimp only at hSw)
          go_simp
        simp only [Act.put, List.setIfInBounds_toArray, List.set_cons_zero, List.set_cons_succ]
        refine wpAnyT_one (i := 9) (o := { dst := some 16, op := Op.alloc 24, type := 0, pos := "plain.go:136", after := #[], guard := none }) (by kernel_rfl) rfl (fun K hK => ?_)
        go_simp
        obtain ⟨V113, hW⟩ : ∃ V113, w111.alloc zbox = V113 := ⟨_, rfl⟩
        obtain ⟨kW, sz113⟩ := alloc1 w111 zbox
        rw [hW] at kW sz113
        replace Za := hid (Za.out.now kW)
        replace Zb := hid (Zb.out.now kW)
        replace Zp := hid (Zp.out.now kW)
        replace Zo := hid (Zo.out.now kW)
        replace Zh := hid (Zh.out.now kW)
        replace Pa := hid (Pa.out.step kW)
        replace Pb := hid (Pb.out.step kW)
        replace Pp := hid (Pp.out.step kW)
        replace G := hid (below_step G.out kW)
        replace GR := hid (below_step GR.out kW)
        have lz114 := (show Below _ _ _ from kW).size
        have PN16 : Hid (Duo V113 (w111.heap.size) (.bool false) (.slice none 0 0)) := by unfold Hid; rw [← hW]; exact duo_at rfl
        rw [hW]
        clear hW kW
        refine hK.out _ _ (fun _ => ⟨Pp.out.c0, Pp.out.c1, Pb.out.c0, Pb.out.c1⟩) ?_
        clear hK
        try simp only [Act.put]
        refine wpAnyT_one (i := 10) (o := { dst := none, op := Op.store 24 (Operand.tmp 16) (Operand.tmp 121), type := 0, pos := "plain.go:136", after := #[{ on := 9, ground := Ground.data }, { on := 7, ground := Ground.data }, { on := 5, ground := Ground.chain }, { on := 0, ground := Ground.phase }, { on := 1, ground := Ground.phase }, { on := 2, ground := Ground.phase }, { on := 3, ground := Ground.phase }, { on := 4, ground := Ground.phase }, { on := 5, ground := Ground.phase }, { on := 6, ground := Ground.phase }, { on := 7, ground := Ground.phase }, { on := 8, ground := Ground.textOnly Departure.lateStores }, { on := 9, ground := Ground.phase }], guard := none }) (by kernel_rfl) rfl (fun K hK => ?_)
        have cN160 := PN16.out.c0
        have cN161 := PN16.out.c1
        have fN160 := PN16.out.fz 0
        have fN161 := PN16.out.fz 1
        go_simp
        clear cN160 cN161 fN160 fN161
        obtain ⟨V115, hW⟩ : ∃ V115, (V113.setCell ⟨w111.heap.size, 0, none⟩ (.bool nh)).setCell ⟨w111.heap.size, 1, none⟩ (.slice adh xh.length qh) = V115 := ⟨_, rfl⟩
        replace Za := hid ((Za.out).wk ((PN16.out).wk (.bool nh) (.slice adh xh.length qh)))
        replace Zb := hid ((Zb.out).wk ((PN16.out).wk (.bool nh) (.slice adh xh.length qh)))
        replace Zp := hid ((Zp.out).box (PN16.out) (.bool nh) (.slice adh xh.length qh))
        replace Zo := hid ((Zo.out).wk ((PN16.out).wk (.bool nh) (.slice adh xh.length qh)))
        replace Zh := hid ((Zh.out).box (PN16.out) (.bool nh) (.slice adh xh.length qh))
        replace Pa := hid ((Pa.out).box (b' := w111.heap.size) (by omega) (.bool nh) (.slice adh xh.length qh))
        replace Pb := hid ((Pb.out).box (b' := w111.heap.size) (by omega) (.bool nh) (.slice adh xh.length qh))
        replace Pp := hid ((Pp.out).box (b' := w111.heap.size) (by omega) (.bool nh) (.slice adh xh.length qh))
        replace PN16 := hid ((PN16.out).set (.bool nh) (.slice adh xh.length qh))
        replace G : Hid (Below w.heap.size w (((V113.setCell ⟨w111.heap.size, 0, none⟩ (.bool nh)).setCell ⟨w111.heap.size, 1, none⟩ (.slice adh xh.length qh)))) := bset (bset (G.out) (by omega)) (by omega)
        replace GR : Hid (Below w105.heap.size w105 (((V113.setCell ⟨w111.heap.size, 0, none⟩ (.bool nh)).setCell ⟨w111.heap.size, 1, none⟩ (.slice adh xh.length qh)))) := bset (bset (GR.out) (by omega)) (by omega)
        have sz115 : V115.heap.size = V113.heap.size := by rw [← hW]; simp
        rw [hW] at Za Zb Zp Zo Zh Pa Pb Pp PN16 G GR
        rw [hW]
        clear hW
        refine hK.out _ _ (fun _ => ⟨Pp.out.c0, Pp.out.c1, Pb.out.c0, Pb.out.c1⟩) ?_
        clear hK
        try simp only [Act.put]
        refine wpAnyT_one (i := 11) (o := { dst := some 17, op := Op.assign (Operand.tmp 122), type := 34, pos := "plain.go:136", after := #[{ on := 8, ground := Ground.data }, { on := 10, ground := Ground.chain }, { on := 0, ground := Ground.phase }, { on := 1, ground := Ground.phase }, { on := 2, ground := Ground.phase }, { on := 3, ground := Ground.phase }, { on := 4, ground := Ground.phase }, { on := 5, ground := Ground.phase }, { on := 6, ground := Ground.phase }, { on := 7, ground := Ground.phase }, { on := 8, ground := Ground.phase }, { on := 9, ground := Ground.phase }, { on := 10, ground := Ground.phase }], guard := none }) (by kernel_rfl) rfl (fun K hK => ?_)
        go_simp
        refine hK.out _ _ (fun h => absurd h (by decide)) ?_
        clear hK
        try simp only [Act.put]
        refine wpAnyT_done (by kernel_rfl) ?_ _
        go_wp2_with fail
        go_meet
        exact ⟨⟨_, _, _, _, _, rfl, GR.out, by omega, PN16.out.blk, PN16.out, Zh.out.mono (by omega)⟩, rfl⟩
      · skip
        go_simp
        obtain ⟨V116, hW⟩ : ∃ V116, w109.alloc zbox = V116 := ⟨_, rfl⟩
        obtain ⟨kW, sz116⟩ := alloc1 w109 zbox
        rw [hW] at kW sz116
        replace Za := hid (Za.out.now kW)
        replace Zb := hid (Zb.out.now kW)
        replace Zp := hid (Zp.out.now kW)
        replace Zo := hid (Zo.out.now kW)
        replace Pa := hid (Pa.out.step kW)
        replace Pb := hid (Pb.out.step kW)
        replace Pp := hid (Pp.out.step kW)
        replace G := hid (below_step G.out kW)
        replace GR := hid (below_step GR.out kW)
        have lz117 := (show Below _ _ _ from kW).size
        have PN16 : Hid (Duo V116 (w109.heap.size) (.bool false) (.slice none 0 0)) := by unfold Hid; rw [← hW]; exact duo_at rfl
        rw [hW]
        clear hW kW
        refine hK.out _ _ (fun _ => ⟨Pp.out.c0, Pp.out.c1, Pb.out.c0, Pb.out.c1⟩) ?_
        clear hK
        try simp only [Act.put]
        refine wpAnyT_one (i := 5) (o := { dst := some 120, op := Op.call { callee := Callee.value (Operand.func 32), args := #[Operand.tmp 115, Operand.tmp 118, Operand.tmp 119], argTypes := #[24, 24, 24] }, type := 35, pos := "plain.go:136", after := #[{ on := 0, ground := Ground.data }, { on := 3, ground := Ground.data }, { on := 4, ground := Ground.data }, { on := 3, ground := Ground.chain }], guard := none }) (by kernel_rfl) rfl (fun K hK => ?_)
        go_simp
        go_at_call 32
        refine (powMod_nat (n := F) Zp.out.zi Zo.out Zb.out (by decide) (by decide) HB.out (by decide)).mono ?_
        rintro e w118 ⟨r0, rfl, m0, b⟩
        obtain ⟨nh, xh, adh, qh, rfl, -, -, -, -, -⟩ := id m0
        replace Za := hid (Za.out.now b)
        replace Zb := hid (Zb.out.now b)
        replace Zp := hid (Zp.out.now b)
        replace Zo := hid (Zo.out.now b)
        replace Pa := hid (Pa.out.step b)
        replace Pb := hid (Pb.out.step b)
        replace Pp := hid (Pp.out.step b)
        replace PN16 := hid (PN16.out.step b)
        replace G := hid (below_step G.out b)
        replace GR := hid (below_step GR.out b)
        have lz119 := (show Below _ _ _ from b).size
        have Zh := hid m0
        clear b m0
        refine hK.out _ _ (fun _ => ⟨Pp.out.c0, Pp.out.c1, Pb.out.c0, Pb.out.c1⟩) ?_
        clear hK
        refine wpAnyT_take (i := 6) (oi := { dst := some 114, op := Op.move (Operand.tmp 120), type := 35, pos := "plain.go:136", after := #[{ on := 5, ground := Ground.data }], guard := none }) (v := (.tuple #[(.agg #[.bool nh, .slice adh xh.length qh]), (.int .i64 0)])) rfl (by kernel_rfl) (fun _ _ _ h => h) (Or.inl ⟨by rfl, ?_⟩) ⟨Pp.out.c0, Pp.out.c1, Pb.out.c0, Pb.out.c1⟩ ?_
        · intro w hSw
          (try dsimp only at hSw)
          go_simp
        simp only [Act.put, List.setIfInBounds_toArray, List.set_cons_zero, List.set_cons_succ]
        refine wpAnyT_take (i := 7) (oi := { dst := some 121, op := Op.extract (Operand.tmp 114) 0, type := 24, pos := "plain.go:136", after := #[{ on := 6, ground := Ground.data }], guard := none }) (v := (.agg #[.bool nh, .slice adh xh.length qh])) rfl (by kernel_rfl) (fun _ _ _ h => h) (Or.inl ⟨by rfl, ?_⟩) ⟨Pp.out.c0, Pp.out.c1, Pb.out.c0, Pb.out.c1⟩ ?_
        · intro w hSw
          (try dsimp only at hSw)
          go_simp
        simp only [Act.put, List.setIfInBounds_toArray, List.set_cons_zero, List.set_cons_succ]
        refine wpAnyT_take (i := 8) (oi := { dst := some 122, op := Op.extract (Operand.tmp 114) 1, type := 34, pos := "plain.go:136", after := #[{ on := 6, ground := Ground.data }, { on := 10, ground := Ground.gcOnly Departure.lateStores }], guard := none }) (v := (.int .i64 0)) rfl (by kernel_rfl) (fun _ _ _ h => h) (Or.inl ⟨by rfl, ?_⟩) ⟨Pp.out.c0, Pp.out.c1, Pb.out.c0, Pb.out.c1⟩ ?_
        · intro w hSw
          (try dsimp only at hSw)
          go_simp
        simp only [Act.put, List.setIfInBounds_toArray, List.set_cons_zero, List.set_cons_succ]
        refine wpAnyT_one (i := 10) (o := { dst := none, op := Op.store 24 (Operand.tmp 16) (Operand.tmp 121), type := 0, pos := "plain.go:136", after := #[{ on := 9, ground := Ground.data }, { on := 7, ground := Ground.data }, { on := 5, ground := Ground.chain }, { on := 0, ground := Ground.phase }, { on := 1, ground := Ground.phase }, { on := 2, ground := Ground.phase }, { on := 3, ground := Ground.phase }, { on := 4, ground := Ground.phase }, { on := 5, ground := Ground.phase }, { on := 6, ground := Ground.phase }, { on := 7, ground := Ground.phase }, { on := 8, ground := Ground.textOnly Departure.lateStores }, { on := 9, ground := Ground.phase }], guard := none }) (by kernel_rfl) rfl (fun K hK => ?_)
        have cN160 := PN16.out.c0
        have cN161 := PN16.out.c1
        have fN160 := PN16.out.fz 0
        have fN161 := PN16.out.fz 1
        go_simp
        clear cN160 cN161 fN160 fN161
        obtain ⟨V120, hW⟩ : ∃ V120, (w118.setCell ⟨w109.heap.size, 0, none⟩ (.bool nh)).setCell ⟨w109.heap.size, 1, none⟩ (.slice adh xh.length qh) = V120 := ⟨_, rfl⟩
        replace Za := hid ((Za.out).wk ((PN16.out).wk (.bool nh) (.slice adh xh.length qh)))
        replace Zb := hid ((Zb.out).wk ((PN16.out).wk (.bool nh) (.slice adh xh.length qh)))
        replace Zp := hid ((Zp.out).box (PN16.out) (.bool nh) (.slice adh xh.length qh))
        replace Zo := hid ((Zo.out).wk ((PN16.out).wk (.bool nh) (.slice adh xh.length qh)))
        replace Zh := hid ((Zh.out).box (PN16.out) (.bool nh) (.slice adh xh.length qh))
        replace Pa := hid ((Pa.out).box (b' := w109.heap.size) (by omega) (.bool nh) (.slice adh xh.length qh))
        replace Pb := hid ((Pb.out).box (b' := w109.heap.size) (by omega) (.bool nh) (.slice adh xh.length qh))
        replace Pp := hid ((Pp.out).box (b' := w109.heap.size) (by omega) (.bool nh) (.slice adh xh.length qh))
        replace PN16 := hid ((PN16.out).set (.bool nh) (.slice adh xh.length qh))
        replace G : Hid (Below w.heap.size w (((w118.setCell ⟨w109.heap.size, 0, none⟩ (.bool nh)).setCell ⟨w109.heap.size, 1, none⟩ (.slice adh xh.length qh)))) := bset (bset (G.out) (by omega)) (by omega)
        replace GR : Hid (Below w105.heap.size w105 (((w118.setCell ⟨w109.heap.size, 0, none⟩ (.bool nh)).setCell ⟨w109.heap.size, 1, none⟩ (.slice adh xh.length qh)))) := bset (bset (GR.out) (by omega)) (by omega)
        have sz120 : V120.heap.size = w118.heap.size := by rw [← hW]; simp
        rw [hW] at Za Zb Zp Zo Zh Pa Pb Pp PN16 G GR
        rw [hW]
        clear hW
        refine hK.out _ _ (fun _ => ⟨Pp.out.c0, Pp.out.c1, Pb.out.c0, Pb.out.c1⟩) ?_
        clear hK
        try simp only [Act.put]
        refine wpAnyT_one (i := 11) (o := { dst := some 17, op := Op.assign (Operand.tmp 122), type := 34, pos := "plain.go:136", after := #[{ on := 8, ground := Ground.data }, { on := 10, ground := Ground.chain }, { on := 0, ground := Ground.phase }, { on := 1, ground := Ground.phase }, { on := 2, ground := Ground.phase }, { on := 3, ground := Ground.phase }, { on := 4, ground := Ground.phase }, { on := 5, ground := Ground.phase }, { on := 6, ground := Ground.phase }, { on := 7, ground := Ground.phase }, { on := 8, ground := Ground.phase }, { on := 9, ground := Ground.phase }, { on := 10, ground := Ground.phase }], guard := none }) (by kernel_rfl) rfl (fun K hK => ?_)
        go_simp
        refine hK.out _ _ (fun h => absurd h (by decide)) ?_
        clear hK
        try simp only [Act.put]
        refine wpAnyT_done (by kernel_rfl) ?_ _
        go_wp2_with fail
        go_meet
        exact ⟨⟨_, _, _, _, _, rfl, GR.out, by omega, PN16.out.blk, PN16.out, Zh.out.mono (by omega)⟩, rfl⟩
    · skip
      go_simp
      obtain ⟨V121, hW⟩ : ∃ V121, D107.alloc zbox = V121 := ⟨_, rfl⟩
      obtain ⟨kW, sz121⟩ := alloc1 D107 zbox
      rw [hW] at kW sz121
      replace Za := hid (Za.out.now kW)
      replace Zb := hid (Zb.out.now kW)
      replace Zp := hid (Zp.out.now kW)
      replace Pa := hid (Pa.out.step kW)
      replace Pb := hid (Pb.out.step kW)
      replace Pp := hid (Pp.out.step kW)
      replace G := hid (below_step G.out kW)
      replace GR := hid (below_step GR.out kW)
      have lz122 := (show Below _ _ _ from kW).size
      have PN16 : Hid (Duo V121 (D107.heap.size) (.bool false) (.slice none 0 0)) := by unfold Hid; rw [← hW]; exact duo_at rfl
      rw [hW]
      clear hW kW
      refine hK.out _ _ (fun _ => ⟨Pp.out.c0, Pp.out.c1, Pb.out.c0, Pb.out.c1⟩) ?_
      clear hK
      try simp only [Act.put]
      refine wpAnyT_one (i := 3) (o := { dst := some 118, op := Op.call { callee := Callee.value (Operand.func 30), args := #[Operand.tmp 117], argTypes := #[45] }, type := 24, pos := "plain.go:136", after := #[{ on := 2, ground := Ground.data }], guard := none }) (by kernel_rfl) rfl (fun K hK => ?_)
      go_simp
      go_at_call 30
      refine (of6i (n := (F : Int)) (by omega) (by omega) _).mono ?_
      rintro e w123 ⟨r0, rfl, m0, b⟩
      obtain ⟨no, xo, ado, qo, rfl, -, -, -⟩ := id m0
      replace Za := hid (Za.out.now b)
      replace Zb := hid (Zb.out.now b)
      replace Zp := hid (Zp.out.now b)
      replace Pa := hid (Pa.out.step b)
      replace Pb := hid (Pb.out.step b)
      replace Pp := hid (Pp.out.step b)
      replace PN16 := hid (PN16.out.step b)
      replace G := hid (below_step G.out b)
      replace GR := hid (below_step GR.out b)
      have lz124 := (show Below _ _ _ from b).size
      have Zo := hid m0
      clear b m0
      refine hK.out _ _ (fun _ => ⟨Pp.out.c0, Pp.out.c1, Pb.out.c0, Pb.out.c1⟩) ?_
      clear hK
      refine wpAnyT_one (i := 5) (o := { dst := some 120, op := Op.call { callee := Callee.value (Operand.func 32), args := #[Operand.tmp 115, Operand.tmp 118, Operand.tmp 119], argTypes := #[24, 24, 24] }, type := 35, pos := "plain.go:136", after := #[{ on := 0, ground := Ground.data }, { on := 3, ground := Ground.data }, { on := 4, ground := Ground.data }, { on := 3, ground := Ground.chain }], guard := none }) (by kernel_rfl) rfl (fun K hK => ?_)
      go_simp
      go_at_call 32
      refine (powMod_nat (n := F) Zp.out.zi Zo.out Zb.out (by decide) (by decide) HB.out (by decide)).mono ?_
      rintro e w125 ⟨r0, rfl, m0, b⟩
      obtain ⟨nh, xh, adh, qh, rfl, -, -, -, -, -⟩ := id m0
      replace Za := hid (Za.out.now b)
      replace Zb := hid (Zb.out.now b)
      replace Zp := hid (Zp.out.now b)
      replace Zo := hid (Zo.out.now b)
      replace Pa := hid (Pa.out.step b)
      replace Pb := hid (Pb.out.step b)
      replace Pp := hid (Pp.out.step b)
      replace PN16 := hid (PN16.out.step b)
      replace G := hid (below_step G.out b)
      replace GR := hid (below_step GR.out b)
      have lz126 := (show Below _ _ _ from b).size
      have Zh := hid m0
      clear b m0
      refine hK.out _ _ (fun _ => ⟨Pp.out.c0, Pp.out.c1, Pb.out.c0, Pb.out.c1⟩) ?_
      clear hK
      refine wpAnyT_take (i := 6) (oi := { dst := some 114, op := Op.move (Operand.tmp 120), type := 35, pos := "plain.go:136", after := #[{ on := 5, ground := Ground.data }], guard := none }) (v := (.tuple #[(.agg #[.bool nh, .slice adh xh.length qh]), (.int .i64 0)])) rfl (by kernel_rfl) (fun _ _ _ h => h) (Or.inl ⟨by rfl, ?_⟩) ⟨Pp.out.c0, Pp.out.c1, Pb.out.c0, Pb.out.c1⟩ ?_
      · intro w hSw
        (try dsimp only at hSw)
        go_simp
      simp only [Act.put, List.setIfInBounds_toArray, List.set_cons_zero, List.set_cons_succ]
      refine wpAnyT_take (i := 7) (oi := { dst := some 121, op := Op.extract (Operand.tmp 114) 0, type := 24, pos := "plain.go:136", after := #[{ on := 6, ground := Ground.data }], guard := none }) (v := (.agg #[.bool nh, .slice adh xh.length qh])) rfl (by kernel_rfl) (fun _ _ _ h => h) (Or.inl ⟨by rfl, ?_⟩) ⟨Pp.out.c0, Pp.out.c1, Pb.out.c0, Pb.out.c1⟩ ?_
      · intro w hSw
        (try dsimp only at hSw)
        go_simp
      simp only [Act.put, List.setIfInBounds_toArray, List.set_cons_zero, List.set_cons_succ]
      refine wpAnyT_take (i := 8) (oi := { dst := some 122, op := Op.extract (Operand.tmp 114) 1, type := 34, pos := "plain.go:136", after := #[{ on := 6, ground := Ground.data }, { on := 10, ground := Ground.gcOnly Departure.lateStores }], guard := none }) (v := (.int .i64 0)) rfl (by kernel_rfl) (fun _ _ _ h => h) (Or.inl ⟨by rfl, ?_⟩) ⟨Pp.out.c0, Pp.out.c1, Pb.out.c0, Pb.out.c1⟩ ?_
      · intro w hSw
        (try dsimp only at hSw)
        go_simp
      simp only [Act.put, List.setIfInBounds_toArray, List.set_cons_zero, List.set_cons_succ]
      refine wpAnyT_one (i := 10) (o := { dst := none, op := Op.store 24 (Operand.tmp 16) (Operand.tmp 121), type := 0, pos := "plain.go:136", after := #[{ on := 9, ground := Ground.data }, { on := 7, ground := Ground.data }, { on := 5, ground := Ground.chain }, { on := 0, ground := Ground.phase }, { on := 1, ground := Ground.phase }, { on := 2, ground := Ground.phase }, { on := 3, ground := Ground.phase }, { on := 4, ground := Ground.phase }, { on := 5, ground := Ground.phase }, { on := 6, ground := Ground.phase }, { on := 7, ground := Ground.phase }, { on := 8, ground := Ground.textOnly Departure.lateStores }, { on := 9, ground := Ground.phase }], guard := none }) (by kernel_rfl) rfl (fun K hK => ?_)
      have cN160 := PN16.out.c0
      have cN161 := PN16.out.c1
      have fN160 := PN16.out.fz 0
      have fN161 := PN16.out.fz 1
      go_simp
      clear cN160 cN161 fN160 fN161
      obtain ⟨V127, hW⟩ : ∃ V127, (w125.setCell ⟨D107.heap.size, 0, none⟩ (.bool nh)).setCell ⟨D107.heap.size, 1, none⟩ (.slice adh xh.length qh) = V127 := ⟨_, rfl⟩
      replace Za := hid ((Za.out).wk ((PN16.out).wk (.bool nh) (.slice adh xh.length qh)))
      replace Zb := hid ((Zb.out).wk ((PN16.out).wk (.bool nh) (.slice adh xh.length qh)))
      replace Zp := hid ((Zp.out).box (PN16.out) (.bool nh) (.slice adh xh.length qh))
      replace Zo := hid ((Zo.out).wk ((PN16.out).wk (.bool nh) (.slice adh xh.length qh)))
      replace Zh := hid ((Zh.out).box (PN16.out) (.bool nh) (.slice adh xh.length qh))
      replace Pa := hid ((Pa.out).box (b' := D107.heap.size) (by omega) (.bool nh) (.slice adh xh.length qh))
      replace Pb := hid ((Pb.out).box (b' := D107.heap.size) (by omega) (.bool nh) (.slice adh xh.length qh))
      replace Pp := hid ((Pp.out).box (b' := D107.heap.size) (by omega) (.bool nh) (.slice adh xh.length qh))
      replace PN16 := hid ((PN16.out).set (.bool nh) (.slice adh xh.length qh))
      replace G : Hid (Below w.heap.size w (((w125.setCell ⟨D107.heap.size, 0, none⟩ (.bool nh)).setCell ⟨D107.heap.size, 1, none⟩ (.slice adh xh.length qh)))) := bset (bset (G.out) (by omega)) (by omega)
      replace GR : Hid (Below w105.heap.size w105 (((w125.setCell ⟨D107.heap.size, 0, none⟩ (.bool nh)).setCell ⟨D107.heap.size, 1, none⟩ (.slice adh xh.length qh)))) := bset (bset (GR.out) (by omega)) (by omega)
      have sz127 : V127.heap.size = w125.heap.size := by rw [← hW]; simp
      rw [hW] at Za Zb Zp Zo Zh Pa Pb Pp PN16 G GR
      rw [hW]
      clear hW
      refine hK.out _ _ (fun _ => ⟨Pp.out.c0, Pp.out.c1, Pb.out.c0, Pb.out.c1⟩) ?_
      clear hK
      try simp only [Act.put]
      refine wpAnyT_one (i := 11) (o := { dst := some 17, op := Op.assign (Operand.tmp 122), type := 34, pos := "plain.go:136", after := #[{ on := 8, ground := Ground.data }, { on := 10, ground := Ground.chain }, { on := 0, ground := Ground.phase }, { on := 1, ground := Ground.phase }, { on := 2, ground := Ground.phase }, { on := 3, ground := Ground.phase }, { on := 4, ground := Ground.phase }, { on := 5, ground := Ground.phase }, { on := 6, ground := Ground.phase }, { on := 7, ground := Ground.phase }, { on := 8, ground := Ground.phase }, { on := 9, ground := Ground.phase }, { on := 10, ground := Ground.phase }], guard := none }) (by kernel_rfl) rfl (fun K hK => ?_)
      go_simp
      refine hK.out _ _ (fun h => absurd h (by decide)) ?_
      clear hK
      try simp only [Act.put]
      refine wpAnyT_done (by kernel_rfl) ?_ _
      go_wp2_with fail
      go_meet
      exact ⟨⟨_, _, _, _, _, rfl, GR.out, by omega, PN16.out.blk, PN16.out, Zh.out.mono (by omega)⟩, rfl⟩
  case rest => as_aux_lemma =>
  obtain ⟨⟨bkh, nh, xh, adh, qh, rfl, b, geh, lth, p, m⟩, rfl⟩ := hcut
  replace Za := hid (Za.out.now b)
  replace Zb := hid (Zb.out.now b)
  replace Zp := hid (Zp.out.now b)
  replace Pa := hid (Pa.out.step b)
  replace Pb := hid (Pb.out.step b)
  replace Pp := hid (Pp.out.step b)
  replace G := hid (below_step G.out b)
  have lz129 := (show Below _ _ _ from b).size
  have Zh := hid m
  have Ph := hid p
  clear b p m
  generalize wc = C129 at *
  go_wp2_with fail
  go_cut [18, 19] from 26 (fun s1 s2 wx => MetB C129 wx s1 (pmod A (E * F) B) (1048576) ∧ s2 = .int .i64 0)
  case first => as_aux_lemma =>
    have GR : Hid (Below C129.heap.size C129 C129) := Below.refl _ _
    refine wp_region_tail (fun w' => w'.cell? ⟨w.heap.size, 0, none⟩ = some (.bool na) ∧ w'.cell? ⟨w.heap.size, 1, none⟩ = some (.slice ada xa.length ca) ∧ w'.cell? ⟨w.heap.size + 1, 0, none⟩ = some (.bool nb) ∧ w'.cell? ⟨w.heap.size + 1, 1, none⟩ = some (.slice adb xb.length cb)) 14 (by kernel_rfl) ?_
    obtain ⟨D130, hD⟩ : ∃ D130, C129.drew = D130 := ⟨_, rfl⟩
    have b : Below C129.heap.size C129 D130 := by rw [← hD]; exact (Below.refl _ _).drew
    rw [hD]
    clear hD
    replace Za := hid (Za.out.now b)
    replace Zb := hid (Zb.out.now b)
    replace Zp := hid (Zp.out.now b)
    replace Zh := hid (Zh.out.now b)
    replace Pa := hid (Pa.out.step b)
    replace Pb := hid (Pb.out.step b)
    replace Pp := hid (Pp.out.step b)
    replace Ph := hid (Ph.out.step b)
    replace G := hid (below_step G.out b)
    replace GR := hid (below_step GR.out b)
    have lz131 := (show Below _ _ _ from b).size
    clear b
    refine wpAnyT_take (i := 0) (oi := { dst := some 124, op := Op.load 24 (Operand.tmp 3), type := 24, pos := "plain.go:137", after := #[], guard := none }) (v := (.agg #[(.bool na), (.slice ada xa.length ca)])) rfl (by kernel_rfl) (fun _ _ _ h => h) (Or.inl ⟨by rfl, ?_⟩) ⟨Pa.out.c0, Pa.out.c1, Pb.out.c0, Pb.out.c1⟩ ?_
    · intro w hSw
      (try dsimp only at hSw)
      go_simp
    simp only [Act.put, List.setIfInBounds_toArray, List.set_cons_zero, List.set_cons_succ]
    refine wpAnyT_take (i := 1) (oi := { dst := some 125, op := Op.move (Operand.tmp 7), type := 5, pos := "plain.go:137", after := #[], guard := none }) (v := (.int .u8 (E : Int))) rfl (by kernel_rfl) (fun _ _ _ h => h) (Or.inl ⟨by rfl, ?_⟩) ⟨Pa.out.c0, Pa.out.c1, Pb.out.c0, Pb.out.c1⟩ ?_
    · intro w hSw
      (try dsimp only at hSw)
      go_simp
    simp only [Act.put, List.setIfInBounds_toArray, List.set_cons_zero, List.set_cons_succ]
    refine wpAnyT_take (i := 2) (oi := { dst := some 126, op := Op.convert 5 45 (Operand.tmp 125), type := 45, pos := "plain.go:137", after := #[{ on := 1, ground := Ground.data }], guard := none }) (v := (.int .u64 (E : Int))) rfl (by kernel_rfl) (fun _ _ _ h => h) (Or.inl ⟨by rfl, ?_⟩) ⟨Pa.out.c0, Pa.out.c1, Pb.out.c0, Pb.out.c1⟩ ?_
    · intro w hSw
      (try dsimp only at hSw)
      go_simp
    simp only [Act.put, List.setIfInBounds_toArray, List.set_cons_zero, List.set_cons_succ]
    refine wpAnyT_take (i := 3) (oi := { dst := some 127, op := Op.move (Operand.tmp 8), type := 5, pos := "plain.go:137", after := #[], guard := none }) (v := (.int .u8 (F : Int))) rfl (by kernel_rfl) (fun _ _ _ h => h) (Or.inl ⟨by rfl, ?_⟩) ⟨Pa.out.c0, Pa.out.c1, Pb.out.c0, Pb.out.c1⟩ ?_
    · intro w hSw
      (try dsimp only at hSw)
      go_simp
    simp only [Act.put, List.setIfInBounds_toArray, List.set_cons_zero, List.set_cons_succ]
    refine wpAnyT_take (i := 4) (oi := { dst := some 128, op := Op.convert 5 45 (Operand.tmp 127), type := 45, pos := "plain.go:137", after := #[{ on := 3, ground := Ground.data }], guard := none }) (v := (.int .u64 (F : Int))) rfl (by kernel_rfl) (fun _ _ _ h => h) (Or.inl ⟨by rfl, ?_⟩) ⟨Pa.out.c0, Pa.out.c1, Pb.out.c0, Pb.out.c1⟩ ?_
    · intro w hSw
      (try dsimp only at hSw)
      go_simp
    simp only [Act.put, List.setIfInBounds_toArray, List.set_cons_zero, List.set_cons_succ]
    refine wpAnyT_take (i := 5) (oi := { dst := some 129, op := Op.binOp BinOp.mul 45 (Operand.tmp 126) (Operand.tmp 128) 45, type := 45, pos := "plain.go:137", after := #[{ on := 2, ground := Ground.data }, { on := 4, ground := Ground.data }], guard := none }) (v := (.int .u64 ((E * F : Nat) : Int))) rfl (by kernel_rfl) (fun _ _ _ h => h) (Or.inl ⟨by rfl, ?_⟩) ⟨Pa.out.c0, Pa.out.c1, Pb.out.c0, Pb.out.c1⟩ ?_
    · intro w hSw
      (try dsimp only at hSw)
      go_simp
    simp only [Act.put, List.setIfInBounds_toArray, List.set_cons_zero, List.set_cons_succ]
    refine wpAnyT_take (i := 7) (oi := { dst := some 131, op := Op.load 24 (Operand.tmp 4), type := 24, pos := "plain.go:137", after := #[], guard := none }) (v := (.agg #[(.bool nb), (.slice adb xb.length cb)])) rfl (by kernel_rfl) (fun _ _ _ h => h) (Or.inl ⟨by rfl, ?_⟩) ⟨Pa.out.c0, Pa.out.c1, Pb.out.c0, Pb.out.c1⟩ ?_
    · intro w hSw
      (try dsimp only at hSw)
      go_simp
    simp only [Act.put, List.setIfInBounds_toArray, List.set_cons_zero, List.set_cons_succ]
    refine wpAnyT_two (i := 6) (j := 12) (oi := { dst := some 130, op := Op.call { callee := Callee.value (Operand.func 30), args := #[Operand.tmp 129], argTypes := #[45] }, type := 24, pos := "plain.go:137", after := #[{ on := 5, ground := Ground.data }], guard := none }) (oj := { dst := some 18, op := Op.alloc 24, type := 0, pos := "plain.go:137", after := #[], guard := none }) (by kernel_rfl) rfl rfl (fun K hK => ?_) (fun K hK => ?_)
    · skip
      go_simp
      go_at_call 30
      refine (of6i (n := ((E * F : Nat) : Int)) (by omega) (by omega) _).mono ?_
      rintro e w132 ⟨r0, rfl, m0, b⟩
      obtain ⟨no, xo, ado, qo, rfl, -, -, -⟩ := id m0
      replace Za := hid (Za.out.now b)
      replace Zb := hid (Zb.out.now b)
      replace Zp := hid (Zp.out.now b)
      replace Zh := hid (Zh.out.now b)
      replace Pa := hid (Pa.out.step b)
      replace Pb := hid (Pb.out.step b)
      replace Pp := hid (Pp.out.step b)
      replace Ph := hid (Ph.out.step b)
      replace G := hid (below_step G.out b)
      replace GR := hid (below_step GR.out b)
      have lz133 := (show Below _ _ _ from b).size
      have Zo := hid m0
      clear b m0
      refine hK.out _ _ (fun _ => ⟨Pa.out.c0, Pa.out.c1, Pb.out.c0, Pb.out.c1⟩) ?_
      clear hK
      refine wpAnyT_two (i := 8) (j := 12) (oi := { dst := some 132, op := Op.call { callee := Callee.value (Operand.func 32), args := #[Operand.tmp 124, Operand.tmp 130, Operand.tmp 131], argTypes := #[24, 24, 24] }, type := 35, pos := "plain.go:137", after := #[{ on := 0, ground := Ground.data }, { on := 6, ground := Ground.data }, { on := 7, ground := Ground.data }, { on := 6, ground := Ground.chain }], guard := none }) (oj := { dst := some 18, op := Op.alloc 24, type := 0, pos := "plain.go:137", after := #[], guard := none }) (by kernel_rfl) rfl rfl (fun K hK => ?_) (fun K hK => ?_)
      · skip
        go_simp
        go_at_call 32
        refine (powMod_nat (n := E * F) Za.out Zo.out Zb.out (by decide) (by decide) HB.out (by decide)).mono ?_
        rintro e w134 ⟨r0, rfl, m0, b⟩
        obtain ⟨nv, xv, adv, qv, rfl, -, -, -, -, -⟩ := id m0
        replace Za := hid (Za.out.now b)
        replace Zb := hid (Zb.out.now b)
        replace Zp := hid (Zp.out.now b)
        replace Zh := hid (Zh.out.now b)
        replace Zo := hid (Zo.out.now b)
        replace Pa := hid (Pa.out.step b)
        replace Pb := hid (Pb.out.step b)
        replace Pp := hid (Pp.out.step b)
        replace Ph := hid (Ph.out.step b)
        replace G := hid (below_step G.out b)
        replace GR := hid (below_step GR.out b)
        have lz135 := (show Below _ _ _ from b).size
        have Zv := hid m0
        clear b m0
        refine hK.out _ _ (fun _ => ⟨Pa.out.c0, Pa.out.c1, Pb.out.c0, Pb.out.c1⟩) ?_
        clear hK
        refine wpAnyT_take (i := 9) (oi := { dst := some 123, op := Op.move (Operand.tmp 132), type := 35, pos := "plain.go:137", after := #[{ on := 8, ground := Ground.data }], guard := none }) (v := (.tuple #[(.agg #[.bool nv, .slice adv xv.length qv]), (.int .i64 0)])) rfl (by kernel_rfl) (fun _ _ _ h => h) (Or.inl ⟨by rfl, ?_⟩) ⟨Pa.out.c0, Pa.out.c1, Pb.out.c0, Pb.out.c1⟩ ?_
        · intro w hSw
          (try dsimp only at hSw)
          go_simp
        simp only [Act.put, List.setIfInBounds_toArray, List.set_cons_zero, List.set_cons_succ]
        refine wpAnyT_take (i := 10) (oi := { dst := some 133, op := Op.extract (Operand.tmp 123) 0, type := 24, pos := "plain.go:137", after := #[{ on := 9, ground := Ground.data }], guard := none }) (v := (.agg #[.bool nv, .slice adv xv.length qv])) rfl (by kernel_rfl) (fun _ _ _ h => h) (Or.inl ⟨by rfl, ?_⟩) ⟨Pa.out.c0, Pa.out.c1, Pb.out.c0, Pb.out.c1⟩ ?_
        · intro w hSw
          (try dsimp only at hSw)
          go_simp
        simp only [Act.put, List.setIfInBounds_toArray, List.set_cons_zero, List.set_cons_succ]
        refine wpAnyT_take (i := 11) (oi := { dst := some 134, op := Op.extract (Operand.tmp 123) 1, type := 34, pos := "plain.go:137", after := #[{ on := 9, ground := Ground.data }, { on := 13, ground := Ground.gcOnly Departure.lateStores }], guard := none }) (v := (.int .i64 0)) rfl (by kernel_rfl) (fun _ _ _ h => h) (Or.inl ⟨by rfl, ?_⟩) ⟨Pa.out.c0, Pa.out.c1, Pb.out.c0, Pb.out.c1⟩ ?_
        · intro w hSw
          (try dsimp only at hSw)
          go_simp
        simp only [Act.put, List.setIfInBounds_toArray, List.set_cons_zero, List.set_cons_succ]
        refine wpAnyT_one (i := 12) (o := { dst := some 18, op := Op.alloc 24, type := 0, pos := "plain.go:137", after := #[], guard := none }) (by kernel_rfl) rfl (fun K hK => ?_)
        go_simp
        obtain ⟨V136, hW⟩ : ∃ V136, w134.alloc zbox = V136 := ⟨_, rfl⟩
        obtain ⟨kW, sz136⟩ := alloc1 w134 zbox
        rw [hW] at kW sz136
        replace Za := hid (Za.out.now kW)
        replace Zb := hid (Zb.out.now kW)
        replace Zp := hid (Zp.out.now kW)
        replace Zh := hid (Zh.out.now kW)
        replace Zo := hid (Zo.out.now kW)
        replace Zv := hid (Zv.out.now kW)
        replace Pa := hid (Pa.out.step kW)
        replace Pb := hid (Pb.out.step kW)
        replace Pp := hid (Pp.out.step kW)
        replace Ph := hid (Ph.out.step kW)
        replace G := hid (below_step G.out kW)
        replace GR := hid (below_step GR.out kW)
        have lz137 := (show Below _ _ _ from kW).size
        have PN18 : Hid (Duo V136 (w134.heap.size) (.bool false) (.slice none 0 0)) := by unfold Hid; rw [← hW]; exact duo_at rfl
        rw [hW]
        clear hW kW
        refine hK.out _ _ (fun _ => ⟨Pa.out.c0, Pa.out.c1, Pb.out.c0, Pb.out.c1⟩) ?_
        clear hK
        try simp only [Act.put]
        refine wpAnyT_one (i := 13) (o := { dst := none, op := Op.store 24 (Operand.tmp 18) (Operand.tmp 133), type := 0, pos := "plain.go:137", after := #[{ on := 12, ground := Ground.data }, { on := 10, ground := Ground.data }, { on := 8, ground := Ground.chain }, { on := 0, ground := Ground.phase }, { on := 1, ground := Ground.phase }, { on := 2, ground := Ground.phase }, { on := 3, ground := Ground.phase }, { on := 4, ground := Ground.phase }, { on := 5, ground := Ground.phase }, { on := 6, ground := Ground.phase }, { on := 7, ground := Ground.phase }, { on := 8, ground := Ground.phase }, { on := 9, ground := Ground.phase }, { on := 10, ground := Ground.phase }, { on := 11, ground := Ground.textOnly Departure.lateStores }, { on := 12, ground := Ground.phase }], guard := none }) (by kernel_rfl) rfl (fun K hK => ?_)
        have cN180 := PN18.out.c0
        have cN181 := PN18.out.c1
        have fN180 := PN18.out.fz 0
        have fN181 := PN18.out.fz 1
        go_simp
        clear cN180 cN181 fN180 fN181
        obtain ⟨V138, hW⟩ : ∃ V138, (V136.setCell ⟨w134.heap.size, 0, none⟩ (.bool nv)).setCell ⟨w134.heap.size, 1, none⟩ (.slice adv xv.length qv) = V138 := ⟨_, rfl⟩
        replace Za := hid ((Za.out).wk ((PN18.out).wk (.bool nv) (.slice adv xv.length qv)))
        replace Zb := hid ((Zb.out).wk ((PN18.out).wk (.bool nv) (.slice adv xv.length qv)))
        replace Zp := hid ((Zp.out).box (PN18.out) (.bool nv) (.slice adv xv.length qv))
        replace Zh := hid ((Zh.out).box (PN18.out) (.bool nv) (.slice adv xv.length qv))
        replace Zo := hid ((Zo.out).wk ((PN18.out).wk (.bool nv) (.slice adv xv.length qv)))
        replace Zv := hid ((Zv.out).box (PN18.out) (.bool nv) (.slice adv xv.length qv))
        replace Pa := hid ((Pa.out).box (b' := w134.heap.size) (by omega) (.bool nv) (.slice adv xv.length qv))
        replace Pb := hid ((Pb.out).box (b' := w134.heap.size) (by omega) (.bool nv) (.slice adv xv.length qv))
        replace Pp := hid ((Pp.out).box (b' := w134.heap.size) (by omega) (.bool nv) (.slice adv xv.length qv))
        replace Ph := hid ((Ph.out).box (b' := w134.heap.size) (by omega) (.bool nv) (.slice adv xv.length qv))
        replace PN18 := hid ((PN18.out).set (.bool nv) (.slice adv xv.length qv))
        replace G : Hid (Below w.heap.size w (((V136.setCell ⟨w134.heap.size, 0, none⟩ (.bool nv)).setCell ⟨w134.heap.size, 1, none⟩ (.slice adv xv.length qv)))) := bset (bset (G.out) (by omega)) (by omega)
        replace GR : Hid (Below C129.heap.size C129 (((V136.setCell ⟨w134.heap.size, 0, none⟩ (.bool nv)).setCell ⟨w134.heap.size, 1, none⟩ (.slice adv xv.length qv)))) := bset (bset (GR.out) (by omega)) (by omega)
        have sz138 : V138.heap.size = V136.heap.size := by rw [← hW]; simp
        rw [hW] at Za Zb Zp Zh Zo Zv Pa Pb Pp Ph PN18 G GR
        rw [hW]
        clear hW
        refine hK.out _ _ (fun _ => ⟨Pa.out.c0, Pa.out.c1, Pb.out.c0, Pb.out.c1⟩) ?_
        clear hK
        try simp only [Act.put]
        refine wpAnyT_one (i := 14) (o := { dst := some 19, op := Op.assign (Operand.tmp 134), type := 34, pos := "plain.go:137", after := #[{ on := 11, ground := Ground.data }, { on := 13, ground := Ground.chain }, { on := 0, ground := Ground.phase }, { on := 1, ground := Ground.phase }, { on := 2, ground := Ground.phase }, { on := 3, ground := Ground.phase }, { on := 4, ground := Ground.phase }, { on := 5, ground := Ground.phase }, { on := 6, ground := Ground.phase }, { on := 7, ground := Ground.phase }, { on := 8, ground := Ground.phase }, { on := 9, ground := Ground.phase }, { on := 10, ground := Ground.phase }, { on := 11, ground := Ground.phase }, { on := 12, ground := Ground.phase }, { on := 13, ground := Ground.phase }], guard := none }) (by kernel_rfl) rfl (fun K hK => ?_)
        go_simp
        refine hK.out _ _ (fun h => absurd h (by decide)) ?_
        clear hK
        try simp only [Act.put]
        refine wpAnyT_done (by kernel_rfl) ?_ _
        go_wp2_with fail
        go_meet
        exact ⟨⟨_, _, _, _, _, rfl, GR.out, by omega, PN18.out.blk, PN18.out, Zv.out.mono (by omega)⟩, rfl⟩
      · skip
        go_simp
        obtain ⟨V139, hW⟩ : ∃ V139, w132.alloc zbox = V139 := ⟨_, rfl⟩
        obtain ⟨kW, sz139⟩ := alloc1 w132 zbox
        rw [hW] at kW sz139
        replace Za := hid (Za.out.now kW)
        replace Zb := hid (Zb.out.now kW)
        replace Zp := hid (Zp.out.now kW)
        replace Zh := hid (Zh.out.now kW)
        replace Zo := hid (Zo.out.now kW)
        replace Pa := hid (Pa.out.step kW)
        replace Pb := hid (Pb.out.step kW)
        replace Pp := hid (Pp.out.step kW)
        replace Ph := hid (Ph.out.step kW)
        replace G := hid (below_step G.out kW)
        replace GR := hid (below_step GR.out kW)
        have lz140 := (show Below _ _ _ from kW).size
        have PN18 : Hid (Duo V139 (w132.heap.size) (.bool false) (.slice none 0 0)) := by unfold Hid; rw [← hW]; exact duo_at rfl
        rw [hW]
        clear hW kW
        refine hK.out _ _ (fun _ => ⟨Pa.out.c0, Pa.out.c1, Pb.out.c0, Pb.out.c1⟩) ?_
        clear hK
        try simp only [Act.put]
        refine wpAnyT_one (i := 8) (o := { dst := some 132, op := Op.call { callee := Callee.value (Operand.func 32), args := #[Operand.tmp 124, Operand.tmp 130, Operand.tmp 131], argTypes := #[24, 24, 24] }, type := 35, pos := "plain.go:137", after := #[{ on := 0, ground := Ground.data }, { on := 6, ground := Ground.data }, { on := 7, ground := Ground.data }, { on := 6, ground := Ground.chain }], guard := none }) (by kernel_rfl) rfl (fun K hK => ?_)
        go_simp
        go_at_call 32
        refine (powMod_nat (n := E * F) Za.out Zo.out Zb.out (by decide) (by decide) HB.out (by decide)).mono ?_
        rintro e w141 ⟨r0, rfl, m0, b⟩
        obtain ⟨nv, xv, adv, qv, rfl, -, -, -, -, -⟩ := id m0
        replace Za := hid (Za.out.now b)
        replace Zb := hid (Zb.out.now b)
        replace Zp := hid (Zp.out.now b)
        replace Zh := hid (Zh.out.now b)
        replace Zo := hid (Zo.out.now b)
        replace Pa := hid (Pa.out.step b)
        replace Pb := hid (Pb.out.step b)
        replace Pp := hid (Pp.out.step b)
        replace Ph := hid (Ph.out.step b)
        replace PN18 := hid (PN18.out.step b)
        replace G := hid (below_step G.out b)
        replace GR := hid (below_step GR.out b)
        have lz142 := (show Below _ _ _ from b).size
        have Zv := hid m0
        clear b m0
        refine hK.out _ _ (fun _ => ⟨Pa.out.c0, Pa.out.c1, Pb.out.c0, Pb.out.c1⟩) ?_
        clear hK
        refine wpAnyT_take (i := 9) (oi := { dst := some 123, op := Op.move (Operand.tmp 132), type := 35, pos := "plain.go:137", after := #[{ on := 8, ground := Ground.data }], guard := none }) (v := (.tuple #[(.agg #[.bool nv, .slice adv xv.length qv]), (.int .i64 0)])) rfl (by kernel_rfl) (fun _ _ _ h => h) (Or.inl ⟨by rfl, ?_⟩) ⟨Pa.out.c0, Pa.out.c1, Pb.out.c0, Pb.out.c1⟩ ?_
        · intro w hSw
          (try dsimp only at hSw)
          go_simp
        simp only [Act.put, List.setIfInBounds_toArray, List.set_cons_zero, List.set_cons_succ]
        refine wpAnyT_take (i := 10) (oi := { dst := some 133, op := Op.extract (Operand.tmp 123) 0, type := 24, pos := "plain.go:137", after := #[{ on := 9, ground := Ground.data }], guard := none }) (v := (.agg #[.bool nv, .slice adv xv.length qv])) rfl (by kernel_rfl) (fun _ _ _ h => h) (Or.inl ⟨by rfl, ?_⟩) ⟨Pa.out.c0, Pa.out.c1, Pb.out.c0, Pb.out.c1⟩ ?_
        · intro w hSw
          (try dsimp only at hSw)
          go_simp
        simp only [Act.put, List.setIfInBounds_toArray, List.set_cons_zero, List.set_cons_succ]
        refine wpAnyT_take (i := 11) (oi := { dst := some 134, op := Op.extract (Operand.tmp 123) 1, type := 34, pos := "plain.go:137", after := #[{ on := 9, ground := Ground.data }, { on := 13, ground := Ground.gcOnly Departure.lateStores }], guard := none }) (v := (.int .i64 0)) rfl (by kernel_rfl) (fun _ _ _ h => h) (Or.inl ⟨by rfl, ?_⟩) ⟨Pa.out.c0, Pa.out.c1, Pb.out.c0, Pb.out.c1⟩ ?_
        · intro w hSw
          (try dsimp only at hSw)
          go_simp
        simp only [Act.put, List.setIfInBounds_toArray, List.set_cons_zero, List.set_cons_succ]
        refine wpAnyT_one (i := 13) (o := { dst := none, op := Op.store 24 (Operand.tmp 18) (Operand.tmp 133), type := 0, pos := "plain.go:137", after := #[{ on := 12, ground := Ground.data }, { on := 10, ground := Ground.data }, { on := 8, ground := Ground.chain }, { on := 0, ground := Ground.phase }, { on := 1, ground := Ground.phase }, { on := 2, ground := Ground.phase }, { on := 3, ground := Ground.phase }, { on := 4, ground := Ground.phase }, { on := 5, ground := Ground.phase }, { on := 6, ground := Ground.phase }, { on := 7, ground := Ground.phase }, { on := 8, ground := Ground.phase }, { on := 9, ground := Ground.phase }, { on := 10, ground := Ground.phase }, { on := 11, ground := Ground.textOnly Departure.lateStores }, { on := 12, ground := Ground.phase }], guard := none }) (by kernel_rfl) rfl (fun K hK => ?_)
        have cN180 := PN18.out.c0
        have cN181 := PN18.out.c1
        have fN180 := PN18.out.fz 0
        have fN181 := PN18.out.fz 1
        go_simp
        clear cN180 cN181 fN180 fN181
        obtain ⟨V143, hW⟩ : ∃ V143, (w141.setCell ⟨w132.heap.size, 0, none⟩ (.bool nv)).setCell ⟨w132.heap.size, 1, none⟩ (.slice adv xv.length qv) = V143 := ⟨_, rfl⟩
        replace Za := hid ((Za.out).wk ((PN18.out).wk (.bool nv) (.slice adv xv.length qv)))
        replace Zb := hid ((Zb.out).wk ((PN18.out).wk (.bool nv) (.slice adv xv.length qv)))
        replace Zp := hid ((Zp.out).box (PN18.out) (.bool nv) (.slice adv xv.length qv))
        replace Zh := hid ((Zh.out).box (PN18.out) (.bool nv) (.slice adv xv.length qv))
        replace Zo := hid ((Zo.out).wk ((PN18.out).wk (.bool nv) (.slice adv xv.length qv)))
        replace Zv := hid ((Zv.out).box (PN18.out) (.bool nv) (.slice adv xv.length qv))
        replace Pa := hid ((Pa.out).box (b' := w132.heap.size) (by omega) (.bool nv) (.slice adv xv.length qv))
        replace Pb := hid ((Pb.out).box (b' := w132.heap.size) (by omega) (.bool nv) (.slice adv xv.length qv))
        replace Pp := hid ((Pp.out).box (b' := w132.heap.size) (by omega) (.bool nv) (.slice adv xv.length qv))
        replace Ph := hid ((Ph.out).box (b' := w132.heap.size) (by omega) (.bool nv) (.slice adv xv.length qv))
        replace PN18 := hid ((PN18.out).set (.bool nv) (.slice adv xv.length qv))
        replace G : Hid (Below w.heap.size w (((w141.setCell ⟨w132.heap.size, 0, none⟩ (.bool nv)).setCell ⟨w132.heap.size, 1, none⟩ (.slice adv xv.length qv)))) := bset (bset (G.out) (by omega)) (by omega)
        replace GR : Hid (Below C129.heap.size C129 (((w141.setCell ⟨w132.heap.size, 0, none⟩ (.bool nv)).setCell ⟨w132.heap.size, 1, none⟩ (.slice adv xv.length qv)))) := bset (bset (GR.out) (by omega)) (by omega)
        have sz143 : V143.heap.size = w141.heap.size := by rw [← hW]; simp
        rw [hW] at Za Zb Zp Zh Zo Zv Pa Pb Pp Ph PN18 G GR
        rw [hW]
        clear hW
        refine hK.out _ _ (fun _ => ⟨Pa.out.c0, Pa.out.c1, Pb.out.c0, Pb.out.c1⟩) ?_
        clear hK
        try simp only [Act.put]
        refine wpAnyT_one (i := 14) (o := { dst := some 19, op := Op.assign (Operand.tmp 134), type := 34, pos := "plain.go:137", after := #[{ on := 11, ground := Ground.data }, { on := 13, ground := Ground.chain }, { on := 0, ground := Ground.phase }, { on := 1, ground := Ground.phase }, { on := 2, ground := Ground.phase }, { on := 3, ground := Ground.phase }, { on := 4, ground := Ground.phase }, { on := 5, ground := Ground.phase }, { on := 6, ground := Ground.phase }, { on := 7, ground := Ground.phase }, { on := 8, ground := Ground.phase }, { on := 9, ground := Ground.phase }, { on := 10, ground := Ground.phase }, { on := 11, ground := Ground.phase }, { on := 12, ground := Ground.phase }, { on := 13, ground := Ground.phase }], guard := none }) (by kernel_rfl) rfl (fun K hK => ?_)
        go_simp
        refine hK.out _ _ (fun h => absurd h (by decide)) ?_
        clear hK
        try simp only [Act.put]
        refine wpAnyT_done (by kernel_rfl) ?_ _
        go_wp2_with fail
        go_meet
        exact ⟨⟨_, _, _, _, _, rfl, GR.out, by omega, PN18.out.blk, PN18.out, Zv.out.mono (by omega)⟩, rfl⟩
    · skip
      go_simp
      obtain ⟨V144, hW⟩ : ∃ V144, D130.alloc zbox = V144 := ⟨_, rfl⟩
      obtain ⟨kW, sz144⟩ := alloc1 D130 zbox
      rw [hW] at kW sz144
      replace Za := hid (Za.out.now kW)
      replace Zb := hid (Zb.out.now kW)
      replace Zp := hid (Zp.out.now kW)
      replace Zh := hid (Zh.out.now kW)
      replace Pa := hid (Pa.out.step kW)
      replace Pb := hid (Pb.out.step kW)
      replace Pp := hid (Pp.out.step kW)
      replace Ph := hid (Ph.out.step kW)
      replace G := hid (below_step G.out kW)
      replace GR := hid (below_step GR.out kW)
      have lz145 := (show Below _ _ _ from kW).size
      have PN18 : Hid (Duo V144 (D130.heap.size) (.bool false) (.slice none 0 0)) := by unfold Hid; rw [← hW]; exact duo_at rfl
      rw [hW]
      clear hW kW
      refine hK.out _ _ (fun _ => ⟨Pa.out.c0, Pa.out.c1, Pb.out.c0, Pb.out.c1⟩) ?_
      clear hK
      try simp only [Act.put]
      refine wpAnyT_one (i := 6) (o := { dst := some 130, op := Op.call { callee := Callee.value (Operand.func 30), args := #[Operand.tmp 129], argTypes := #[45] }, type := 24, pos := "plain.go:137", after := #[{ on := 5, ground := Ground.data }], guard := none }) (by kernel_rfl) rfl (fun K hK => ?_)
      go_simp
      go_at_call 30
      refine (of6i (n := ((E * F : Nat) : Int)) (by omega) (by omega) _).mono ?_
      rintro e w146 ⟨r0, rfl, m0, b⟩
      obtain ⟨no, xo, ado, qo, rfl, -, -, -⟩ := id m0
      replace Za := hid (Za.out.now b)
      replace Zb := hid (Zb.out.now b)
      replace Zp := hid (Zp.out.now b)
      replace Zh := hid (Zh.out.now b)
      replace Pa := hid (Pa.out.step b)
      replace Pb := hid (Pb.out.step b)
      replace Pp := hid (Pp.out.step b)
      replace Ph := hid (Ph.out.step b)
      replace PN18 := hid (PN18.out.step b)
      replace G := hid (below_step G.out b)
      replace GR := hid (below_step GR.out b)
      have lz147 := (show Below _ _ _ from b).size
      have Zo := hid m0
      clear b m0
      refine hK.out _ _ (fun _ => ⟨Pa.out.c0, Pa.out.c1, Pb.out.c0, Pb.out.c1⟩) ?_
      clear hK
      refine wpAnyT_one (i := 8) (o := { dst := some 132, op := Op.call { callee := Callee.value (Operand.func 32), args := #[Operand.tmp 124, Operand.tmp 130, Operand.tmp 131], argTypes := #[24, 24, 24] }, type := 35, pos := "plain.go:137", after := #[{ on := 0, ground := Ground.data }, { on := 6, ground := Ground.data }, { on := 7, ground := Ground.data }, { on := 6, ground := Ground.chain }], guard := none }) (by kernel_rfl) rfl (fun K hK => ?_)
      go_simp
      go_at_call 32
      refine (powMod_nat (n := E * F) Za.out Zo.out Zb.out (by decide) (by decide) HB.out (by decide)).mono ?_
      rintro e w148 ⟨r0, rfl, m0, b⟩
      obtain ⟨nv, xv, adv, qv, rfl, -, -, -, -, -⟩ := id m0
      replace Za := hid (Za.out.now b)
      replace Zb := hid (Zb.out.now b)
      replace Zp := hid (Zp.out.now b)
      replace Zh := hid (Zh.out.now b)
      replace Zo := hid (Zo.out.now b)
      replace Pa := hid (Pa.out.step b)
      replace Pb := hid (Pb.out.step b)
      replace Pp := hid (Pp.out.step b)
      replace Ph := hid (Ph.out.step b)
      replace PN18 := hid (PN18.out.step b)
      replace G := hid (below_step G.out b)
      replace GR := hid (below_step GR.out b)
      have lz149 := (show Below _ _ _ from b).size
      have Zv := hid m0
      clear b m0
      refine hK.out _ _ (fun _ => ⟨Pa.out.c0, Pa.out.c1, Pb.out.c0, Pb.out.c1⟩) ?_
      clear hK
      refine wpAnyT_take (i := 9) (oi := { dst := some 123, op := Op.move (Operand.tmp 132), type := 35, pos := "plain.go:137", after := #[{ on := 8, ground := Ground.data }], guard := none }) (v := (.tuple #[(.agg #[.bool nv, .slice adv xv.length qv]), (.int .i64 0)])) rfl (by kernel_rfl) (fun _ _ _ h => h) (Or.inl ⟨by rfl, ?_⟩) ⟨Pa.out.c0, Pa.out.c1, Pb.out.c0, Pb.out.c1⟩ ?_
      · intro w hSw
        (try dsimp only at hSw)
        go_simp
      simp only [Act.put, List.setIfInBounds_toArray, List.set_cons_zero, List.set_cons_succ]
      refine wpAnyT_take (i := 10) (oi := { dst := some 133, op := Op.extract (Operand.tmp 123) 0, type := 24, pos := "plain.go:137", after := #[{ on := 9, ground := Ground.data }], guard := none }) (v := (.agg #[.bool nv, .slice adv xv.length qv])) rfl (by kernel_rfl) (fun _ _ _ h => h) (Or.inl ⟨by rfl, ?_⟩) ⟨Pa.out.c0, Pa.out.c1, Pb.out.c0, Pb.out.c1⟩ ?_
      · intro w hSw
        (try dsimp only at hSw)
        go_simp
      simp only [Act.put, List.setIfInBounds_toArray, List.set_cons_zero, List.set_cons_succ]
      refine wpAnyT_take (i := 11) (oi := { dst := some 134, op := Op.extract (Operand.tmp 123) 1, type := 34, pos := "plain.go:137", after := #[{ on := 9, ground := Ground.data }, { on := 13, ground := Ground.gcOnly Departure.lateStores }], guard := none }) (v := (.int .i64 0)) rfl (by kernel_rfl) (fun _ _ _ h => h) (Or.inl ⟨by rfl, ?_⟩) ⟨Pa.out.c0, Pa.out.c1, Pb.out.c0, Pb.out.c1⟩ ?_
      · intro w hSw
        (try dsimp only at hSw)
        go_simp
      simp only [Act.put, List.setIfInBounds_toArray, List.set_cons_zero, List.set_cons_succ]
      refine wpAnyT_one (i := 13) (o := { dst := none, op := Op.store 24 (Operand.tmp 18) (Operand.tmp 133), type := 0, pos := "plain.go:137", after := #[{ on := 12, ground := Ground.data }, { on := 10, ground := Ground.data }, { on := 8, ground := Ground.chain }, { on := 0, ground := Ground.phase }, { on := 1, ground := Ground.phase }, { on := 2, ground := Ground.phase }, { on := 3, ground := Ground.phase }, { on := 4, ground := Ground.phase }, { on := 5, ground := Ground.phase }, { on := 6, ground := Ground.phase }, { on := 7, ground := Ground.phase }, { on := 8, ground := Ground.phase }, { on := 9, ground := Ground.phase }, { on := 10, ground := Ground.phase }, { on := 11, ground := Ground.textOnly Departure.lateStores }, { on := 12, ground := Ground.phase }], guard := none }) (by kernel_rfl) rfl (fun K hK => ?_)
      have cN180 := PN18.out.c0
      have cN181 := PN18.out.c1
      have fN180 := PN18.out.fz 0
      have fN181 := PN18.out.fz 1
      go_simp
      clear cN180 cN181 fN180 fN181
      obtain ⟨V150, hW⟩ : ∃ V150, (w148.setCell ⟨D130.heap.size, 0, none⟩ (.bool nv)).setCell ⟨D130.heap.size, 1, none⟩ (.slice adv xv.length qv) = V150 := ⟨_, rfl⟩
      replace Za := hid ((Za.out).wk ((PN18.out).wk (.bool nv) (.slice adv xv.length qv)))
      replace Zb := hid ((Zb.out).wk ((PN18.out).wk (.bool nv) (.slice adv xv.length qv)))
      replace Zp := hid ((Zp.out).box (PN18.out) (.bool nv) (.slice adv xv.length qv))
      replace Zh := hid ((Zh.out).box (PN18.out) (.bool nv) (.slice adv xv.length qv))
      replace Zo := hid ((Zo.out).wk ((PN18.out).wk (.bool nv) (.slice adv xv.length qv)))
      replace Zv := hid ((Zv.out).box (PN18.out) (.bool nv) (.slice adv xv.length qv))
      replace Pa := hid ((Pa.out).box (b' := D130.heap.size) (by omega) (.bool nv) (.slice adv xv.length qv))
      replace Pb := hid ((Pb.out).box (b' := D130.heap.size) (by omega) (.bool nv) (.slice adv xv.length qv))
      replace Pp := hid ((Pp.out).box (b' := D130.heap.size) (by omega) (.bool nv) (.slice adv xv.length qv))
      replace Ph := hid ((Ph.out).box (b' := D130.heap.size) (by omega) (.bool nv) (.slice adv xv.length qv))
      replace PN18 := hid ((PN18.out).set (.bool nv) (.slice adv xv.length qv))
      replace G : Hid (Below w.heap.size w (((w148.setCell ⟨D130.heap.size, 0, none⟩ (.bool nv)).setCell ⟨D130.heap.size, 1, none⟩ (.slice adv xv.length qv)))) := bset (bset (G.out) (by omega)) (by omega)
      replace GR : Hid (Below C129.heap.size C129 (((w148.setCell ⟨D130.heap.size, 0, none⟩ (.bool nv)).setCell ⟨D130.heap.size, 1, none⟩ (.slice adv xv.length qv)))) := bset (bset (GR.out) (by omega)) (by omega)
      have sz150 : V150.heap.size = w148.heap.size := by rw [← hW]; simp
      rw [hW] at Za Zb Zp Zh Zo Zv Pa Pb Pp Ph PN18 G GR
      rw [hW]
      clear hW
      refine hK.out _ _ (fun _ => ⟨Pa.out.c0, Pa.out.c1, Pb.out.c0, Pb.out.c1⟩) ?_
      clear hK
      try simp only [Act.put]
      refine wpAnyT_one (i := 14) (o := { dst := some 19, op := Op.assign (Operand.tmp 134), type := 34, pos := "plain.go:137", after := #[{ on := 11, ground := Ground.data }, { on := 13, ground := Ground.chain }, { on := 0, ground := Ground.phase }, { on := 1, ground := Ground.phase }, { on := 2, ground := Ground.phase }, { on := 3, ground := Ground.phase }, { on := 4, ground := Ground.phase }, { on := 5, ground := Ground.phase }, { on := 6, ground := Ground.phase }, { on := 7, ground := Ground.phase }, { on := 8, ground := Ground.phase }, { on := 9, ground := Ground.phase }, { on := 10, ground := Ground.phase }, { on := 11, ground := Ground.phase }, { on := 12, ground := Ground.phase }, { on := 13, ground := Ground.phase }], guard := none }) (by kernel_rfl) rfl (fun K hK => ?_)
      go_simp
      refine hK.out _ _ (fun h => absurd h (by decide)) ?_
      clear hK
      try simp only [Act.put]
      refine wpAnyT_done (by kernel_rfl) ?_ _
      go_wp2_with fail
      go_meet
      exact ⟨⟨_, _, _, _, _, rfl, GR.out, by omega, PN18.out.blk, PN18.out, Zv.out.mono (by omega)⟩, rfl⟩
  case rest => as_aux_lemma =>
  obtain ⟨⟨bkv, nv, xv, adv, qv, rfl, b, gev, ltv, p, m⟩, rfl⟩ := hcut
  replace Za := hid (Za.out.now b)
  replace Zb := hid (Zb.out.now b)
  replace Zp := hid (Zp.out.now b)
  replace Zh := hid (Zh.out.now b)
  replace Pa := hid (Pa.out.step b)
  replace Pb := hid (Pb.out.step b)
  replace Pp := hid (Pp.out.step b)
  replace Ph := hid (Ph.out.step b)
  replace G := hid (below_step G.out b)
  have lz152 := (show Below _ _ _ from b).size
  have Zv := hid m
  have Pv := hid p
  clear b p m
  generalize wc = C152 at *
  have ch0 := Ph.out.c0
  have ch1 := Ph.out.c1
  have cv0 := Pv.out.c0
  have cv1 := Pv.out.c1
  go_wp2_with fail
  clear ch0 ch1 cv0 cv1
  refine (alike6_yes Zh.out.zc Zv.out.zc (pmod_pmod A E F B)).mono ?_
  rintro e w153 ⟨rfl, b⟩
  replace Za := hid (Za.out.now b)
  replace Zb := hid (Zb.out.now b)
  replace Zp := hid (Zp.out.now b)
  replace Zh := hid (Zh.out.now b)
  replace Zv := hid (Zv.out.now b)
  replace Pa := hid (Pa.out.step b)
  replace Pb := hid (Pb.out.step b)
  replace Pp := hid (Pp.out.step b)
  replace Ph := hid (Ph.out.step b)
  replace Pv := hid (Pv.out.step b)
  replace G := hid (below_step G.out b)
  have lz154 := (show Below _ _ _ from b).size
  clear b 
  clear Zh
  clear Zv
  clear Zp
  clear Ph
  clear Pv
  clear Pp
  go_wp2_with fail
  go_cut [20, 21] from 26 (fun s1 s2 wx => MetB w153 wx s1 (pmod A 0 B) (1048576) ∧ s2 = .int .i64 0)
  case first => as_aux_lemma =>
    have GR : Hid (Below w153.heap.size w153 w153) := Below.refl _ _
    refine wp_region_tail (fun w' => w'.cell? ⟨w.heap.size, 0, none⟩ = some (.bool na) ∧ w'.cell? ⟨w.heap.size, 1, none⟩ = some (.slice ada xa.length ca) ∧ w'.cell? ⟨w.heap.size + 1, 0, none⟩ = some (.bool nb) ∧ w'.cell? ⟨w.heap.size + 1, 1, none⟩ = some (.slice adb xb.length cb)) 9 (by kernel_rfl) ?_
    obtain ⟨D155, hD⟩ : ∃ D155, w153.drew = D155 := ⟨_, rfl⟩
    have b : Below w153.heap.size w153 D155 := by rw [← hD]; exact (Below.refl _ _).drew
    rw [hD]
    clear hD
    replace Za := hid (Za.out.now b)
    replace Zb := hid (Zb.out.now b)
    replace Pa := hid (Pa.out.step b)
    replace Pb := hid (Pb.out.step b)
    replace G := hid (below_step G.out b)
    replace GR := hid (below_step GR.out b)
    have lz156 := (show Below _ _ _ from b).size
    clear b
    refine wpAnyT_take (i := 0) (oi := { dst := some 148, op := Op.load 24 (Operand.tmp 3), type := 24, pos := "plain.go:141", after := #[], guard := none }) (v := (.agg #[(.bool na), (.slice ada xa.length ca)])) rfl (by kernel_rfl) (fun _ _ _ h => h) (Or.inl ⟨by rfl, ?_⟩) ⟨Pa.out.c0, Pa.out.c1, Pb.out.c0, Pb.out.c1⟩ ?_
    · intro w hSw
      (try dsimp only at hSw)
      go_simp
    simp only [Act.put, List.setIfInBounds_toArray, List.set_cons_zero, List.set_cons_succ]
    refine wpAnyT_take (i := 2) (oi := { dst := some 150, op := Op.load 24 (Operand.tmp 4), type := 24, pos := "plain.go:141", after := #[], guard := none }) (v := (.agg #[(.bool nb), (.slice adb xb.length cb)])) rfl (by kernel_rfl) (fun _ _ _ h => h) (Or.inl ⟨by rfl, ?_⟩) ⟨Pa.out.c0, Pa.out.c1, Pb.out.c0, Pb.out.c1⟩ ?_
    · intro w hSw
      (try dsimp only at hSw)
      go_simp
    simp only [Act.put, List.setIfInBounds_toArray, List.set_cons_zero, List.set_cons_succ]
    refine wpAnyT_two (i := 1) (j := 7) (oi := { dst := some 149, op := Op.call { callee := Callee.value (Operand.func 30), args := #[Operand.const (Value.int IntKind.u64 0)], argTypes := #[45] }, type := 24, pos := "plain.go:141", after := #[], guard := none }) (oj := { dst := some 20, op := Op.alloc 24, type := 0, pos := "plain.go:141", after := #[], guard := none }) (by kernel_rfl) rfl rfl (fun K hK => ?_) (fun K hK => ?_)
    · skip
      go_simp
      go_at_call 30
      refine (of6i (n := 0) (by omega) (by omega) _).mono ?_
      rintro e w157 ⟨r0, rfl, m0, b⟩
      obtain ⟨no, xo, ado, qo, rfl, -, -, -⟩ := id m0
      replace Za := hid (Za.out.now b)
      replace Zb := hid (Zb.out.now b)
      replace Pa := hid (Pa.out.step b)
      replace Pb := hid (Pb.out.step b)
      replace G := hid (below_step G.out b)
      replace GR := hid (below_step GR.out b)
      have lz158 := (show Below _ _ _ from b).size
      have Zo := hid m0
      clear b m0
      refine hK.out _ _ (fun _ => ⟨Pa.out.c0, Pa.out.c1, Pb.out.c0, Pb.out.c1⟩) ?_
      clear hK
      refine wpAnyT_two (i := 3) (j := 7) (oi := { dst := some 151, op := Op.call { callee := Callee.value (Operand.func 32), args := #[Operand.tmp 148, Operand.tmp 149, Operand.tmp 150], argTypes := #[24, 24, 24] }, type := 35, pos := "plain.go:141", after := #[{ on := 0, ground := Ground.data }, { on := 1, ground := Ground.data }, { on := 2, ground := Ground.data }, { on := 1, ground := Ground.chain }], guard := none }) (oj := { dst := some 20, op := Op.alloc 24, type := 0, pos := "plain.go:141", after := #[], guard := none }) (by kernel_rfl) rfl rfl (fun K hK => ?_) (fun K hK => ?_)
      · skip
        go_simp
        go_at_call 32
        refine (powMod_nat (n := 0) Za.out Zo.out Zb.out (by decide) (by decide) HB.out (by decide)).mono ?_
        rintro e w159 ⟨r0, rfl, m0, b⟩
        obtain ⟨ng, xg, adg, qg, rfl, -, -, -, -, -⟩ := id m0
        replace Za := hid (Za.out.now b)
        replace Zb := hid (Zb.out.now b)
        replace Zo := hid (Zo.out.now b)
        replace Pa := hid (Pa.out.step b)
        replace Pb := hid (Pb.out.step b)
        replace G := hid (below_step G.out b)
        replace GR := hid (below_step GR.out b)
        have lz160 := (show Below _ _ _ from b).size
        have Zg := hid m0
        clear b m0
        refine hK.out _ _ (fun _ => ⟨Pa.out.c0, Pa.out.c1, Pb.out.c0, Pb.out.c1⟩) ?_
        clear hK
        refine wpAnyT_take (i := 4) (oi := { dst := some 147, op := Op.move (Operand.tmp 151), type := 35, pos := "plain.go:141", after := #[{ on := 3, ground := Ground.data }], guard := none }) (v := (.tuple #[(.agg #[.bool ng, .slice adg xg.length qg]), (.int .i64 0)])) rfl (by kernel_rfl) (fun _ _ _ h => h) (Or.inl ⟨by rfl, ?_⟩) ⟨Pa.out.c0, Pa.out.c1, Pb.out.c0, Pb.out.c1⟩ ?_
        · intro w hSw
          (try dsimp only at hSw)
          go_simp
        simp only [Act.put, List.setIfInBounds_toArray, List.set_cons_zero, List.set_cons_succ]
        refine wpAnyT_take (i := 5) (oi := { dst := some 152, op := Op.extract (Operand.tmp 147) 0, type := 24, pos := "plain.go:141", after := #[{ on := 4, ground := Ground.data }], guard := none }) (v := (.agg #[.bool ng, .slice adg xg.length qg])) rfl (by kernel_rfl) (fun _ _ _ h => h) (Or.inl ⟨by rfl, ?_⟩) ⟨Pa.out.c0, Pa.out.c1, Pb.out.c0, Pb.out.c1⟩ ?_
        · intro w hSw
          (try dsimp only at hSw)
          go_simp
        simp only [Act.put, List.setIfInBounds_toArray, List.set_cons_zero, List.set_cons_succ]
        refine wpAnyT_take (i := 6) (oi := { dst := some 153, op := Op.extract (Operand.tmp 147) 1, type := 34, pos := "plain.go:141", after := #[{ on := 4, ground := Ground.data }, { on := 8, ground := Ground.gcOnly Departure.lateStores }], guard := none }) (v := (.int .i64 0)) rfl (by kernel_rfl) (fun _ _ _ h => h) (Or.inl ⟨by rfl, ?_⟩) ⟨Pa.out.c0, Pa.out.c1, Pb.out.c0, Pb.out.c1⟩ ?_
        · intro w hSw
          (try dsimp only at hSw)
          go_simp
        simp only [Act.put, List.setIfInBounds_toArray, List.set_cons_zero, List.set_cons_succ]
        refine wpAnyT_one (i := 7) (o := { dst := some 20, op := Op.alloc 24, type := 0, pos := "plain.go:141", after := #[], guard := none }) (by kernel_rfl) rfl (fun K hK => ?_)
        go_simp
        obtain ⟨V161, hW⟩ : ∃ V161, w159.alloc zbox = V161 := ⟨_, rfl⟩
        obtain ⟨kW, sz161⟩ := alloc1 w159 zbox
        rw [hW] at kW sz161
        replace Za := hid (Za.out.now kW)
        replace Zb := hid (Zb.out.now kW)
        replace Zo := hid (Zo.out.now kW)
        replace Zg := hid (Zg.out.now kW)
        replace Pa := hid (Pa.out.step kW)
        replace Pb := hid (Pb.out.step kW)
        replace G := hid (below_step G.out kW)
        replace GR := hid (below_step GR.out kW)
        have lz162 := (show Below _ _ _ from kW).size
        have PN20 : Hid (Duo V161 (w159.heap.size) (.bool false) (.slice none 0 0)) := by unfold Hid; rw [← hW]; exact duo_at rfl
        rw [hW]
        clear hW kW
        refine hK.out _ _ (fun _ => ⟨Pa.out.c0, Pa.out.c1, Pb.out.c0, Pb.out.c1⟩) ?_
        clear hK
        try simp only [Act.put]
        refine wpAnyT_one (i := 8) (o := { dst := none, op := Op.store 24 (Operand.tmp 20) (Operand.tmp 152), type := 0, pos := "plain.go:141", after := #[{ on := 7, ground := Ground.data }, { on := 5, ground := Ground.data }, { on := 3, ground := Ground.chain }, { on := 0, ground := Ground.phase }, { on := 1, ground := Ground.phase }, { on := 2, ground := Ground.phase }, { on := 3, ground := Ground.phase }, { on := 4, ground := Ground.phase }, { on := 5, ground := Ground.phase }, { on := 6, ground := Ground.textOnly Departure.lateStores }, { on := 7, ground := Ground.phase }], guard := none }) (by kernel_rfl) rfl (fun K hK => ?_)
        have cN200 := PN20.out.c0
        have cN201 := PN20.out.c1
        have fN200 := PN20.out.fz 0
        have fN201 := PN20.out.fz 1
        go_simp
        clear cN200 cN201 fN200 fN201
        obtain ⟨V163, hW⟩ : ∃ V163, (V161.setCell ⟨w159.heap.size, 0, none⟩ (.bool ng)).setCell ⟨w159.heap.size, 1, none⟩ (.slice adg xg.length qg) = V163 := ⟨_, rfl⟩
        replace Za := hid ((Za.out).wk ((PN20.out).wk (.bool ng) (.slice adg xg.length qg)))
        replace Zb := hid ((Zb.out).wk ((PN20.out).wk (.bool ng) (.slice adg xg.length qg)))
        replace Zo := hid ((Zo.out).wk ((PN20.out).wk (.bool ng) (.slice adg xg.length qg)))
        replace Zg := hid ((Zg.out).box (PN20.out) (.bool ng) (.slice adg xg.length qg))
        replace Pa := hid ((Pa.out).box (b' := w159.heap.size) (by omega) (.bool ng) (.slice adg xg.length qg))
        replace Pb := hid ((Pb.out).box (b' := w159.heap.size) (by omega) (.bool ng) (.slice adg xg.length qg))
        replace PN20 := hid ((PN20.out).set (.bool ng) (.slice adg xg.length qg))
        replace G : Hid (Below w.heap.size w (((V161.setCell ⟨w159.heap.size, 0, none⟩ (.bool ng)).setCell ⟨w159.heap.size, 1, none⟩ (.slice adg xg.length qg)))) := bset (bset (G.out) (by omega)) (by omega)
        replace GR : Hid (Below w153.heap.size w153 (((V161.setCell ⟨w159.heap.size, 0, none⟩ (.bool ng)).setCell ⟨w159.heap.size, 1, none⟩ (.slice adg xg.length qg)))) := bset (bset (GR.out) (by omega)) (by omega)
        have sz163 : V163.heap.size = V161.heap.size := by rw [← hW]; simp
        rw [hW] at Za Zb Zo Zg Pa Pb PN20 G GR
        rw [hW]
        clear hW
        refine hK.out _ _ (fun _ => ⟨Pa.out.c0, Pa.out.c1, Pb.out.c0, Pb.out.c1⟩) ?_
        clear hK
        try simp only [Act.put]
        refine wpAnyT_one (i := 9) (o := { dst := some 21, op := Op.assign (Operand.tmp 153), type := 34, pos := "plain.go:141", after := #[{ on := 6, ground := Ground.data }, { on := 8, ground := Ground.chain }, { on := 0, ground := Ground.phase }, { on := 1, ground := Ground.phase }, { on := 2, ground := Ground.phase }, { on := 3, ground := Ground.phase }, { on := 4, ground := Ground.phase }, { on := 5, ground := Ground.phase }, { on := 6, ground := Ground.phase }, { on := 7, ground := Ground.phase }, { on := 8, ground := Ground.phase }], guard := none }) (by kernel_rfl) rfl (fun K hK => ?_)
        go_simp
        refine hK.out _ _ (fun h => absurd h (by decide)) ?_
        clear hK
        try simp only [Act.put]
        refine wpAnyT_done (by kernel_rfl) ?_ _
        go_wp2_with fail
        go_meet
        exact ⟨⟨_, _, _, _, _, rfl, GR.out, by omega, PN20.out.blk, PN20.out, Zg.out.mono (by omega)⟩, rfl⟩
      · skip
        go_simp
        obtain ⟨V164, hW⟩ : ∃ V164, w157.alloc zbox = V164 := ⟨_, rfl⟩
        obtain ⟨kW, sz164⟩ := alloc1 w157 zbox
        rw [hW] at kW sz164
        replace Za := hid (Za.out.now kW)
        replace Zb := hid (Zb.out.now kW)
        replace Zo := hid (Zo.out.now kW)
        replace Pa := hid (Pa.out.step kW)
        replace Pb := hid (Pb.out.step kW)
        replace G := hid (below_step G.out kW)
        replace GR := hid (below_step GR.out kW)
        have lz165 := (show Below _ _ _ from kW).size
        have PN20 : Hid (Duo V164 (w157.heap.size) (.bool false) (.slice none 0 0)) := by unfold Hid; rw [← hW]; exact duo_at rfl
        rw [hW]
        clear hW kW
        refine hK.out _ _ (fun _ => ⟨Pa.out.c0, Pa.out.c1, Pb.out.c0, Pb.out.c1⟩) ?_
        clear hK
        try simp only [Act.put]
        refine wpAnyT_one (i := 3) (o := { dst := some 151, op := Op.call { callee := Callee.value (Operand.func 32), args := #[Operand.tmp 148, Operand.tmp 149, Operand.tmp 150], argTypes := #[24, 24, 24] }, type := 35, pos := "plain.go:141", after := #[{ on := 0, ground := Ground.data }, { on := 1, ground := Ground.data }, { on := 2, ground := Ground.data }, { on := 1, ground := Ground.chain }], guard := none }) (by kernel_rfl) rfl (fun K hK => ?_)
        go_simp
        go_at_call 32
        refine (powMod_nat (n := 0) Za.out Zo.out Zb.out (by decide) (by decide) HB.out (by decide)).mono ?_
        rintro e w166 ⟨r0, rfl, m0, b⟩
        obtain ⟨ng, xg, adg, qg, rfl, -, -, -, -, -⟩ := id m0
        replace Za := hid (Za.out.now b)
        replace Zb := hid (Zb.out.now b)
        replace Zo := hid (Zo.out.now b)
        replace Pa := hid (Pa.out.step b)
        replace Pb := hid (Pb.out.step b)
        replace PN20 := hid (PN20.out.step b)
        replace G := hid (below_step G.out b)
        replace GR := hid (below_step GR.out b)
        have lz167 := (show Below _ _ _ from b).size
        have Zg := hid m0
        clear b m0
        refine hK.out _ _ (fun _ => ⟨Pa.out.c0, Pa.out.c1, Pb.out.c0, Pb.out.c1⟩) ?_
        clear hK
        refine wpAnyT_take (i := 4) (oi := { dst := some 147, op := Op.move (Operand.tmp 151), type := 35, pos := "plain.go:141", after := #[{ on := 3, ground := Ground.data }], guard := none }) (v := (.tuple #[(.agg #[.bool ng, .slice adg xg.length qg]), (.int .i64 0)])) rfl (by kernel_rfl) (fun _ _ _ h => h) (Or.inl ⟨by rfl, ?_⟩) ⟨Pa.out.c0, Pa.out.c1, Pb.out.c0, Pb.out.c1⟩ ?_
        · intro w hSw
          (try dsimp only at hSw)
          go_simp
        simp only [Act.put, List.setIfInBounds_toArray, List.set_cons_zero, List.set_cons_succ]
        refine wpAnyT_take (i := 5) (oi := { dst := some 152, op := Op.extract (Operand.tmp 147) 0, type := 24, pos := "plain.go:141", after := #[{ on := 4, ground := Ground.data }], guard := none }) (v := (.agg #[.bool ng, .slice adg xg.length qg])) rfl (by kernel_rfl) (fun _ _ _ h => h) (Or.inl ⟨by rfl, ?_⟩) ⟨Pa.out.c0, Pa.out.c1, Pb.out.c0, Pb.out.c1⟩ ?_
        · intro w hSw
          (try dsimp only at hSw)
          go_simp
        simp only [Act.put, List.setIfInBounds_toArray, List.set_cons_zero, List.set_cons_succ]
        refine wpAnyT_take (i := 6) (oi := { dst := some 153, op := Op.extract (Operand.tmp 147) 1, type := 34, pos := "plain.go:141", after := #[{ on := 4, ground := Ground.data }, { on := 8, ground := Ground.gcOnly Departure.lateStores }], guard := none }) (v := (.int .i64 0)) rfl (by kernel_rfl) (fun _ _ _ h => h) (Or.inl ⟨by rfl, ?_⟩) ⟨Pa.out.c0, Pa.out.c1, Pb.out.c0, Pb.out.c1⟩ ?_
        · intro w hSw
          (try dsimp only at hSw)
          go_simp
        simp only [Act.put, List.setIfInBounds_toArray, List.set_cons_zero, List.set_cons_succ]
        refine wpAnyT_one (i := 8) (o := { dst := none, op := Op.store 24 (Operand.tmp 20) (Operand.tmp 152), type := 0, pos := "plain.go:141", after := #[{ on := 7, ground := Ground.data }, { on := 5, ground := Ground.data }, { on := 3, ground := Ground.chain }, { on := 0, ground := Ground.phase }, { on := 1, ground := Ground.phase }, { on := 2, ground := Ground.phase }, { on := 3, ground := Ground.phase }, { on := 4, ground := Ground.phase }, { on := 5, ground := Ground.phase }, { on := 6, ground := Ground.textOnly Departure.lateStores }, { on := 7, ground := Ground.phase }], guard := none }) (by kernel_rfl) rfl (fun K hK => ?_)
        have cN200 := PN20.out.c0
        have cN201 := PN20.out.c1
        have fN200 := PN20.out.fz 0
        have fN201 := PN20.out.fz 1
        go_simp
        clear cN200 cN201 fN200 fN201
        obtain ⟨V168, hW⟩ : ∃ V168, (w166.setCell ⟨w157.heap.size, 0, none⟩ (.bool ng)).setCell ⟨w157.heap.size, 1, none⟩ (.slice adg xg.length qg) = V168 := ⟨_, rfl⟩
        replace Za := hid ((Za.out).wk ((PN20.out).wk (.bool ng) (.slice adg xg.length qg)))
        replace Zb := hid ((Zb.out).wk ((PN20.out).wk (.bool ng) (.slice adg xg.length qg)))
        replace Zo := hid ((Zo.out).wk ((PN20.out).wk (.bool ng) (.slice adg xg.length qg)))
        replace Zg := hid ((Zg.out).box (PN20.out) (.bool ng) (.slice adg xg.length qg))
        replace Pa := hid ((Pa.out).box (b' := w157.heap.size) (by omega) (.bool ng) (.slice adg xg.length qg))
        replace Pb := hid ((Pb.out).box (b' := w157.heap.size) (by omega) (.bool ng) (.slice adg xg.length qg))
        replace PN20 := hid ((PN20.out).set (.bool ng) (.slice adg xg.length qg))
        replace G : Hid (Below w.heap.size w (((w166.setCell ⟨w157.heap.size, 0, none⟩ (.bool ng)).setCell ⟨w157.heap.size, 1, none⟩ (.slice adg xg.length qg)))) := bset (bset (G.out) (by omega)) (by omega)
        replace GR : Hid (Below w153.heap.size w153 (((w166.setCell ⟨w157.heap.size, 0, none⟩ (.bool ng)).setCell ⟨w157.heap.size, 1, none⟩ (.slice adg xg.length qg)))) := bset (bset (GR.out) (by omega)) (by omega)
        have sz168 : V168.heap.size = w166.heap.size := by rw [← hW]; simp
        rw [hW] at Za Zb Zo Zg Pa Pb PN20 G GR
        rw [hW]
        clear hW
        refine hK.out _ _ (fun _ => ⟨Pa.out.c0, Pa.out.c1, Pb.out.c0, Pb.out.c1⟩) ?_
        clear hK
        try simp only [Act.put]
        refine wpAnyT_one (i := 9) (o := { dst := some 21, op := Op.assign (Operand.tmp 153), type := 34, pos := "plain.go:141", after := #[{ on := 6, ground := Ground.data }, { on := 8, ground := Ground.chain }, { on := 0, ground := Ground.phase }, { on := 1, ground := Ground.phase }, { on := 2, ground := Ground.phase }, { on := 3, ground := Ground.phase }, { on := 4, ground := Ground.phase }, { on := 5, ground := Ground.phase }, { on := 6, ground := Ground.phase }, { on := 7, ground := Ground.phase }, { on := 8, ground := Ground.phase }], guard := none }) (by kernel_rfl) rfl (fun K hK => ?_)
        go_simp
        refine hK.out _ _ (fun h => absurd h (by decide)) ?_
        clear hK
        try simp only [Act.put]
        refine wpAnyT_done (by kernel_rfl) ?_ _
        go_wp2_with fail
        go_meet
        exact ⟨⟨_, _, _, _, _, rfl, GR.out, by omega, PN20.out.blk, PN20.out, Zg.out.mono (by omega)⟩, rfl⟩
    · skip
      go_simp
      obtain ⟨V169, hW⟩ : ∃ V169, D155.alloc zbox = V169 := ⟨_, rfl⟩
      obtain ⟨kW, sz169⟩ := alloc1 D155 zbox
      rw [hW] at kW sz169
      replace Za := hid (Za.out.now kW)
      replace Zb := hid (Zb.out.now kW)
      replace Pa := hid (Pa.out.step kW)
      replace Pb := hid (Pb.out.step kW)
      replace G := hid (below_step G.out kW)
      replace GR := hid (below_step GR.out kW)
      have lz170 := (show Below _ _ _ from kW).size
      have PN20 : Hid (Duo V169 (D155.heap.size) (.bool false) (.slice none 0 0)) := by unfold Hid; rw [← hW]; exact duo_at rfl
      rw [hW]
      clear hW kW
      refine hK.out _ _ (fun _ => ⟨Pa.out.c0, Pa.out.c1, Pb.out.c0, Pb.out.c1⟩) ?_
      clear hK
      try simp only [Act.put]
      refine wpAnyT_one (i := 1) (o := { dst := some 149, op := Op.call { callee := Callee.value (Operand.func 30), args := #[Operand.const (Value.int IntKind.u64 0)], argTypes := #[45] }, type := 24, pos := "plain.go:141", after := #[], guard := none }) (by kernel_rfl) rfl (fun K hK => ?_)
      go_simp
      go_at_call 30
      refine (of6i (n := 0) (by omega) (by omega) _).mono ?_
      rintro e w171 ⟨r0, rfl, m0, b⟩
      obtain ⟨no, xo, ado, qo, rfl, -, -, -⟩ := id m0
      replace Za := hid (Za.out.now b)
      replace Zb := hid (Zb.out.now b)
      replace Pa := hid (Pa.out.step b)
      replace Pb := hid (Pb.out.step b)
      replace PN20 := hid (PN20.out.step b)
      replace G := hid (below_step G.out b)
      replace GR := hid (below_step GR.out b)
      have lz172 := (show Below _ _ _ from b).size
      have Zo := hid m0
      clear b m0
      refine hK.out _ _ (fun _ => ⟨Pa.out.c0, Pa.out.c1, Pb.out.c0, Pb.out.c1⟩) ?_
      clear hK
      refine wpAnyT_one (i := 3) (o := { dst := some 151, op := Op.call { callee := Callee.value (Operand.func 32), args := #[Operand.tmp 148, Operand.tmp 149, Operand.tmp 150], argTypes := #[24, 24, 24] }, type := 35, pos := "plain.go:141", after := #[{ on := 0, ground := Ground.data }, { on := 1, ground := Ground.data }, { on := 2, ground := Ground.data }, { on := 1, ground := Ground.chain }], guard := none }) (by kernel_rfl) rfl (fun K hK => ?_)
      go_simp
      go_at_call 32
      refine (powMod_nat (n := 0) Za.out Zo.out Zb.out (by decide) (by decide) HB.out (by decide)).mono ?_
      rintro e w173 ⟨r0, rfl, m0, b⟩
      obtain ⟨ng, xg, adg, qg, rfl, -, -, -, -, -⟩ := id m0
      replace Za := hid (Za.out.now b)
      replace Zb := hid (Zb.out.now b)
      replace Zo := hid (Zo.out.now b)
      replace Pa := hid (Pa.out.step b)
      replace Pb := hid (Pb.out.step b)
      replace PN20 := hid (PN20.out.step b)
      replace G := hid (below_step G.out b)
      replace GR := hid (below_step GR.out b)
      have lz174 := (show Below _ _ _ from b).size
      have Zg := hid m0
      clear b m0
      refine hK.out _ _ (fun _ => ⟨Pa.out.c0, Pa.out.c1, Pb.out.c0, Pb.out.c1⟩) ?_
      clear hK
      refine wpAnyT_take (i := 4) (oi := { dst := some 147, op := Op.move (Operand.tmp 151), type := 35, pos := "plain.go:141", after := #[{ on := 3, ground := Ground.data }], guard := none }) (v := (.tuple #[(.agg #[.bool ng, .slice adg xg.length qg]), (.int .i64 0)])) rfl (by kernel_rfl) (fun _ _ _ h => h) (Or.inl ⟨by rfl, ?_⟩) ⟨Pa.out.c0, Pa.out.c1, Pb.out.c0, Pb.out.c1⟩ ?_
      · intro w hSw
        (try dsimp only at hSw)
        go_simp
      simp only [Act.put, List.setIfInBounds_toArray, List.set_cons_zero, List.set_cons_succ]
      refine wpAnyT_take (i := 5) (oi := { dst := some 152, op := Op.extract (Operand.tmp 147) 0, type := 24, pos := "plain.go:141", after := #[{ on := 4, ground := Ground.data }], guard := none }) (v := (.agg #[.bool ng, .slice adg xg.length qg])) rfl (by kernel_rfl) (fun _ _ _ h => h) (Or.inl ⟨by rfl, ?_⟩) ⟨Pa.out.c0, Pa.out.c1, Pb.out.c0, Pb.out.c1⟩ ?_
      · intro w hSw
        (try dsimp only at hSw)
        go_simp
      simp only [Act.put, List.setIfInBounds_toArray, List.set_cons_zero, List.set_cons_succ]
      refine wpAnyT_take (i := 6) (oi := { dst := some 153, op := Op.extract (Operand.tmp 147) 1, type := 34, pos := "plain.go:141", after := #[{ on := 4, ground := Ground.data }, { on := 8, ground := Ground.gcOnly Departure.lateStores }], guard := none }) (v := (.int .i64 0)) rfl (by kernel_rfl) (fun _ _ _ h => h) (Or.inl ⟨by rfl, ?_⟩) ⟨Pa.out.c0, Pa.out.c1, Pb.out.c0, Pb.out.c1⟩ ?_
      · intro w hSw
        (try dsimp only at hSw)
        go_simp
      simp only [Act.put, List.setIfInBounds_toArray, List.set_cons_zero, List.set_cons_succ]
      refine wpAnyT_one (i := 8) (o := { dst := none, op := Op.store 24 (Operand.tmp 20) (Operand.tmp 152), type := 0, pos := "plain.go:141", after := #[{ on := 7, ground := Ground.data }, { on := 5, ground := Ground.data }, { on := 3, ground := Ground.chain }, { on := 0, ground := Ground.phase }, { on := 1, ground := Ground.phase }, { on := 2, ground := Ground.phase }, { on := 3, ground := Ground.phase }, { on := 4, ground := Ground.phase }, { on := 5, ground := Ground.phase }, { on := 6, ground := Ground.textOnly Departure.lateStores }, { on := 7, ground := Ground.phase }], guard := none }) (by kernel_rfl) rfl (fun K hK => ?_)
      have cN200 := PN20.out.c0
      have cN201 := PN20.out.c1
      have fN200 := PN20.out.fz 0
      have fN201 := PN20.out.fz 1
      go_simp
      clear cN200 cN201 fN200 fN201
      obtain ⟨V175, hW⟩ : ∃ V175, (w173.setCell ⟨D155.heap.size, 0, none⟩ (.bool ng)).setCell ⟨D155.heap.size, 1, none⟩ (.slice adg xg.length qg) = V175 := ⟨_, rfl⟩
      replace Za := hid ((Za.out).wk ((PN20.out).wk (.bool ng) (.slice adg xg.length qg)))
      replace Zb := hid ((Zb.out).wk ((PN20.out).wk (.bool ng) (.slice adg xg.length qg)))
      replace Zo := hid ((Zo.out).wk ((PN20.out).wk (.bool ng) (.slice adg xg.length qg)))
      replace Zg := hid ((Zg.out).box (PN20.out) (.bool ng) (.slice adg xg.length qg))
      replace Pa := hid ((Pa.out).box (b' := D155.heap.size) (by omega) (.bool ng) (.slice adg xg.length qg))
      replace Pb := hid ((Pb.out).box (b' := D155.heap.size) (by omega) (.bool ng) (.slice adg xg.length qg))
      replace PN20 := hid ((PN20.out).set (.bool ng) (.slice adg xg.length qg))
      replace G : Hid (Below w.heap.size w (((w173.setCell ⟨D155.heap.size, 0, none⟩ (.bool ng)).setCell ⟨D155.heap.size, 1, none⟩ (.slice adg xg.length qg)))) := bset (bset (G.out) (by omega)) (by omega)
      replace GR : Hid (Below w153.heap.size w153 (((w173.setCell ⟨D155.heap.size, 0, none⟩ (.bool ng)).setCell ⟨D155.heap.size, 1, none⟩ (.slice adg xg.length qg)))) := bset (bset (GR.out) (by omega)) (by omega)
      have sz175 : V175.heap.size = w173.heap.size := by rw [← hW]; simp
      rw [hW] at Za Zb Zo Zg Pa Pb PN20 G GR
      rw [hW]
      clear hW
      refine hK.out _ _ (fun _ => ⟨Pa.out.c0, Pa.out.c1, Pb.out.c0, Pb.out.c1⟩) ?_
      clear hK
      try simp only [Act.put]
      refine wpAnyT_one (i := 9) (o := { dst := some 21, op := Op.assign (Operand.tmp 153), type := 34, pos := "plain.go:141", after := #[{ on := 6, ground := Ground.data }, { on := 8, ground := Ground.chain }, { on := 0, ground := Ground.phase }, { on := 1, ground := Ground.phase }, { on := 2, ground := Ground.phase }, { on := 3, ground := Ground.phase }, { on := 4, ground := Ground.phase }, { on := 5, ground := Ground.phase }, { on := 6, ground := Ground.phase }, { on := 7, ground := Ground.phase }, { on := 8, ground := Ground.phase }], guard := none }) (by kernel_rfl) rfl (fun K hK => ?_)
      go_simp
      refine hK.out _ _ (fun h => absurd h (by decide)) ?_
      clear hK
      try simp only [Act.put]
      refine wpAnyT_done (by kernel_rfl) ?_ _
      go_wp2_with fail
      go_meet
      exact ⟨⟨_, _, _, _, _, rfl, GR.out, by omega, PN20.out.blk, PN20.out, Zg.out.mono (by omega)⟩, rfl⟩
  case rest => as_aux_lemma =>
  obtain ⟨⟨bkg, ng, xg, adg, qg, rfl, b, geg, ltg, p, m⟩, rfl⟩ := hcut
  replace Za := hid (Za.out.now b)
  replace Zb := hid (Zb.out.now b)
  replace Pa := hid (Pa.out.step b)
  replace Pb := hid (Pb.out.step b)
  replace G := hid (below_step G.out b)
  have lz177 := (show Below _ _ _ from b).size
  have Zg := hid m
  have Pg := hid p
  clear b p m
  generalize wc = C177 at *
  go_wp2_with fail
  go_cut [22, 23] from 26 (fun s1 s2 wx => MetB C177 wx s1 (pmod A 1 B) (1048576) ∧ s2 = .int .i64 0)
  case first => as_aux_lemma =>
    have GR : Hid (Below C177.heap.size C177 C177) := Below.refl _ _
    refine wp_region_tail (fun w' => w'.cell? ⟨w.heap.size, 0, none⟩ = some (.bool na) ∧ w'.cell? ⟨w.heap.size, 1, none⟩ = some (.slice ada xa.length ca) ∧ w'.cell? ⟨w.heap.size + 1, 0, none⟩ = some (.bool nb) ∧ w'.cell? ⟨w.heap.size + 1, 1, none⟩ = some (.slice adb xb.length cb)) 9 (by kernel_rfl) ?_
    obtain ⟨D178, hD⟩ : ∃ D178, C177.drew = D178 := ⟨_, rfl⟩
    have b : Below C177.heap.size C177 D178 := by rw [← hD]; exact (Below.refl _ _).drew
    rw [hD]
    clear hD
    replace Za := hid (Za.out.now b)
    replace Zb := hid (Zb.out.now b)
    replace Zg := hid (Zg.out.now b)
    replace Pa := hid (Pa.out.step b)
    replace Pb := hid (Pb.out.step b)
    replace Pg := hid (Pg.out.step b)
    replace G := hid (below_step G.out b)
    replace GR := hid (below_step GR.out b)
    have lz179 := (show Below _ _ _ from b).size
    clear b
    refine wpAnyT_take (i := 0) (oi := { dst := some 155, op := Op.load 24 (Operand.tmp 3), type := 24, pos := "plain.go:142", after := #[], guard := none }) (v := (.agg #[(.bool na), (.slice ada xa.length ca)])) rfl (by kernel_rfl) (fun _ _ _ h => h) (Or.inl ⟨by rfl, ?_⟩) ⟨Pa.out.c0, Pa.out.c1, Pb.out.c0, Pb.out.c1⟩ ?_
    · intro w hSw
      (try dsimp only at hSw)
      go_simp
    simp only [Act.put, List.setIfInBounds_toArray, List.set_cons_zero, List.set_cons_succ]
    refine wpAnyT_take (i := 2) (oi := { dst := some 157, op := Op.load 24 (Operand.tmp 4), type := 24, pos := "plain.go:142", after := #[], guard := none }) (v := (.agg #[(.bool nb), (.slice adb xb.length cb)])) rfl (by kernel_rfl) (fun _ _ _ h => h) (Or.inl ⟨by rfl, ?_⟩) ⟨Pa.out.c0, Pa.out.c1, Pb.out.c0, Pb.out.c1⟩ ?_
    · intro w hSw
      (try dsimp only at hSw)
      go_simp
    simp only [Act.put, List.setIfInBounds_toArray, List.set_cons_zero, List.set_cons_succ]
    refine wpAnyT_two (i := 1) (j := 7) (oi := { dst := some 156, op := Op.call { callee := Callee.value (Operand.func 30), args := #[Operand.const (Value.int IntKind.u64 1)], argTypes := #[45] }, type := 24, pos := "plain.go:142", after := #[], guard := none }) (oj := { dst := some 22, op := Op.alloc 24, type := 0, pos := "plain.go:142", after := #[], guard := none }) (by kernel_rfl) rfl rfl (fun K hK => ?_) (fun K hK => ?_)
    · skip
      go_simp
      go_at_call 30
      refine (of6i (n := 1) (by omega) (by omega) _).mono ?_
      rintro e w180 ⟨r0, rfl, m0, b⟩
      obtain ⟨no, xo, ado, qo, rfl, -, -, -⟩ := id m0
      replace Za := hid (Za.out.now b)
      replace Zb := hid (Zb.out.now b)
      replace Zg := hid (Zg.out.now b)
      replace Pa := hid (Pa.out.step b)
      replace Pb := hid (Pb.out.step b)
      replace Pg := hid (Pg.out.step b)
      replace G := hid (below_step G.out b)
      replace GR := hid (below_step GR.out b)
      have lz181 := (show Below _ _ _ from b).size
      have Zo := hid m0
      clear b m0
      refine hK.out _ _ (fun _ => ⟨Pa.out.c0, Pa.out.c1, Pb.out.c0, Pb.out.c1⟩) ?_
      clear hK
      refine wpAnyT_two (i := 3) (j := 7) (oi := { dst := some 158, op := Op.call { callee := Callee.value (Operand.func 32), args := #[Operand.tmp 155, Operand.tmp 156, Operand.tmp 157], argTypes := #[24, 24, 24] }, type := 35, pos := "plain.go:142", after := #[{ on := 0, ground := Ground.data }, { on := 1, ground := Ground.data }, { on := 2, ground := Ground.data }, { on := 1, ground := Ground.chain }], guard := none }) (oj := { dst := some 22, op := Op.alloc 24, type := 0, pos := "plain.go:142", after := #[], guard := none }) (by kernel_rfl) rfl rfl (fun K hK => ?_) (fun K hK => ?_)
      · skip
        go_simp
        go_at_call 32
        refine (powMod_nat (n := 1) Za.out Zo.out Zb.out (by decide) (by decide) HB.out (by decide)).mono ?_
        rintro e w182 ⟨r0, rfl, m0, b⟩
        obtain ⟨ny, xy, ady, qy, rfl, -, -, -, -, -⟩ := id m0
        replace Za := hid (Za.out.now b)
        replace Zb := hid (Zb.out.now b)
        replace Zg := hid (Zg.out.now b)
        replace Zo := hid (Zo.out.now b)
        replace Pa := hid (Pa.out.step b)
        replace Pb := hid (Pb.out.step b)
        replace Pg := hid (Pg.out.step b)
        replace G := hid (below_step G.out b)
        replace GR := hid (below_step GR.out b)
        have lz183 := (show Below _ _ _ from b).size
        have Zy := hid m0
        clear b m0
        refine hK.out _ _ (fun _ => ⟨Pa.out.c0, Pa.out.c1, Pb.out.c0, Pb.out.c1⟩) ?_
        clear hK
        refine wpAnyT_take (i := 4) (oi := { dst := some 154, op := Op.move (Operand.tmp 158), type := 35, pos := "plain.go:142", after := #[{ on := 3, ground := Ground.data }], guard := none }) (v := (.tuple #[(.agg #[.bool ny, .slice ady xy.length qy]), (.int .i64 0)])) rfl (by kernel_rfl) (fun _ _ _ h => h) (Or.inl ⟨by rfl, ?_⟩) ⟨Pa.out.c0, Pa.out.c1, Pb.out.c0, Pb.out.c1⟩ ?_
        · intro w hSw
          (try dsimp only at hSw)
          go_simp
        simp only [Act.put, List.setIfInBounds_toArray, List.set_cons_zero, List.set_cons_succ]
        refine wpAnyT_take (i := 5) (oi := { dst := some 159, op := Op.extract (Operand.tmp 154) 0, type := 24, pos := "plain.go:142", after := #[{ on := 4, ground := Ground.data }], guard := none }) (v := (.agg #[.bool ny, .slice ady xy.length qy])) rfl (by kernel_rfl) (fun _ _ _ h => h) (Or.inl ⟨by rfl, ?_⟩) ⟨Pa.out.c0, Pa.out.c1, Pb.out.c0, Pb.out.c1⟩ ?_
        · intro w hSw
          (try dsimp only at hSw)
          go_simp
        simp only [Act.put, List.setIfInBounds_toArray, List.set_cons_zero, List.set_cons_succ]
        refine wpAnyT_take (i := 6) (oi := { dst := some 160, op := Op.extract (Operand.tmp 154) 1, type := 34, pos := "plain.go:142", after := #[{ on := 4, ground := Ground.data }, { on := 8, ground := Ground.gcOnly Departure.lateStores }], guard := none }) (v := (.int .i64 0)) rfl (by kernel_rfl) (fun _ _ _ h => h) (Or.inl ⟨by rfl, ?_⟩) ⟨Pa.out.c0, Pa.out.c1, Pb.out.c0, Pb.out.c1⟩ ?_
        · intro w hSw
          (try dsimp only at hSw)
          go_simp
        simp only [Act.put, List.setIfInBounds_toArray, List.set_cons_zero, List.set_cons_succ]
        refine wpAnyT_one (i := 7) (o := { dst := some 22, op := Op.alloc 24, type := 0, pos := "plain.go:142", after := #[], guard := none }) (by kernel_rfl) rfl (fun K hK => ?_)
        go_simp
        obtain ⟨V184, hW⟩ : ∃ V184, w182.alloc zbox = V184 := ⟨_, rfl⟩
        obtain ⟨kW, sz184⟩ := alloc1 w182 zbox
        rw [hW] at kW sz184
        replace Za := hid (Za.out.now kW)
        replace Zb := hid (Zb.out.now kW)
        replace Zg := hid (Zg.out.now kW)
        replace Zo := hid (Zo.out.now kW)
        replace Zy := hid (Zy.out.now kW)
        replace Pa := hid (Pa.out.step kW)
        replace Pb := hid (Pb.out.step kW)
        replace Pg := hid (Pg.out.step kW)
        replace G := hid (below_step G.out kW)
        replace GR := hid (below_step GR.out kW)
        have lz185 := (show Below _ _ _ from kW).size
        have PN22 : Hid (Duo V184 (w182.heap.size) (.bool false) (.slice none 0 0)) := by unfold Hid; rw [← hW]; exact duo_at rfl
        rw [hW]
        clear hW kW
        refine hK.out _ _ (fun _ => ⟨Pa.out.c0, Pa.out.c1, Pb.out.c0, Pb.out.c1⟩) ?_
        clear hK
        try simp only [Act.put]
        refine wpAnyT_one (i := 8) (o := { dst := none, op := Op.store 24 (Operand.tmp 22) (Operand.tmp 159), type := 0, pos := "plain.go:142", after := #[{ on := 7, ground := Ground.data }, { on := 5, ground := Ground.data }, { on := 3, ground := Ground.chain }, { on := 0, ground := Ground.phase }, { on := 1, ground := Ground.phase }, { on := 2, ground := Ground.phase }, { on := 3, ground := Ground.phase }, { on := 4, ground := Ground.phase }, { on := 5, ground := Ground.phase }, { on := 6, ground := Ground.textOnly Departure.lateStores }, { on := 7, ground := Ground.phase }], guard := none }) (by kernel_rfl) rfl (fun K hK => ?_)
        have cN220 := PN22.out.c0
        have cN221 := PN22.out.c1
        have fN220 := PN22.out.fz 0
        have fN221 := PN22.out.fz 1
        go_simp
        clear cN220 cN221 fN220 fN221
        obtain ⟨V186, hW⟩ : ∃ V186, (V184.setCell ⟨w182.heap.size, 0, none⟩ (.bool ny)).setCell ⟨w182.heap.size, 1, none⟩ (.slice ady xy.length qy) = V186 := ⟨_, rfl⟩
        replace Za := hid ((Za.out).wk ((PN22.out).wk (.bool ny) (.slice ady xy.length qy)))
        replace Zb := hid ((Zb.out).wk ((PN22.out).wk (.bool ny) (.slice ady xy.length qy)))
        replace Zg := hid ((Zg.out).box (PN22.out) (.bool ny) (.slice ady xy.length qy))
        replace Zo := hid ((Zo.out).wk ((PN22.out).wk (.bool ny) (.slice ady xy.length qy)))
        replace Zy := hid ((Zy.out).box (PN22.out) (.bool ny) (.slice ady xy.length qy))
        replace Pa := hid ((Pa.out).box (b' := w182.heap.size) (by omega) (.bool ny) (.slice ady xy.length qy))
        replace Pb := hid ((Pb.out).box (b' := w182.heap.size) (by omega) (.bool ny) (.slice ady xy.length qy))
        replace Pg := hid ((Pg.out).box (b' := w182.heap.size) (by omega) (.bool ny) (.slice ady xy.length qy))
        replace PN22 := hid ((PN22.out).set (.bool ny) (.slice ady xy.length qy))
        replace G : Hid (Below w.heap.size w (((V184.setCell ⟨w182.heap.size, 0, none⟩ (.bool ny)).setCell ⟨w182.heap.size, 1, none⟩ (.slice ady xy.length qy)))) := bset (bset (G.out) (by omega)) (by omega)
        replace GR : Hid (Below C177.heap.size C177 (((V184.setCell ⟨w182.heap.size, 0, none⟩ (.bool ny)).setCell ⟨w182.heap.size, 1, none⟩ (.slice ady xy.length qy)))) := bset (bset (GR.out) (by omega)) (by omega)
        have sz186 : V186.heap.size = V184.heap.size := by rw [← hW]; simp
        rw [hW] at Za Zb Zg Zo Zy Pa Pb Pg PN22 G GR
        rw [hW]
        clear hW
        refine hK.out _ _ (fun _ => ⟨Pa.out.c0, Pa.out.c1, Pb.out.c0, Pb.out.c1⟩) ?_
        clear hK
        try simp only [Act.put]
        refine wpAnyT_one (i := 9) (o := { dst := some 23, op := Op.assign (Operand.tmp 160), type := 34, pos := "plain.go:142", after := #[{ on := 6, ground := Ground.data }, { on := 8, ground := Ground.chain }, { on := 0, ground := Ground.phase }, { on := 1, ground := Ground.phase }, { on := 2, ground := Ground.phase }, { on := 3, ground := Ground.phase }, { on := 4, ground := Ground.phase }, { on := 5, ground := Ground.phase }, { on := 6, ground := Ground.phase }, { on := 7, ground := Ground.phase }, { on := 8, ground := Ground.phase }], guard := none }) (by kernel_rfl) rfl (fun K hK => ?_)
        go_simp
        refine hK.out _ _ (fun h => absurd h (by decide)) ?_
        clear hK
        try simp only [Act.put]
        refine wpAnyT_done (by kernel_rfl) ?_ _
        go_wp2_with fail
        go_meet
        exact ⟨⟨_, _, _, _, _, rfl, GR.out, by omega, PN22.out.blk, PN22.out, Zy.out.mono (by omega)⟩, rfl⟩
      · skip
        go_simp
        obtain ⟨V187, hW⟩ : ∃ V187, w180.alloc zbox = V187 := ⟨_, rfl⟩
        obtain ⟨kW, sz187⟩ := alloc1 w180 zbox
        rw [hW] at kW sz187
        replace Za := hid (Za.out.now kW)
        replace Zb := hid (Zb.out.now kW)
        replace Zg := hid (Zg.out.now kW)
        replace Zo := hid (Zo.out.now kW)
        replace Pa := hid (Pa.out.step kW)
        replace Pb := hid (Pb.out.step kW)
        replace Pg := hid (Pg.out.step kW)
        replace G := hid (below_step G.out kW)
        replace GR := hid (below_step GR.out kW)
        have lz188 := (show Below _ _ _ from kW).size
        have PN22 : Hid (Duo V187 (w180.heap.size) (.bool false) (.slice none 0 0)) := by unfold Hid; rw [← hW]; exact duo_at rfl
        rw [hW]
        clear hW kW
        refine hK.out _ _ (fun _ => ⟨Pa.out.c0, Pa.out.c1, Pb.out.c0, Pb.out.c1⟩) ?_
        clear hK
        try simp only [Act.put]
        refine wpAnyT_one (i := 3) (o := { dst := some 158, op := Op.call { callee := Callee.value (Operand.func 32), args := #[Operand.tmp 155, Operand.tmp 156, Operand.tmp 157], argTypes := #[24, 24, 24] }, type := 35, pos := "plain.go:142", after := #[{ on := 0, ground := Ground.data }, { on := 1, ground := Ground.data }, { on := 2, ground := Ground.data }, { on := 1, ground := Ground.chain }], guard := none }) (by kernel_rfl) rfl (fun K hK => ?_)
        go_simp
        go_at_call 32
        refine (powMod_nat (n := 1) Za.out Zo.out Zb.out (by decide) (by decide) HB.out (by decide)).mono ?_
        rintro e w189 ⟨r0, rfl, m0, b⟩
        obtain ⟨ny, xy, ady, qy, rfl, -, -, -, -, -⟩ := id m0
        replace Za := hid (Za.out.now b)
        replace Zb := hid (Zb.out.now b)
        replace Zg := hid (Zg.out.now b)
        replace Zo := hid (Zo.out.now b)
        replace Pa := hid (Pa.out.step b)
        replace Pb := hid (Pb.out.step b)
        replace Pg := hid (Pg.out.step b)
        replace PN22 := hid (PN22.out.step b)
        replace G := hid (below_step G.out b)
        replace GR := hid (below_step GR.out b)
        have lz190 := (show Below _ _ _ from b).size
        have Zy := hid m0
        clear b m0
        refine hK.out _ _ (fun _ => ⟨Pa.out.c0, Pa.out.c1, Pb.out.c0, Pb.out.c1⟩) ?_
        clear hK
        refine wpAnyT_take (i := 4) (oi := { dst := some 154, op := Op.move (Operand.tmp 158), type := 35, pos := "plain.go:142", after := #[{ on := 3, ground := Ground.data }], guard := none }) (v := (.tuple #[(.agg #[.bool ny, .slice ady xy.length qy]), (.int .i64 0)])) rfl (by kernel_rfl) (fun _ _ _ h => h) (Or.inl ⟨by rfl, ?_⟩) ⟨Pa.out.c0, Pa.out.c1, Pb.out.c0, Pb.out.c1⟩ ?_
        · intro w hSw
          (try dsimp only at hSw)
          go_simp
        simp only [Act.put, List.setIfInBounds_toArray, List.set_cons_zero, List.set_cons_succ]
        refine wpAnyT_take (i := 5) (oi := { dst := some 159, op := Op.extract (Operand.tmp 154) 0, type := 24, pos := "plain.go:142", after := #[{ on := 4, ground := Ground.data }], guard := none }) (v := (.agg #[.bool ny, .slice ady xy.length qy])) rfl (by kernel_rfl) (fun _ _ _ h => h) (Or.inl ⟨by rfl, ?_⟩) ⟨Pa.out.c0, Pa.out.c1, Pb.out.c0, Pb.out.c1⟩ ?_
        · intro w hSw
          (try dsimp only at hSw)
          go_simp
        simp only [Act.put, List.setIfInBounds_toArray, List.set_cons_zero, List.set_cons_succ]
        refine wpAnyT_take (i := 6) (oi := { dst := some 160, op := Op.extract (Operand.tmp 154) 1, type := 34, pos := "plain.go:142", after := #[{ on := 4, ground := Ground.data }, { on := 8, ground := Ground.gcOnly Departure.lateStores }], guard := none }) (v := (.int .i64 0)) rfl (by kernel_rfl) (fun _ _ _ h => h) (Or.inl ⟨by rfl, ?_⟩) ⟨Pa.out.c0, Pa.out.c1, Pb.out.c0, Pb.out.c1⟩ ?_
        · intro w hSw
          (try dsimp only at hSw)
          go_simp
        simp only [Act.put, List.setIfInBounds_toArray, List.set_cons_zero, List.set_cons_succ]
        refine wpAnyT_one (i := 8) (o := { dst := none, op := Op.store 24 (Operand.tmp 22) (Operand.tmp 159), type := 0, pos := "plain.go:142", after := #[{ on := 7, ground := Ground.data }, { on := 5, ground := Ground.data }, { on := 3, ground := Ground.chain }, { on := 0, ground := Ground.phase }, { on := 1, ground := Ground.phase }, { on := 2, ground := Ground.phase }, { on := 3, ground := Ground.phase }, { on := 4, ground := Ground.phase }, { on := 5, ground := Ground.phase }, { on := 6, ground := Ground.textOnly Departure.lateStores }, { on := 7, ground := Ground.phase }], guard := none }) (by kernel_rfl) rfl (fun K hK => ?_)
        have cN220 := PN22.out.c0
        have cN221 := PN22.out.c1
        have fN220 := PN22.out.fz 0
        have fN221 := PN22.out.fz 1
        go_simp
        clear cN220 cN221 fN220 fN221
        obtain ⟨V191, hW⟩ : ∃ V191, (w189.setCell ⟨w180.heap.size, 0, none⟩ (.bool ny)).setCell ⟨w180.heap.size, 1, none⟩ (.slice ady xy.length qy) = V191 := ⟨_, rfl⟩
        replace Za := hid ((Za.out).wk ((PN22.out).wk (.bool ny) (.slice ady xy.length qy)))
        replace Zb := hid ((Zb.out).wk ((PN22.out).wk (.bool ny) (.slice ady xy.length qy)))
        replace Zg := hid ((Zg.out).box (PN22.out) (.bool ny) (.slice ady xy.length qy))
        replace Zo := hid ((Zo.out).wk ((PN22.out).wk (.bool ny) (.slice ady xy.length qy)))
        replace Zy := hid ((Zy.out).box (PN22.out) (.bool ny) (.slice ady xy.length qy))
        replace Pa := hid ((Pa.out).box (b' := w180.heap.size) (by omega) (.bool ny) (.slice ady xy.length qy))
        replace Pb := hid ((Pb.out).box (b' := w180.heap.size) (by omega) (.bool ny) (.slice ady xy.length qy))
        replace Pg := hid ((Pg.out).box (b' := w180.heap.size) (by omega) (.bool ny) (.slice ady xy.length qy))
        replace PN22 := hid ((PN22.out).set (.bool ny) (.slice ady xy.length qy))
        replace G : Hid (Below w.heap.size w (((w189.setCell ⟨w180.heap.size, 0, none⟩ (.bool ny)).setCell ⟨w180.heap.size, 1, none⟩ (.slice ady xy.length qy)))) := bset (bset (G.out) (by omega)) (by omega)
        replace GR : Hid (Below C177.heap.size C177 (((w189.setCell ⟨w180.heap.size, 0, none⟩ (.bool ny)).setCell ⟨w180.heap.size, 1, none⟩ (.slice ady xy.length qy)))) := bset (bset (GR.out) (by omega)) (by omega)
        have sz191 : V191.heap.size = w189.heap.size := by rw [← hW]; simp
        rw [hW] at Za Zb Zg Zo Zy Pa Pb Pg PN22 G GR
        rw [hW]
        clear hW
        refine hK.out _ _ (fun _ => ⟨Pa.out.c0, Pa.out.c1, Pb.out.c0, Pb.out.c1⟩) ?_
        clear hK
        try simp only [Act.put]
        refine wpAnyT_one (i := 9) (o := { dst := some 23, op := Op.assign (Operand.tmp 160), type := 34, pos := "plain.go:142", after := #[{ on := 6, ground := Ground.data }, { on := 8, ground := Ground.chain }, { on := 0, ground := Ground.phase }, { on := 1, ground := Ground.phase }, { on := 2, ground := Ground.phase }, { on := 3, ground := Ground.phase }, { on := 4, ground := Ground.phase }, { on := 5, ground := Ground.phase }, { on := 6, ground := Ground.phase }, { on := 7, ground := Ground.phase }, { on := 8, ground := Ground.phase }], guard := none }) (by kernel_rfl) rfl (fun K hK => ?_)
        go_simp
        refine hK.out _ _ (fun h => absurd h (by decide)) ?_
        clear hK
        try simp only [Act.put]
        refine wpAnyT_done (by kernel_rfl) ?_ _
        go_wp2_with fail
        go_meet
        exact ⟨⟨_, _, _, _, _, rfl, GR.out, by omega, PN22.out.blk, PN22.out, Zy.out.mono (by omega)⟩, rfl⟩
    · skip
      go_simp
      obtain ⟨V192, hW⟩ : ∃ V192, D178.alloc zbox = V192 := ⟨_, rfl⟩
      obtain ⟨kW, sz192⟩ := alloc1 D178 zbox
      rw [hW] at kW sz192
      replace Za := hid (Za.out.now kW)
      replace Zb := hid (Zb.out.now kW)
      replace Zg := hid (Zg.out.now kW)
      replace Pa := hid (Pa.out.step kW)
      replace Pb := hid (Pb.out.step kW)
      replace Pg := hid (Pg.out.step kW)
      replace G := hid (below_step G.out kW)
      replace GR := hid (below_step GR.out kW)
      have lz193 := (show Below _ _ _ from kW).size
      have PN22 : Hid (Duo V192 (D178.heap.size) (.bool false) (.slice none 0 0)) := by unfold Hid; rw [← hW]; exact duo_at rfl
      rw [hW]
      clear hW kW
      refine hK.out _ _ (fun _ => ⟨Pa.out.c0, Pa.out.c1, Pb.out.c0, Pb.out.c1⟩) ?_
      clear hK
      try simp only [Act.put]
      refine wpAnyT_one (i := 1) (o := { dst := some 156, op := Op.call { callee := Callee.value (Operand.func 30), args := #[Operand.const (Value.int IntKind.u64 1)], argTypes := #[45] }, type := 24, pos := "plain.go:142", after := #[], guard := none }) (by kernel_rfl) rfl (fun K hK => ?_)
      go_simp
      go_at_call 30
      refine (of6i (n := 1) (by omega) (by omega) _).mono ?_
      rintro e w194 ⟨r0, rfl, m0, b⟩
      obtain ⟨no, xo, ado, qo, rfl, -, -, -⟩ := id m0
      replace Za := hid (Za.out.now b)
      replace Zb := hid (Zb.out.now b)
      replace Zg := hid (Zg.out.now b)
      replace Pa := hid (Pa.out.step b)
      replace Pb := hid (Pb.out.step b)
      replace Pg := hid (Pg.out.step b)
      replace PN22 := hid (PN22.out.step b)
      replace G := hid (below_step G.out b)
      replace GR := hid (below_step GR.out b)
      have lz195 := (show Below _ _ _ from b).size
      have Zo := hid m0
      clear b m0
      refine hK.out _ _ (fun _ => ⟨Pa.out.c0, Pa.out.c1, Pb.out.c0, Pb.out.c1⟩) ?_
      clear hK
      refine wpAnyT_one (i := 3) (o := { dst := some 158, op := Op.call { callee := Callee.value (Operand.func 32), args := #[Operand.tmp 155, Operand.tmp 156, Operand.tmp 157], argTypes := #[24, 24, 24] }, type := 35, pos := "plain.go:142", after := #[{ on := 0, ground := Ground.data }, { on := 1, ground := Ground.data }, { on := 2, ground := Ground.data }, { on := 1, ground := Ground.chain }], guard := none }) (by kernel_rfl) rfl (fun K hK => ?_)
      go_simp
      go_at_call 32
      refine (powMod_nat (n := 1) Za.out Zo.out Zb.out (by decide) (by decide) HB.out (by decide)).mono ?_
      rintro e w196 ⟨r0, rfl, m0, b⟩
      obtain ⟨ny, xy, ady, qy, rfl, -, -, -, -, -⟩ := id m0
      replace Za := hid (Za.out.now b)
      replace Zb := hid (Zb.out.now b)
      replace Zg := hid (Zg.out.now b)
      replace Zo := hid (Zo.out.now b)
      replace Pa := hid (Pa.out.step b)
      replace Pb := hid (Pb.out.step b)
      replace Pg := hid (Pg.out.step b)
      replace PN22 := hid (PN22.out.step b)
      replace G := hid (below_step G.out b)
      replace GR := hid (below_step GR.out b)
      have lz197 := (show Below _ _ _ from b).size
      have Zy := hid m0
      clear b m0
      refine hK.out _ _ (fun _ => ⟨Pa.out.c0, Pa.out.c1, Pb.out.c0, Pb.out.c1⟩) ?_
      clear hK
      refine wpAnyT_take (i := 4) (oi := { dst := some 154, op := Op.move (Operand.tmp 158), type := 35, pos := "plain.go:142", after := #[{ on := 3, ground := Ground.data }], guard := none }) (v := (.tuple #[(.agg #[.bool ny, .slice ady xy.length qy]), (.int .i64 0)])) rfl (by kernel_rfl) (fun _ _ _ h => h) (Or.inl ⟨by rfl, ?_⟩) ⟨Pa.out.c0, Pa.out.c1, Pb.out.c0, Pb.out.c1⟩ ?_
      · intro w hSw
        (try dsimp only at hSw)
        go_simp
      simp only [Act.put, List.setIfInBounds_toArray, List.set_cons_zero, List.set_cons_succ]
      refine wpAnyT_take (i := 5) (oi := { dst := some 159, op := Op.extract (Operand.tmp 154) 0, type := 24, pos := "plain.go:142", after := #[{ on := 4, ground := Ground.data }], guard := none }) (v := (.agg #[.bool ny, .slice ady xy.length qy])) rfl (by kernel_rfl) (fun _ _ _ h => h) (Or.inl ⟨by rfl, ?_⟩) ⟨Pa.out.c0, Pa.out.c1, Pb.out.c0, Pb.out.c1⟩ ?_
      · intro w hSw
        (try dsimp only at hSw)
        go_simp
      simp only [Act.put, List.setIfInBounds_toArray, List.set_cons_zero, List.set_cons_succ]
      refine wpAnyT_take (i := 6) (oi := { dst := some 160, op := Op.extract (Operand.tmp 154) 1, type := 34, pos := "plain.go:142", after := #[{ on := 4, ground := Ground.data }, { on := 8, ground := Ground.gcOnly Departure.lateStores }], guard := none }) (v := (.int .i64 0)) rfl (by kernel_rfl) (fun _ _ _ h => h) (Or.inl ⟨by rfl, ?_⟩) ⟨Pa.out.c0, Pa.out.c1, Pb.out.c0, Pb.out.c1⟩ ?_
      · intro w hSw
        (try dsimp only at hSw)
        go_simp
      simp only [Act.put, List.setIfInBounds_toArray, List.set_cons_zero, List.set_cons_succ]
      refine wpAnyT_one (i := 8) (o := { dst := none, op := Op.store 24 (Operand.tmp 22) (Operand.tmp 159), type := 0, pos := "plain.go:142", after := #[{ on := 7, ground := Ground.data }, { on := 5, ground := Ground.data }, { on := 3, ground := Ground.chain }, { on := 0, ground := Ground.phase }, { on := 1, ground := Ground.phase }, { on := 2, ground := Ground.phase }, { on := 3, ground := Ground.phase }, { on := 4, ground := Ground.phase }, { on := 5, ground := Ground.phase }, { on := 6, ground := Ground.textOnly Departure.lateStores }, { on := 7, ground := Ground.phase }], guard := none }) (by kernel_rfl) rfl (fun K hK => ?_)
      have cN220 := PN22.out.c0
      have cN221 := PN22.out.c1
      have fN220 := PN22.out.fz 0
      have fN221 := PN22.out.fz 1
      go_simp
      clear cN220 cN221 fN220 fN221
      obtain ⟨V198, hW⟩ : ∃ V198, (w196.setCell ⟨D178.heap.size, 0, none⟩ (.bool ny)).setCell ⟨D178.heap.size, 1, none⟩ (.slice ady xy.length qy) = V198 := ⟨_, rfl⟩
      replace Za := hid ((Za.out).wk ((PN22.out).wk (.bool ny) (.slice ady xy.length qy)))
      replace Zb := hid ((Zb.out).wk ((PN22.out).wk (.bool ny) (.slice ady xy.length qy)))
      replace Zg := hid ((Zg.out).box (PN22.out) (.bool ny) (.slice ady xy.length qy))
      replace Zo := hid ((Zo.out).wk ((PN22.out).wk (.bool ny) (.slice ady xy.length qy)))
      replace Zy := hid ((Zy.out).box (PN22.out) (.bool ny) (.slice ady xy.length qy))
      replace Pa := hid ((Pa.out).box (b' := D178.heap.size) (by omega) (.bool ny) (.slice ady xy.length qy))
      replace Pb := hid ((Pb.out).box (b' := D178.heap.size) (by omega) (.bool ny) (.slice ady xy.length qy))
      replace Pg := hid ((Pg.out).box (b' := D178.heap.size) (by omega) (.bool ny) (.slice ady xy.length qy))
      replace PN22 := hid ((PN22.out).set (.bool ny) (.slice ady xy.length qy))
      replace G : Hid (Below w.heap.size w (((w196.setCell ⟨D178.heap.size, 0, none⟩ (.bool ny)).setCell ⟨D178.heap.size, 1, none⟩ (.slice ady xy.length qy)))) := bset (bset (G.out) (by omega)) (by omega)
      replace GR : Hid (Below C177.heap.size C177 (((w196.setCell ⟨D178.heap.size, 0, none⟩ (.bool ny)).setCell ⟨D178.heap.size, 1, none⟩ (.slice ady xy.length qy)))) := bset (bset (GR.out) (by omega)) (by omega)
      have sz198 : V198.heap.size = w196.heap.size := by rw [← hW]; simp
      rw [hW] at Za Zb Zg Zo Zy Pa Pb Pg PN22 G GR
      rw [hW]
      clear hW
      refine hK.out _ _ (fun _ => ⟨Pa.out.c0, Pa.out.c1, Pb.out.c0, Pb.out.c1⟩) ?_
      clear hK
      try simp only [Act.put]
      refine wpAnyT_one (i := 9) (o := { dst := some 23, op := Op.assign (Operand.tmp 160), type := 34, pos := "plain.go:142", after := #[{ on := 6, ground := Ground.data }, { on := 8, ground := Ground.chain }, { on := 0, ground := Ground.phase }, { on := 1, ground := Ground.phase }, { on := 2, ground := Ground.phase }, { on := 3, ground := Ground.phase }, { on := 4, ground := Ground.phase }, { on := 5, ground := Ground.phase }, { on := 6, ground := Ground.phase }, { on := 7, ground := Ground.phase }, { on := 8, ground := Ground.phase }], guard := none }) (by kernel_rfl) rfl (fun K hK => ?_)
      go_simp
      refine hK.out _ _ (fun h => absurd h (by decide)) ?_
      clear hK
      try simp only [Act.put]
      refine wpAnyT_done (by kernel_rfl) ?_ _
      go_wp2_with fail
      go_meet
      exact ⟨⟨_, _, _, _, _, rfl, GR.out, by omega, PN22.out.blk, PN22.out, Zy.out.mono (by omega)⟩, rfl⟩
  case rest => as_aux_lemma =>
  obtain ⟨⟨bky, ny, xy, ady, qy, rfl, b, gey, lty, p, m⟩, rfl⟩ := hcut
  replace Za := hid (Za.out.now b)
  replace Zb := hid (Zb.out.now b)
  replace Zg := hid (Zg.out.now b)
  replace Pa := hid (Pa.out.step b)
  replace Pb := hid (Pb.out.step b)
  replace Pg := hid (Pg.out.step b)
  replace G := hid (below_step G.out b)
  have lz200 := (show Below _ _ _ from b).size
  have Zy := hid m
  have Py := hid p
  clear b p m
  generalize wc = C200 at *
  have ca0 := Pa.out.c0
  have ca1 := Pa.out.c1
  have cb0 := Pb.out.c0
  have cb1 := Pb.out.c1
  obtain ⟨U0, hU⟩ : ∃ U0, C200.alloc (.cells #[.int .u64 ((E : Int) + 1)] 45) = U0 := ⟨_, rfl⟩
  obtain ⟨kU, szU⟩ := alloc1 C200 (.cells #[.int .u64 ((E : Int) + 1)] 45)
  rw [hU] at kU szU
  have ZN : Hid (Zi U0 (.agg #[.bool true, .slice (some ⟨C200.heap.size, 0, none⟩) 1 1]) (-((E : Int) + 1)) 1) := by
    unfold Hid
    rw [← hU]
    exact ⟨true, [(E : Int) + 1], _, _, rfl, word_one C200 _ (by omega), by simp [iv, val], by simp⟩
  replace Za := hid (Za.out.now kU)
  replace Zb := hid (Zb.out.now kU)
  replace Zg := hid (Zg.out.now kU)
  replace Zy := hid (Zy.out.now kU)
  replace Pa := hid (Pa.out.step kU)
  replace Pb := hid (Pb.out.step kU)
  replace Pg := hid (Pg.out.step kU)
  replace Py := hid (Py.out.step kU)
  replace G := hid (below_step G.out kU)
  have lz201 := (show Below _ _ _ from kU).size
  have yb0 := Pb.out.c0
  have yb1 := Pb.out.c1
  rw [← hU] at yb0 yb1
  have EU := hid hU
  clear kU hU
  go_wp2_with fail
  rw [EU.out]
  clear EU yb0 yb1 ca0 ca1 cb0 cb1
  refine (powMod_neg Za.out ZN.out Zb.out (by decide) (by decide) (by omega)).mono ?_
  rintro e w202 ⟨r0, rfl, m0, b⟩
  obtain ⟨nn, xn, adn, qn, rfl, -, -, -, -, -⟩ := id m0
  replace Za := hid (Za.out.now b)
  replace Zb := hid (Zb.out.now b)
  replace Zg := hid (Zg.out.now b)
  replace Zy := hid (Zy.out.now b)
  replace Pa := hid (Pa.out.step b)
  replace Pb := hid (Pb.out.step b)
  replace Pg := hid (Pg.out.step b)
  replace Py := hid (Py.out.step b)
  replace G := hid (below_step G.out b)
  have lz203 := (show Below _ _ _ from b).size
  have Zn := hid m0
  clear b m0
  clear ZN
  obtain ⟨V204, hW⟩ : ∃ V204, w202.alloc (duo (.bool nn) (.slice adn xn.length qn)) = V204 := ⟨_, rfl⟩
  obtain ⟨kW, sz204⟩ := alloc1 w202 (duo (.bool nn) (.slice adn xn.length qn))
  rw [hW] at kW sz204
  replace Za := hid (Za.out.now kW)
  replace Zb := hid (Zb.out.now kW)
  replace Zg := hid (Zg.out.now kW)
  replace Zy := hid (Zy.out.now kW)
  replace Zn := hid (Zn.out.now kW)
  replace Pa := hid (Pa.out.step kW)
  replace Pb := hid (Pb.out.step kW)
  replace Pg := hid (Pg.out.step kW)
  replace Py := hid (Py.out.step kW)
  replace G := hid (below_step G.out kW)
  have lz205 := (show Below _ _ _ from kW).size
  have Pn : Hid (Duo V204 (w202.heap.size) (.bool nn) (.slice adn xn.length qn)) := by unfold Hid; rw [← hW]; exact duo_at (by simp)
  clear kW
  have EW := hid hW
  clear hW
  go_wp2_with fail
  rw [EW.out]
  clear EW
  refine wp_region_X (fun w' => w'.cell? ⟨w.heap.size + 1, 0, none⟩ = some (.bool nb) ∧ w'.cell? ⟨w.heap.size + 1, 1, none⟩ = some (.slice adb xb.length cb) ∧ w'.cell? ⟨bkg, 0, none⟩ = some (.bool ng) ∧ w'.cell? ⟨bkg, 1, none⟩ = some (.slice adg xg.length qg) ∧ w'.cell? ⟨bky, 0, none⟩ = some (.bool ny) ∧ w'.cell? ⟨bky, 1, none⟩ = some (.slice ady xy.length qy) ∧ w'.cell? ⟨w.heap.size, 0, none⟩ = some (.bool na) ∧ w'.cell? ⟨w.heap.size, 1, none⟩ = some (.slice ada xa.length ca)) [] (by kernel_rfl) ?_
  obtain ⟨D206, hD⟩ : ∃ D206, V204.drew = D206 := ⟨_, rfl⟩
  have b : Below V204.heap.size V204 D206 := by rw [← hD]; exact (Below.refl _ _).drew
  rw [hD]
  clear hD
  replace Za := hid (Za.out.now b)
  replace Zb := hid (Zb.out.now b)
  replace Zg := hid (Zg.out.now b)
  replace Zy := hid (Zy.out.now b)
  replace Zn := hid (Zn.out.now b)
  replace Pa := hid (Pa.out.step b)
  replace Pb := hid (Pb.out.step b)
  replace Pg := hid (Pg.out.step b)
  replace Py := hid (Py.out.step b)
  replace Pn := hid (Pn.out.step b)
  replace G := hid (below_step G.out b)
  have lz207 := (show Below _ _ _ from b).size
  clear b
  refine wpAnyX_take (i := 0) (oi := { dst := some 182, op := Op.load 24 (Operand.tmp 4), type := 24, pos := "plain.go:147", after := #[], guard := none }) (v := (.agg #[(.bool nb), (.slice adb xb.length cb)])) rfl (by kernel_rfl) (fun _ _ _ h => h) (Or.inl ⟨by rfl, ?_⟩) ⟨Pb.out.c0, Pb.out.c1, Pg.out.c0, Pg.out.c1, Py.out.c0, Py.out.c1, Pa.out.c0, Pa.out.c1⟩ ?_
  · intro w hSw
    (try dsimp only at hSw)
    go_simp
  simp only [Act.put, List.setIfInBounds_toArray, List.set_cons_zero, List.set_cons_succ]
  refine wpAnyX_take (i := 1) (oi := { dst := some 183, op := Op.load 24 (Operand.tmp 20), type := 24, pos := "plain.go:147", after := #[], guard := none }) (v := (.agg #[(.bool ng), (.slice adg xg.length qg)])) rfl (by kernel_rfl) (fun _ _ _ h => h) (Or.inl ⟨by rfl, ?_⟩) ⟨Pb.out.c0, Pb.out.c1, Pg.out.c0, Pg.out.c1, Py.out.c0, Py.out.c1, Pa.out.c0, Pa.out.c1⟩ ?_
  · intro w hSw
    (try dsimp only at hSw)
    go_simp
  simp only [Act.put, List.setIfInBounds_toArray, List.set_cons_zero, List.set_cons_succ]
  refine wpAnyX_one (i := 2) (o := { dst := some 184, op := Op.call { callee := Callee.value (Operand.func 30), args := #[Operand.const (Value.int IntKind.u64 1)], argTypes := #[45] }, type := 24, pos := "plain.go:147", after := #[], guard := none }) (by kernel_rfl) rfl (fun K hK => ?_)
  go_simp
  go_at_call 30
  refine (of6c (n := 1) (by decide) (by decide) _).mono ?_
  rintro e w208 ⟨r0, rfl, m0, b⟩
  obtain ⟨no, xo, ado, qo, rfl, -, -, -, -, -⟩ := id m0
  replace Za := hid (Za.out.now b)
  replace Zb := hid (Zb.out.now b)
  replace Zg := hid (Zg.out.now b)
  replace Zy := hid (Zy.out.now b)
  replace Zn := hid (Zn.out.now b)
  replace Pa := hid (Pa.out.step b)
  replace Pb := hid (Pb.out.step b)
  replace Pg := hid (Pg.out.step b)
  replace Py := hid (Py.out.step b)
  replace Pn := hid (Pn.out.step b)
  replace G := hid (below_step G.out b)
  have lz209 := (show Below _ _ _ from b).size
  have Zo := hid m0
  clear b m0
  refine hK.out _ _ (fun _ _ => ⟨Pb.out.c0, Pb.out.c1, Pg.out.c0, Pg.out.c1, Py.out.c0, Py.out.c1, Pa.out.c0, Pa.out.c1⟩) ?_
  clear hK
  refine wpAnyX_one (i := 3) (o := { dst := some 185, op := Op.call { callee := Callee.value (Operand.func 29), args := #[Operand.tmp 183, Operand.tmp 184], argTypes := #[24, 24] }, type := 24, pos := "plain.go:147", after := #[{ on := 1, ground := Ground.data }, { on := 2, ground := Ground.data }, { on := 2, ground := Ground.chain }], guard := none }) (by kernel_rfl) rfl (fun K hK => ?_)
  go_simp
  go_at_call 29
  refine (rsub_z Zg.out.zi Zo.out.zi (by decide) (by decide)).mono ?_
  rintro e w210 ⟨r0, rfl, m0, b⟩
  obtain ⟨nu, xu, adu, qu, rfl, -, -, -, -, -⟩ := id m0
  replace Za := hid (Za.out.now b)
  replace Zb := hid (Zb.out.now b)
  replace Zg := hid (Zg.out.now b)
  replace Zy := hid (Zy.out.now b)
  replace Zn := hid (Zn.out.now b)
  replace Zo := hid (Zo.out.now b)
  replace Pa := hid (Pa.out.step b)
  replace Pb := hid (Pb.out.step b)
  replace Pg := hid (Pg.out.step b)
  replace Py := hid (Py.out.step b)
  replace Pn := hid (Pn.out.step b)
  replace G := hid (below_step G.out b)
  have lz211 := (show Below _ _ _ from b).size
  have Zu := hid m0
  clear b m0
  refine hK.out _ _ (fun _ _ => ⟨Pb.out.c0, Pb.out.c1, Pg.out.c0, Pg.out.c1, Py.out.c0, Py.out.c1, Pa.out.c0, Pa.out.c1⟩) ?_
  clear hK
  refine wpAnyX_one (i := 4) (o := { dst := some 186, op := Op.call { callee := Callee.value (Operand.func 16), args := #[Operand.tmp 182, Operand.tmp 185], argTypes := #[24, 24] }, type := 4, pos := "plain.go:147", after := #[{ on := 0, ground := Ground.data }, { on := 3, ground := Ground.data }, { on := 3, ground := Ground.chain }], guard := none }) (by kernel_rfl) rfl (fun K hK => ?_)
  go_simp
  go_at_call 16
  refine (divides6 Zb.out Zu.out.zi (by decide) (by decide) (powers_d0 A B)).mono ?_
  rintro e w212 ⟨rfl, b⟩
  replace Za := hid (Za.out.now b)
  replace Zb := hid (Zb.out.now b)
  replace Zg := hid (Zg.out.now b)
  replace Zy := hid (Zy.out.now b)
  replace Zn := hid (Zn.out.now b)
  replace Zo := hid (Zo.out.now b)
  replace Zu := hid (Zu.out.now b)
  replace Pa := hid (Pa.out.step b)
  replace Pb := hid (Pb.out.step b)
  replace Pg := hid (Pg.out.step b)
  replace Py := hid (Py.out.step b)
  replace Pn := hid (Pn.out.step b)
  replace G := hid (below_step G.out b)
  have lz213 := (show Below _ _ _ from b).size
  clear b 
  refine hK.out _ _ (fun _ _ => ⟨Pb.out.c0, Pb.out.c1, Pg.out.c0, Pg.out.c1, Py.out.c0, Py.out.c1, Pa.out.c0, Pa.out.c1⟩) ?_
  clear hK
  refine wpAnyX_pure (i := 5) (oi := { dst := some 187, op := Op.move (Operand.tmp 186), type := 4, pos := "plain.go:147", after := #[{ on := 4, ground := Ground.data }, { on := 4, ground := Ground.chain }], guard := none }) (v := (.bool true)) rfl (by kernel_rfl) (fun _ _ _ h => h) (Or.inl ⟨by rfl, ?_⟩)  ?_
  · intro w hSw
    (try dsimp only at hSw)
    go_simp
  simp only [Act.put, List.setIfInBounds_toArray, List.set_cons_zero, List.set_cons_succ]
  refine wpAnyX_take (i := 6) (oi := { dst := some 188, op := Op.load 24 (Operand.tmp 20), type := 24, pos := "plain.go:147", after := #[{ on := 5, ground := Ground.guard }], guard := some (5, true) }) (v := (.agg #[(.bool ng), (.slice adg xg.length qg)])) rfl (by kernel_rfl) (fun _ _ _ h => h) (Or.inl ⟨by rfl, ?_⟩) ⟨Pb.out.c0, Pb.out.c1, Pg.out.c0, Pg.out.c1, Py.out.c0, Py.out.c1, Pa.out.c0, Pa.out.c1⟩ ?_
  · intro w hSw
    (try dsimp only at hSw)
    go_simp
  simp only [Act.put, List.setIfInBounds_toArray, List.set_cons_zero, List.set_cons_succ]
  refine wpAnyX_take (i := 7) (oi := { dst := some 189, op := Op.load 24 (Operand.tmp 4), type := 24, pos := "plain.go:147", after := #[{ on := 5, ground := Ground.guard }], guard := some (5, true) }) (v := (.agg #[(.bool nb), (.slice adb xb.length cb)])) rfl (by kernel_rfl) (fun _ _ _ h => h) (Or.inl ⟨by rfl, ?_⟩) ⟨Pb.out.c0, Pb.out.c1, Pg.out.c0, Pg.out.c1, Py.out.c0, Py.out.c1, Pa.out.c0, Pa.out.c1⟩ ?_
  · intro w hSw
    (try dsimp only at hSw)
    go_simp
  simp only [Act.put, List.setIfInBounds_toArray, List.set_cons_zero, List.set_cons_succ]
  refine wpAnyX_one (i := 8) (o := { dst := some 190, op := Op.call { callee := Callee.value (Operand.func 23), args := #[Operand.tmp 188, Operand.tmp 189], argTypes := #[24, 24] }, type := 4, pos := "plain.go:147", after := #[{ on := 6, ground := Ground.data }, { on := 7, ground := Ground.data }, { on := 5, ground := Ground.chain }, { on := 5, ground := Ground.guard }], guard := some (5, true) }) (by kernel_rfl) rfl (fun K hK => ?_)
  go_simp
  go_at_call 23
  refine (within6 Zg.out.zi Zb.out (by decide) (HI.out 0)).mono ?_
  rintro e w214 ⟨rfl, b⟩
  replace Za := hid (Za.out.now b)
  replace Zb := hid (Zb.out.now b)
  replace Zg := hid (Zg.out.now b)
  replace Zy := hid (Zy.out.now b)
  replace Zn := hid (Zn.out.now b)
  replace Zo := hid (Zo.out.now b)
  replace Zu := hid (Zu.out.now b)
  replace Pa := hid (Pa.out.step b)
  replace Pb := hid (Pb.out.step b)
  replace Pg := hid (Pg.out.step b)
  replace Py := hid (Py.out.step b)
  replace Pn := hid (Pn.out.step b)
  replace G := hid (below_step G.out b)
  have lz215 := (show Below _ _ _ from b).size
  clear b 
  refine hK.out _ _ (fun _ _ => ⟨Pb.out.c0, Pb.out.c1, Pg.out.c0, Pg.out.c1, Py.out.c0, Py.out.c1, Pa.out.c0, Pa.out.c1⟩) ?_
  clear hK
  refine wpAnyX_pure (i := 9) (oi := { dst := some 191, op := Op.pick (Operand.tmp 187) (Operand.tmp 190) (Operand.const (Value.bool false)), type := 4, pos := "plain.go:147", after := #[{ on := 5, ground := Ground.data }, { on := 8, ground := Ground.data }], guard := none }) (v := (.bool true)) rfl (by kernel_rfl) (fun _ _ _ h => h) (Or.inl ⟨by rfl, ?_⟩)  ?_
  · intro w hSw
    (try dsimp only at hSw)
    go_simp
  simp only [Act.put, List.setIfInBounds_toArray, List.set_cons_zero, List.set_cons_succ]
  refine wpAnyX_pure (i := 10) (oi := { dst := some 192, op := Op.move (Operand.tmp 191), type := 4, pos := "plain.go:147", after := #[{ on := 9, ground := Ground.data }, { on := 8, ground := Ground.chain }], guard := none }) (v := (.bool true)) rfl (by kernel_rfl) (fun _ _ _ h => h) (Or.inl ⟨by rfl, ?_⟩)  ?_
  · intro w hSw
    (try dsimp only at hSw)
    go_simp
  simp only [Act.put, List.setIfInBounds_toArray, List.set_cons_zero, List.set_cons_succ]
  refine wpAnyX_take (i := 11) (oi := { dst := some 193, op := Op.load 24 (Operand.tmp 4), type := 24, pos := "plain.go:147", after := #[{ on := 10, ground := Ground.guard }], guard := some (10, true) }) (v := (.agg #[(.bool nb), (.slice adb xb.length cb)])) rfl (by kernel_rfl) (fun _ _ _ h => h) (Or.inl ⟨by rfl, ?_⟩) ⟨Pb.out.c0, Pb.out.c1, Pg.out.c0, Pg.out.c1, Py.out.c0, Py.out.c1, Pa.out.c0, Pa.out.c1⟩ ?_
  · intro w hSw
    (try dsimp only at hSw)
    go_simp
  simp only [Act.put, List.setIfInBounds_toArray, List.set_cons_zero, List.set_cons_succ]
  refine wpAnyX_take (i := 12) (oi := { dst := some 194, op := Op.load 24 (Operand.tmp 22), type := 24, pos := "plain.go:147", after := #[{ on := 10, ground := Ground.guard }], guard := some (10, true) }) (v := (.agg #[(.bool ny), (.slice ady xy.length qy)])) rfl (by kernel_rfl) (fun _ _ _ h => h) (Or.inl ⟨by rfl, ?_⟩) ⟨Pb.out.c0, Pb.out.c1, Pg.out.c0, Pg.out.c1, Py.out.c0, Py.out.c1, Pa.out.c0, Pa.out.c1⟩ ?_
  · intro w hSw
    (try dsimp only at hSw)
    go_simp
  simp only [Act.put, List.setIfInBounds_toArray, List.set_cons_zero, List.set_cons_succ]
  refine wpAnyX_take (i := 13) (oi := { dst := some 195, op := Op.load 24 (Operand.tmp 3), type := 24, pos := "plain.go:147", after := #[{ on := 10, ground := Ground.guard }], guard := some (10, true) }) (v := (.agg #[(.bool na), (.slice ada xa.length ca)])) rfl (by kernel_rfl) (fun _ _ _ h => h) (Or.inl ⟨by rfl, ?_⟩) ⟨Pb.out.c0, Pb.out.c1, Pg.out.c0, Pg.out.c1, Py.out.c0, Py.out.c1, Pa.out.c0, Pa.out.c1⟩ ?_
  · intro w hSw
    (try dsimp only at hSw)
    go_simp
  simp only [Act.put, List.setIfInBounds_toArray, List.set_cons_zero, List.set_cons_succ]
  refine wpAnyX_one (i := 14) (o := { dst := some 196, op := Op.call { callee := Callee.value (Operand.func 29), args := #[Operand.tmp 194, Operand.tmp 195], argTypes := #[24, 24] }, type := 24, pos := "plain.go:147", after := #[{ on := 12, ground := Ground.data }, { on := 13, ground := Ground.data }, { on := 10, ground := Ground.chain }, { on := 10, ground := Ground.guard }], guard := some (10, true) }) (by kernel_rfl) rfl (fun K hK => ?_)
  go_simp
  go_at_call 29
  refine (rsub_z Zy.out.zi Za.out (by decide) (by decide)).mono ?_
  rintro e w216 ⟨r0, rfl, m0, b⟩
  obtain ⟨nt, xt, adt, qt, rfl, -, -, -, -, -⟩ := id m0
  replace Za := hid (Za.out.now b)
  replace Zb := hid (Zb.out.now b)
  replace Zg := hid (Zg.out.now b)
  replace Zy := hid (Zy.out.now b)
  replace Zn := hid (Zn.out.now b)
  replace Zo := hid (Zo.out.now b)
  replace Zu := hid (Zu.out.now b)
  replace Pa := hid (Pa.out.step b)
  replace Pb := hid (Pb.out.step b)
  replace Pg := hid (Pg.out.step b)
  replace Py := hid (Py.out.step b)
  replace Pn := hid (Pn.out.step b)
  replace G := hid (below_step G.out b)
  have lz217 := (show Below _ _ _ from b).size
  have Zt := hid m0
  clear b m0
  refine hK.out _ _ (fun _ _ => ⟨Pb.out.c0, Pb.out.c1, Pg.out.c0, Pg.out.c1, Py.out.c0, Py.out.c1, Pa.out.c0, Pa.out.c1⟩) ?_
  clear hK
  refine wpAnyX_one (i := 15) (o := { dst := some 197, op := Op.call { callee := Callee.value (Operand.func 16), args := #[Operand.tmp 193, Operand.tmp 196], argTypes := #[24, 24] }, type := 4, pos := "plain.go:147", after := #[{ on := 11, ground := Ground.data }, { on := 14, ground := Ground.data }, { on := 14, ground := Ground.chain }, { on := 10, ground := Ground.guard }], guard := some (10, true) }) (by kernel_rfl) rfl (fun K hK => ?_)
  go_simp
  go_at_call 16
  refine (divides6 Zb.out Zt.out.zi (by decide) (by decide) (powers_da A B)).mono ?_
  rintro e w218 ⟨rfl, b⟩
  replace Za := hid (Za.out.now b)
  replace Zb := hid (Zb.out.now b)
  replace Zg := hid (Zg.out.now b)
  replace Zy := hid (Zy.out.now b)
  replace Zn := hid (Zn.out.now b)
  replace Zo := hid (Zo.out.now b)
  replace Zu := hid (Zu.out.now b)
  replace Zt := hid (Zt.out.now b)
  replace Pa := hid (Pa.out.step b)
  replace Pb := hid (Pb.out.step b)
  replace Pg := hid (Pg.out.step b)
  replace Py := hid (Py.out.step b)
  replace Pn := hid (Pn.out.step b)
  replace G := hid (below_step G.out b)
  have lz219 := (show Below _ _ _ from b).size
  clear b 
  refine hK.out _ _ (fun _ _ => ⟨Pb.out.c0, Pb.out.c1, Pg.out.c0, Pg.out.c1, Py.out.c0, Py.out.c1, Pa.out.c0, Pa.out.c1⟩) ?_
  clear hK
  refine wpAnyX_pure (i := 16) (oi := { dst := some 198, op := Op.pick (Operand.tmp 192) (Operand.tmp 197) (Operand.const (Value.bool false)), type := 4, pos := "plain.go:147", after := #[{ on := 10, ground := Ground.data }, { on := 15, ground := Ground.data }], guard := none }) (v := (.bool true)) rfl (by kernel_rfl) (fun _ _ _ h => h) (Or.inl ⟨by rfl, ?_⟩)  ?_
  · intro w hSw
    (try dsimp only at hSw)
    go_simp
  simp only [Act.put, List.setIfInBounds_toArray, List.set_cons_zero, List.set_cons_succ]
  refine wpAnyX_pure (i := 17) (oi := { dst := some 199, op := Op.move (Operand.tmp 198), type := 4, pos := "plain.go:147", after := #[{ on := 16, ground := Ground.data }, { on := 15, ground := Ground.chain }], guard := none }) (v := (.bool true)) rfl (by kernel_rfl) (fun _ _ _ h => h) (Or.inl ⟨by rfl, ?_⟩)  ?_
  · intro w hSw
    (try dsimp only at hSw)
    go_simp
  simp only [Act.put, List.setIfInBounds_toArray, List.set_cons_zero, List.set_cons_succ]
  refine wpAnyX_take (i := 18) (oi := { dst := some 200, op := Op.load 24 (Operand.tmp 22), type := 24, pos := "plain.go:147", after := #[{ on := 17, ground := Ground.guard }], guard := some (17, true) }) (v := (.agg #[(.bool ny), (.slice ady xy.length qy)])) rfl (by kernel_rfl) (fun _ _ _ h => h) (Or.inl ⟨by rfl, ?_⟩) ⟨Pb.out.c0, Pb.out.c1, Pg.out.c0, Pg.out.c1, Py.out.c0, Py.out.c1, Pa.out.c0, Pa.out.c1⟩ ?_
  · intro w hSw
    (try dsimp only at hSw)
    go_simp
  simp only [Act.put, List.setIfInBounds_toArray, List.set_cons_zero, List.set_cons_succ]
  refine wpAnyX_take (i := 19) (oi := { dst := some 201, op := Op.load 24 (Operand.tmp 4), type := 24, pos := "plain.go:147", after := #[{ on := 17, ground := Ground.guard }], guard := some (17, true) }) (v := (.agg #[(.bool nb), (.slice adb xb.length cb)])) rfl (by kernel_rfl) (fun _ _ _ h => h) (Or.inl ⟨by rfl, ?_⟩) ⟨Pb.out.c0, Pb.out.c1, Pg.out.c0, Pg.out.c1, Py.out.c0, Py.out.c1, Pa.out.c0, Pa.out.c1⟩ ?_
  · intro w hSw
    (try dsimp only at hSw)
    go_simp
  simp only [Act.put, List.setIfInBounds_toArray, List.set_cons_zero, List.set_cons_succ]
  refine wpAnyX_one (i := 20) (o := { dst := some 202, op := Op.call { callee := Callee.value (Operand.func 23), args := #[Operand.tmp 200, Operand.tmp 201], argTypes := #[24, 24] }, type := 4, pos := "plain.go:147", after := #[{ on := 18, ground := Ground.data }, { on := 19, ground := Ground.data }, { on := 17, ground := Ground.chain }, { on := 17, ground := Ground.guard }], guard := some (17, true) }) (by kernel_rfl) rfl (fun K hK => ?_)
  go_simp
  go_at_call 23
  refine (within6 Zy.out.zi Zb.out (by decide) (HI.out 1)).mono ?_
  rintro e w220 ⟨rfl, b⟩
  replace Za := hid (Za.out.now b)
  replace Zb := hid (Zb.out.now b)
  replace Zg := hid (Zg.out.now b)
  replace Zy := hid (Zy.out.now b)
  replace Zn := hid (Zn.out.now b)
  replace Zo := hid (Zo.out.now b)
  replace Zu := hid (Zu.out.now b)
  replace Zt := hid (Zt.out.now b)
  replace Pa := hid (Pa.out.step b)
  replace Pb := hid (Pb.out.step b)
  replace Pg := hid (Pg.out.step b)
  replace Py := hid (Py.out.step b)
  replace Pn := hid (Pn.out.step b)
  replace G := hid (below_step G.out b)
  have lz221 := (show Below _ _ _ from b).size
  clear b 
  refine hK.out _ _ (fun _ _ => ⟨Pb.out.c0, Pb.out.c1, Pg.out.c0, Pg.out.c1, Py.out.c0, Py.out.c1, Pa.out.c0, Pa.out.c1⟩) ?_
  clear hK
  refine wpAnyX_pure (i := 21) (oi := { dst := some 203, op := Op.pick (Operand.tmp 199) (Operand.tmp 202) (Operand.const (Value.bool false)), type := 4, pos := "plain.go:147", after := #[{ on := 17, ground := Ground.data }, { on := 20, ground := Ground.data }], guard := none }) (v := (.bool true)) rfl (by kernel_rfl) (fun _ _ _ h => h) (Or.inl ⟨by rfl, ?_⟩)  ?_
  · intro w hSw
    (try dsimp only at hSw)
    go_simp
  simp only [Act.put, List.setIfInBounds_toArray, List.set_cons_zero, List.set_cons_succ]
  refine wpAnyX_pure (i := 22) (oi := { dst := some 6, op := Op.assign (Operand.tmp 203), type := 4, pos := "plain.go:147", after := #[{ on := 21, ground := Ground.data }, { on := 20, ground := Ground.chain }, { on := 0, ground := Ground.phase }, { on := 1, ground := Ground.phase }, { on := 2, ground := Ground.phase }, { on := 3, ground := Ground.phase }, { on := 4, ground := Ground.phase }, { on := 5, ground := Ground.phase }, { on := 6, ground := Ground.phase }, { on := 7, ground := Ground.phase }, { on := 8, ground := Ground.phase }, { on := 9, ground := Ground.phase }, { on := 10, ground := Ground.phase }, { on := 11, ground := Ground.phase }, { on := 12, ground := Ground.phase }, { on := 13, ground := Ground.phase }, { on := 14, ground := Ground.phase }, { on := 15, ground := Ground.phase }, { on := 16, ground := Ground.phase }, { on := 17, ground := Ground.phase }, { on := 18, ground := Ground.phase }, { on := 19, ground := Ground.phase }, { on := 20, ground := Ground.phase }, { on := 21, ground := Ground.phase }], guard := none }) (v := (.bool true)) rfl (by kernel_rfl) (fun _ _ _ h => h) (Or.inl ⟨by rfl, ?_⟩)  ?_
  · intro w hSw
    (try dsimp only at hSw)
    go_simp
  simp only [Act.put, List.setIfInBounds_toArray, List.set_cons_zero, List.set_cons_succ]
  refine wpAnyX_done (by kernel_rfl) ?_ _
  go_wp2
  go_ret
  exact ⟨rfl, G.out⟩

theorem bezoutPowers_any {w : World} {va vb : Value} {A B : Int} {E F : Nat} (ha : Zi w va A 1048576) (hb : Zi w vb B 1048576) (hE : E ≤ 255) (hF : F ≤ 255) :
    Calls Try.prog 6 #[va, vb, .agg #[.int .u8 (E : Int), .int .u8 (F : Int)]] w fun e w' => e = .returned (.bool true) ∧ Below w.heap.size w w' := by
  by_cases hB : B = 0
  · exact powers_zero ha hb hE hF hB
  · exact powers_some ha hb hE hF hB
end Go.Proofs.Ythdnnphpjdchnaa
