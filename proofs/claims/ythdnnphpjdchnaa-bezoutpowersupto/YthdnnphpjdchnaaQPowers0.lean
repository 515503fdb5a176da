/-
  Powers0: BezoutPowers in numbers; where m is 0.
-/
import Derived.Test.YthdnnphpjdchnaaQPow6
import Derived.Test.YthdnnphpjdchnaaQWakes6
import Derived.Test.YthdnnphpjdchnaaQR5AddToZNil
import Derived.Test.YthdnnphpjdchnaaQTwosToCells6
namespace Go.Proofs.Ythdnnphpjdchnaa
open Go.RowKit
set_option linter.unusedVariables false

theorem powMod_nat {w : World} {va vx vb : Value} {A B : Int} {n k kx : Nat} (ha : Zi w va A k) (hx : Zi w vx (n : Int) kx) (hb : Zi w vb B k) (h1 : 1 ≤ k) (hk : k ≤ 17179869184) (hB : B ≠ 0) (hkx : kx ≤ 1048576) : Calls Try.prog 32 #[va, vx, vb] w (GivesZ1 0 w (pmod A n B) k) := by
  have q := powMod_some ha hx hb h1 hk (by omega) hB hkx
  rwa [Int.toNat_natCast] at q
theorem dvd_sub_emod (x B : Int) : B ∣ x - x % B := ⟨x / B, by have := Int.emod_def x B; omega⟩
theorem pmod_add (A : Int) (m n : Nat) (B : Int) : (pmod A m B * pmod A n B) % B = pmod A (m + n) B := by
  unfold pmod
  rw [emod_mul_left, emod_mul_right, ← Int.pow_add]
theorem pmod_base (A : Int) (n : Nat) (B : Int) : pmod (A % B) n B = pmod A n B := by
  induction n with
  | zero => simp [pmod]
  | succ n ih =>
    have h1 := pmod_more (A % B) n B
    have h2 := pmod_more A n B
    rw [Int.emod_emod, ih] at h1
    rw [← h1, ← h2]
theorem pmod_pmod (A : Int) (m n : Nat) (B : Int) : pmod (pmod A m B) n B = pmod A (m * n) B := by
  have h := pmod_base (A ^ m) n B
  unfold pmod at h ⊢
  rw [h, ← Int.pow_mul]
theorem powers_d1 (A B : Int) (m n : Nat) : B ∣ pmod A m B * pmod A n B - pmod A (m + n) B := by
  rw [← pmod_add]
  exact dvd_sub_emod _ _
theorem powers_d0 (A B : Int) : B ∣ pmod A 0 B - 1 := by
  have h := dvd_sub_emod 1 B
  rw [pmod_zero]
  have := Int.dvd_neg.2 h
  rwa [show -(1 - 1 % B) = 1 % B - 1 by omega] at this
theorem powers_da (A B : Int) : B ∣ pmod A 1 B - A := by
  have h := dvd_sub_emod A B
  have e : pmod A 1 B = A % B := by unfold pmod; rw [show (1 : Nat) = 0 + 1 from rfl, Int.pow_succ, Int.pow_zero, Int.one_mul]
  rw [e]
  have := Int.dvd_neg.2 h
  rwa [show -(A - A % B) = A % B - A by omega] at this

set_option maxHeartbeats 102400000 in
set_option maxRecDepth 100000 in
theorem powers_zero {w : World} {va vb : Value} {A B : Int} {E F : Nat} (ha : Zi w va A 1048576) (hb : Zi w vb B 1048576) (hE : E ≤ 255) (hF : F ≤ 255) (hB : B = 0) :
    Calls Try.prog 6 #[va, vb, .agg #[.int .u8 (E : Int), .int .u8 (F : Int)]] w fun e w' => e = .returned (.bool true) ∧ Below w.heap.size w w' := by
  have HB := hid hB
  clear hB
  have za0 := ha
  obtain ⟨na, xa, ada, ca, rfl, -, -, -⟩ := ha
  have zb0 := hb
  obtain ⟨nb, xb, adb, cb, rfl, -, -, -⟩ := hb
  obtain ⟨W0, hW⟩ : ∃ W0, ((w.alloc (duo (.bool na) (.slice ada xa.length ca))).alloc (duo (.bool nb) (.slice adb xb.length cb))).alloc (.cells #[.int .u8 (E : Int), .int .u8 (F : Int)] 46) = W0 := ⟨_, rfl⟩
  obtain ⟨b0, sz0⟩ := alloc3 w (duo (.bool na) (.slice ada xa.length ca)) (duo (.bool nb) (.slice adb xb.length cb)) (.cells #[.int .u8 (E : Int), .int .u8 (F : Int)] 46)
  rw [hW] at b0 sz0
  have Pa : Hid (Duo W0 (w.heap.size) (.bool na) (.slice ada xa.length ca)) := by unfold Hid; rw [← hW]; exact duo_late (duo_late (duo_at rfl) _) _
  have Pb : Hid (Duo W0 (w.heap.size + 1) (.bool nb) (.slice adb xb.length cb)) := by unfold Hid; rw [← hW]; exact duo_late (duo_at (by simp)) _
  have PES : Hid (Cel W0 (w.heap.size + 1 + 1) 46 [(.int .u8 (E : Int)), (.int .u8 (F : Int))]) := by unfold Hid; rw [← hW]; exact cel_at (by simp)
  have Za := hid (za0.now b0)
  clear za0
  have Zb := hid (zb0.now b0)
  clear zb0
  have G := hid b0
  clear b0
  have EW := hid hW
  clear hW
  have u1 : IntKind.u64.wrap (E : Int) = (E : Int) := by rw [IntKind.wrap_u64]; omega
  have u2 : IntKind.u64.wrap (F : Int) = (F : Int) := by rw [IntKind.wrap_u64]; omega
  have u3 : IntKind.u64.wrap ((E : Int) + (F : Int)) = ((E + F : Nat) : Int) := by rw [IntKind.wrap_u64]; omega
  have hEF : E * F ≤ 65025 := Nat.mul_le_mul hE hF
  have u4 : IntKind.u64.wrap ((E : Int) * (F : Int)) = ((E * F : Nat) : Int) := by rw [IntKind.wrap_u64]; push_cast at hEF ⊢; have : (E : Int) * (F : Int) = ((E * F : Nat) : Int) := by push_cast; rfl
                                                                                   omega
  have u5 : IntKind.u64.wrap ((E : Int) + 1) = (E : Int) + 1 := by rw [IntKind.wrap_u64]; omega
  go_enter Try.func6, Try.ntmps6
  skip
  go_wp2_with fail
  rw [EW.out]
  clear EW
  refine (wakes6 _).mono ?_
  rintro e w1 ⟨rfl, b⟩
  replace Za := hid (Za.out.now b)
  replace Zb := hid (Zb.out.now b)
  replace Pa := hid (Pa.out.step b)
  replace Pb := hid (Pb.out.step b)
  replace PES := hid (PES.out.step b)
  replace G := hid (below_step G.out b)
  have lz2 := (show Below _ _ _ from b).size
  clear b 
  have cES0 := (PES.out.at (i := 0) rfl)
  have cES1 := (PES.out.at (i := 1) rfl)
  go_wp2_with fail
  clear cES0 cES1
  clear PES
  go_cut [9, 10] from 26 (fun s1 s2 wx => MetB w1 wx s1 (0) (1048576) ∧ s2 = .int .i64 4)
  case first =>
    have GR : Hid (Below w1.heap.size w1 w1) := Below.refl _ _
    refine wp_region_tail (fun w' => w'.cell? ⟨w.heap.size, 0, none⟩ = some (.bool na) ∧ w'.cell? ⟨w.heap.size, 1, none⟩ = some (.slice ada xa.length ca) ∧ w'.cell? ⟨w.heap.size + 1, 0, none⟩ = some (.bool nb) ∧ w'.cell? ⟨w.heap.size + 1, 1, none⟩ = some (.slice adb xb.length cb)) 11 (by kernel_rfl) ?_
    obtain ⟨D3, hD⟩ : ∃ D3, w1.drew = D3 := ⟨_, rfl⟩
    have b : Below w1.heap.size w1 D3 := by rw [← hD]; exact (Below.refl _ _).drew
    rw [hD]
    clear hD
    replace Za := hid (Za.out.now b)
    replace Zb := hid (Zb.out.now b)
    replace Pa := hid (Pa.out.step b)
    replace Pb := hid (Pb.out.step b)
    replace G := hid (below_step G.out b)
    replace GR := hid (below_step GR.out b)
    have lz4 := (show Below _ _ _ from b).size
    clear b
    refine wpAnyT_take (i := 0) (oi := { dst := some 33, op := Op.load 24 (Operand.tmp 3), type := 24, pos := "plain.go:123", after := #[], guard := none }) (v := (.agg #[(.bool na), (.slice ada xa.length ca)])) rfl (by kernel_rfl) (fun _ _ _ h => h) (Or.inl ⟨by rfl, ?_⟩) ⟨Pa.out.c0, Pa.out.c1, Pb.out.c0, Pb.out.c1⟩ ?_
    · intro w hSw
      (try dsimp only at hSw)
      go_simp
    simp only [Act.put, List.setIfInBounds_toArray, List.set_cons_zero, List.set_cons_succ]
    refine wpAnyT_take (i := 1) (oi := { dst := some 34, op := Op.move (Operand.tmp 7), type := 5, pos := "plain.go:123", after := #[], guard := none }) (v := (.int .u8 (E : Int))) rfl (by kernel_rfl) (fun _ _ _ h => h) (Or.inl ⟨by rfl, ?_⟩) ⟨Pa.out.c0, Pa.out.c1, Pb.out.c0, Pb.out.c1⟩ ?_
    · intro w hSw
      (try dsimp only at hSw)
      go_simp
    simp only [Act.put, List.setIfInBounds_toArray, List.set_cons_zero, List.set_cons_succ]
    refine wpAnyT_take (i := 2) (oi := { dst := some 35, op := Op.convert 5 45 (Operand.tmp 34), type := 45, pos := "plain.go:123", after := #[{ on := 1, ground := Ground.data }], guard := none }) (v := (.int .u64 (E : Int))) rfl (by kernel_rfl) (fun _ _ _ h => h) (Or.inl ⟨by rfl, ?_⟩) ⟨Pa.out.c0, Pa.out.c1, Pb.out.c0, Pb.out.c1⟩ ?_
    · intro w hSw
      (try dsimp only at hSw)
      go_simp
    simp only [Act.put, List.setIfInBounds_toArray, List.set_cons_zero, List.set_cons_succ]
    refine wpAnyT_take (i := 4) (oi := { dst := some 37, op := Op.load 24 (Operand.tmp 4), type := 24, pos := "plain.go:123", after := #[], guard := none }) (v := (.agg #[(.bool nb), (.slice adb xb.length cb)])) rfl (by kernel_rfl) (fun _ _ _ h => h) (Or.inl ⟨by rfl, ?_⟩) ⟨Pa.out.c0, Pa.out.c1, Pb.out.c0, Pb.out.c1⟩ ?_
    · intro w hSw
      (try dsimp only at hSw)
      go_simp
    simp only [Act.put, List.setIfInBounds_toArray, List.set_cons_zero, List.set_cons_succ]
    refine wpAnyT_two (i := 3) (j := 9) (oi := { dst := some 36, op := Op.call { callee := Callee.value (Operand.func 30), args := #[Operand.tmp 35], argTypes := #[45] }, type := 24, pos := "plain.go:123", after := #[{ on := 2, ground := Ground.data }], guard := none }) (oj := { dst := some 9, op := Op.alloc 24, type := 0, pos := "plain.go:123", after := #[], guard := none }) (by kernel_rfl) rfl rfl (fun K hK => ?_) (fun K hK => ?_)
    · skip
      go_simp
      go_at_call 30
      refine (of6i (n := (E : Int)) (by omega) (by omega) _).mono ?_
      rintro e w5 ⟨r0, rfl, m0, b⟩
      obtain ⟨no, xo, ado, qo, rfl, -, -, -⟩ := id m0
      replace Za := hid (Za.out.now b)
      replace Zb := hid (Zb.out.now b)
      replace Pa := hid (Pa.out.step b)
      replace Pb := hid (Pb.out.step b)
      replace G := hid (below_step G.out b)
      replace GR := hid (below_step GR.out b)
      have lz6 := (show Below _ _ _ from b).size
      have Zo := hid m0
      clear b m0
      refine hK.out _ _ (fun _ => ⟨Pa.out.c0, Pa.out.c1, Pb.out.c0, Pb.out.c1⟩) ?_
      clear hK
      refine wpAnyT_two (i := 5) (j := 9) (oi := { dst := some 38, op := Op.call { callee := Callee.value (Operand.func 32), args := #[Operand.tmp 33, Operand.tmp 36, Operand.tmp 37], argTypes := #[24, 24, 24] }, type := 35, pos := "plain.go:123", after := #[{ on := 0, ground := Ground.data }, { on := 3, ground := Ground.data }, { on := 4, ground := Ground.data }, { on := 3, ground := Ground.chain }], guard := none }) (oj := { dst := some 9, op := Op.alloc 24, type := 0, pos := "plain.go:123", after := #[], guard := none }) (by kernel_rfl) rfl rfl (fun K hK => ?_) (fun K hK => ?_)
      · skip
        go_simp
        go_at_call 32
        refine (powMod_zero Za.out Zo.out Zb.out (by decide) (by decide) (by omega) HB.out).mono ?_
        rintro e w7 ⟨r0, rfl, m0, b⟩
        obtain ⟨np, xp, adp, qp, rfl, -, -, -, -, -⟩ := id m0
        replace Za := hid (Za.out.now b)
        replace Zb := hid (Zb.out.now b)
        replace Zo := hid (Zo.out.now b)
        replace Pa := hid (Pa.out.step b)
        replace Pb := hid (Pb.out.step b)
        replace G := hid (below_step G.out b)
        replace GR := hid (below_step GR.out b)
        have lz8 := (show Below _ _ _ from b).size
        have Zp := hid m0
        clear b m0
        refine hK.out _ _ (fun _ => ⟨Pa.out.c0, Pa.out.c1, Pb.out.c0, Pb.out.c1⟩) ?_
        clear hK
        refine wpAnyT_take (i := 6) (oi := { dst := some 32, op := Op.move (Operand.tmp 38), type := 35, pos := "plain.go:123", after := #[{ on := 5, ground := Ground.data }], guard := none }) (v := (.tuple #[(.agg #[.bool np, .slice adp xp.length qp]), (.int .i64 4)])) rfl (by kernel_rfl) (fun _ _ _ h => h) (Or.inl ⟨by rfl, ?_⟩) ⟨Pa.out.c0, Pa.out.c1, Pb.out.c0, Pb.out.c1⟩ ?_
        · intro w hSw
          (try dsimp only at hSw)
          go_simp
        simp only [Act.put, List.setIfInBounds_toArray, List.set_cons_zero, List.set_cons_succ]
        refine wpAnyT_take (i := 7) (oi := { dst := some 39, op := Op.extract (Operand.tmp 32) 0, type := 24, pos := "plain.go:123", after := #[{ on := 6, ground := Ground.data }], guard := none }) (v := (.agg #[.bool np, .slice adp xp.length qp])) rfl (by kernel_rfl) (fun _ _ _ h => h) (Or.inl ⟨by rfl, ?_⟩) ⟨Pa.out.c0, Pa.out.c1, Pb.out.c0, Pb.out.c1⟩ ?_
        · intro w hSw
          (try dsimp only at hSw)
          go_simp
        simp only [Act.put, List.setIfInBounds_toArray, List.set_cons_zero, List.set_cons_succ]
        refine wpAnyT_take (i := 8) (oi := { dst := some 40, op := Op.extract (Operand.tmp 32) 1, type := 34, pos := "plain.go:123", after := #[{ on := 6, ground := Ground.data }, { on := 10, ground := Ground.gcOnly Departure.lateStores }], guard := none }) (v := (.int .i64 4)) rfl (by kernel_rfl) (fun _ _ _ h => h) (Or.inl ⟨by rfl, ?_⟩) ⟨Pa.out.c0, Pa.out.c1, Pb.out.c0, Pb.out.c1⟩ ?_
        · intro w hSw
          (try dsimp only at hSw)
          go_simp
        simp only [Act.put, List.setIfInBounds_toArray, List.set_cons_zero, List.set_cons_succ]
        refine wpAnyT_one (i := 9) (o := { dst := some 9, op := Op.alloc 24, type := 0, pos := "plain.go:123", after := #[], guard := none }) (by kernel_rfl) rfl (fun K hK => ?_)
        go_simp
        obtain ⟨V9, hW⟩ : ∃ V9, w7.alloc zbox = V9 := ⟨_, rfl⟩
        obtain ⟨kW, sz9⟩ := alloc1 w7 zbox
        rw [hW] at kW sz9
        replace Za := hid (Za.out.now kW)
        replace Zb := hid (Zb.out.now kW)
        replace Zo := hid (Zo.out.now kW)
        replace Zp := hid (Zp.out.now kW)
        replace Pa := hid (Pa.out.step kW)
        replace Pb := hid (Pb.out.step kW)
        replace G := hid (below_step G.out kW)
        replace GR := hid (below_step GR.out kW)
        have lz10 := (show Below _ _ _ from kW).size
        have PN9 : Hid (Duo V9 (w7.heap.size) (.bool false) (.slice none 0 0)) := by unfold Hid; rw [← hW]; exact duo_at rfl
        rw [hW]
        clear hW kW
        refine hK.out _ _ (fun _ => ⟨Pa.out.c0, Pa.out.c1, Pb.out.c0, Pb.out.c1⟩) ?_
        clear hK
        try simp only [Act.put]
        refine wpAnyT_one (i := 10) (o := { dst := none, op := Op.store 24 (Operand.tmp 9) (Operand.tmp 39), type := 0, pos := "plain.go:123", after := #[{ on := 9, ground := Ground.data }, { on := 7, ground := Ground.data }, { on := 5, ground := Ground.chain }, { on := 0, ground := Ground.phase }, { on := 1, ground := Ground.phase }, { on := 2, ground := Ground.phase }, { on := 3, ground := Ground.phase }, { on := 4, ground := Ground.phase }, { on := 5, ground := Ground.phase }, { on := 6, ground := Ground.phase }, { on := 7, ground := Ground.phase }, { on := 8, ground := Ground.textOnly Departure.lateStores }, { on := 9, ground := Ground.phase }], guard := none }) (by kernel_rfl) rfl (fun K hK => ?_)
        have cN90 := PN9.out.c0
        have cN91 := PN9.out.c1
        have fN90 := PN9.out.fz 0
        have fN91 := PN9.out.fz 1
        go_simp
        clear cN90 cN91 fN90 fN91
        obtain ⟨V11, hW⟩ : ∃ V11, (V9.setCell ⟨w7.heap.size, 0, none⟩ (.bool np)).setCell ⟨w7.heap.size, 1, none⟩ (.slice adp xp.length qp) = V11 := ⟨_, rfl⟩
        replace Za := hid ((Za.out).wk ((PN9.out).wk (.bool np) (.slice adp xp.length qp)))
        replace Zb := hid ((Zb.out).wk ((PN9.out).wk (.bool np) (.slice adp xp.length qp)))
        replace Zo := hid ((Zo.out).wk ((PN9.out).wk (.bool np) (.slice adp xp.length qp)))
        replace Zp := hid ((Zp.out).box (PN9.out) (.bool np) (.slice adp xp.length qp))
        replace Pa := hid ((Pa.out).box (b' := w7.heap.size) (by omega) (.bool np) (.slice adp xp.length qp))
        replace Pb := hid ((Pb.out).box (b' := w7.heap.size) (by omega) (.bool np) (.slice adp xp.length qp))
        replace PN9 := hid ((PN9.out).set (.bool np) (.slice adp xp.length qp))
        replace G : Hid (Below w.heap.size w (((V9.setCell ⟨w7.heap.size, 0, none⟩ (.bool np)).setCell ⟨w7.heap.size, 1, none⟩ (.slice adp xp.length qp)))) := bset (bset (G.out) (by omega)) (by omega)
        replace GR : Hid (Below w1.heap.size w1 (((V9.setCell ⟨w7.heap.size, 0, none⟩ (.bool np)).setCell ⟨w7.heap.size, 1, none⟩ (.slice adp xp.length qp)))) := bset (bset (GR.out) (by omega)) (by omega)
        have sz11 : V11.heap.size = V9.heap.size := by rw [← hW]; simp
        rw [hW] at Za Zb Zo Zp Pa Pb PN9 G GR
        rw [hW]
        clear hW
        refine hK.out _ _ (fun _ => ⟨Pa.out.c0, Pa.out.c1, Pb.out.c0, Pb.out.c1⟩) ?_
        clear hK
        try simp only [Act.put]
        refine wpAnyT_one (i := 11) (o := { dst := some 10, op := Op.assign (Operand.tmp 40), type := 34, pos := "plain.go:123", after := #[{ on := 8, ground := Ground.data }, { on := 10, ground := Ground.chain }, { on := 0, ground := Ground.phase }, { on := 1, ground := Ground.phase }, { on := 2, ground := Ground.phase }, { on := 3, ground := Ground.phase }, { on := 4, ground := Ground.phase }, { on := 5, ground := Ground.phase }, { on := 6, ground := Ground.phase }, { on := 7, ground := Ground.phase }, { on := 8, ground := Ground.phase }, { on := 9, ground := Ground.phase }, { on := 10, ground := Ground.phase }], guard := none }) (by kernel_rfl) rfl (fun K hK => ?_)
        go_simp
        refine hK.out _ _ (fun h => absurd h (by decide)) ?_
        clear hK
        try simp only [Act.put]
        refine wpAnyT_done (by kernel_rfl) ?_ _
        go_wp2_with fail
        go_meet
        exact ⟨⟨_, _, _, _, _, rfl, GR.out, by omega, PN9.out.blk, PN9.out, Zp.out.mono (by omega)⟩, rfl⟩
      · skip
        go_simp
        obtain ⟨V12, hW⟩ : ∃ V12, w5.alloc zbox = V12 := ⟨_, rfl⟩
        obtain ⟨kW, sz12⟩ := alloc1 w5 zbox
        rw [hW] at kW sz12
        replace Za := hid (Za.out.now kW)
        replace Zb := hid (Zb.out.now kW)
        replace Zo := hid (Zo.out.now kW)
        replace Pa := hid (Pa.out.step kW)
        replace Pb := hid (Pb.out.step kW)
        replace G := hid (below_step G.out kW)
        replace GR := hid (below_step GR.out kW)
        have lz13 := (show Below _ _ _ from kW).size
        have PN9 : Hid (Duo V12 (w5.heap.size) (.bool false) (.slice none 0 0)) := by unfold Hid; rw [← hW]; exact duo_at rfl
        rw [hW]
        clear hW kW
        refine hK.out _ _ (fun _ => ⟨Pa.out.c0, Pa.out.c1, Pb.out.c0, Pb.out.c1⟩) ?_
        clear hK
        try simp only [Act.put]
        refine wpAnyT_one (i := 5) (o := { dst := some 38, op := Op.call { callee := Callee.value (Operand.func 32), args := #[Operand.tmp 33, Operand.tmp 36, Operand.tmp 37], argTypes := #[24, 24, 24] }, type := 35, pos := "plain.go:123", after := #[{ on := 0, ground := Ground.data }, { on := 3, ground := Ground.data }, { on := 4, ground := Ground.data }, { on := 3, ground := Ground.chain }], guard := none }) (by kernel_rfl) rfl (fun K hK => ?_)
        go_simp
        go_at_call 32
        refine (powMod_zero Za.out Zo.out Zb.out (by decide) (by decide) (by omega) HB.out).mono ?_
        rintro e w14 ⟨r0, rfl, m0, b⟩
        obtain ⟨np, xp, adp, qp, rfl, -, -, -, -, -⟩ := id m0
        replace Za := hid (Za.out.now b)
        replace Zb := hid (Zb.out.now b)
        replace Zo := hid (Zo.out.now b)
        replace Pa := hid (Pa.out.step b)
        replace Pb := hid (Pb.out.step b)
        replace PN9 := hid (PN9.out.step b)
        replace G := hid (below_step G.out b)
        replace GR := hid (below_step GR.out b)
        have lz15 := (show Below _ _ _ from b).size
        have Zp := hid m0
        clear b m0
        refine hK.out _ _ (fun _ => ⟨Pa.out.c0, Pa.out.c1, Pb.out.c0, Pb.out.c1⟩) ?_
        clear hK
        refine wpAnyT_take (i := 6) (oi := { dst := some 32, op := Op.move (Operand.tmp 38), type := 35, pos := "plain.go:123", after := #[{ on := 5, ground := Ground.data }], guard := none }) (v := (.tuple #[(.agg #[.bool np, .slice adp xp.length qp]), (.int .i64 4)])) rfl (by kernel_rfl) (fun _ _ _ h => h) (Or.inl ⟨by rfl, ?_⟩) ⟨Pa.out.c0, Pa.out.c1, Pb.out.c0, Pb.out.c1⟩ ?_
        · intro w hSw
          (try dsimp only at hSw)
          go_simp
        simp only [Act.put, List.setIfInBounds_toArray, List.set_cons_zero, List.set_cons_succ]
        refine wpAnyT_take (i := 7) (oi := { dst := some 39, op := Op.extract (Operand.tmp 32) 0, type := 24, pos := "plain.go:123", after := #[{ on := 6, ground := Ground.data }], guard := none }) (v := (.agg #[.bool np, .slice adp xp.length qp])) rfl (by kernel_rfl) (fun _ _ _ h => h) (Or.inl ⟨by rfl, ?_⟩) ⟨Pa.out.c0, Pa.out.c1, Pb.out.c0, Pb.out.c1⟩ ?_
        · intro w hSw
          (try dsimp only at hSw)
          go_simp
        simp only [Act.put, List.setIfInBounds_toArray, List.set_cons_zero, List.set_cons_succ]
        refine wpAnyT_take (i := 8) (oi := { dst := some 40, op := Op.extract (Operand.tmp 32) 1, type := 34, pos := "plain.go:123", after := #[{ on := 6, ground := Ground.data }, { on := 10, ground := Ground.gcOnly Departure.lateStores }], guard := none }) (v := (.int .i64 4)) rfl (by kernel_rfl) (fun _ _ _ h => h) (Or.inl ⟨by rfl, ?_⟩) ⟨Pa.out.c0, Pa.out.c1, Pb.out.c0, Pb.out.c1⟩ ?_
        · intro w hSw
          (try dsimp only at hSw)
          go_simp
        simp only [Act.put, List.setIfInBounds_toArray, List.set_cons_zero, List.set_cons_succ]
        refine wpAnyT_one (i := 10) (o := { dst := none, op := Op.store 24 (Operand.tmp 9) (Operand.tmp 39), type := 0, pos := "plain.go:123", after := #[{ on := 9, ground := Ground.data }, { on := 7, ground := Ground.data }, { on := 5, ground := Ground.chain }, { on := 0, ground := Ground.phase }, { on := 1, ground := Ground.phase }, { on := 2, ground := Ground.phase }, { on := 3, ground := Ground.phase }, { on := 4, ground := Ground.phase }, { on := 5, ground := Ground.phase }, { on := 6, ground := Ground.phase }, { on := 7, ground := Ground.phase }, { on := 8, ground := Ground.textOnly Departure.lateStores }, { on := 9, ground := Ground.phase }], guard := none }) (by kernel_rfl) rfl (fun K hK => ?_)
        have cN90 := PN9.out.c0
        have cN91 := PN9.out.c1
        have fN90 := PN9.out.fz 0
        have fN91 := PN9.out.fz 1
        go_simp
        clear cN90 cN91 fN90 fN91
        obtain ⟨V16, hW⟩ : ∃ V16, (w14.setCell ⟨w5.heap.size, 0, none⟩ (.bool np)).setCell ⟨w5.heap.size, 1, none⟩ (.slice adp xp.length qp) = V16 := ⟨_, rfl⟩
        replace Za := hid ((Za.out).wk ((PN9.out).wk (.bool np) (.slice adp xp.length qp)))
        replace Zb := hid ((Zb.out).wk ((PN9.out).wk (.bool np) (.slice adp xp.length qp)))
        replace Zo := hid ((Zo.out).wk ((PN9.out).wk (.bool np) (.slice adp xp.length qp)))
        replace Zp := hid ((Zp.out).box (PN9.out) (.bool np) (.slice adp xp.length qp))
        replace Pa := hid ((Pa.out).box (b' := w5.heap.size) (by omega) (.bool np) (.slice adp xp.length qp))
        replace Pb := hid ((Pb.out).box (b' := w5.heap.size) (by omega) (.bool np) (.slice adp xp.length qp))
        replace PN9 := hid ((PN9.out).set (.bool np) (.slice adp xp.length qp))
        replace G : Hid (Below w.heap.size w (((w14.setCell ⟨w5.heap.size, 0, none⟩ (.bool np)).setCell ⟨w5.heap.size, 1, none⟩ (.slice adp xp.length qp)))) := bset (bset (G.out) (by omega)) (by omega)
        replace GR : Hid (Below w1.heap.size w1 (((w14.setCell ⟨w5.heap.size, 0, none⟩ (.bool np)).setCell ⟨w5.heap.size, 1, none⟩ (.slice adp xp.length qp)))) := bset (bset (GR.out) (by omega)) (by omega)
        have sz16 : V16.heap.size = w14.heap.size := by rw [← hW]; simp
        rw [hW] at Za Zb Zo Zp Pa Pb PN9 G GR
        rw [hW]
        clear hW
        refine hK.out _ _ (fun _ => ⟨Pa.out.c0, Pa.out.c1, Pb.out.c0, Pb.out.c1⟩) ?_
        clear hK
        try simp only [Act.put]
        refine wpAnyT_one (i := 11) (o := { dst := some 10, op := Op.assign (Operand.tmp 40), type := 34, pos := "plain.go:123", after := #[{ on := 8, ground := Ground.data }, { on := 10, ground := Ground.chain }, { on := 0, ground := Ground.phase }, { on := 1, ground := Ground.phase }, { on := 2, ground := Ground.phase }, { on := 3, ground := Ground.phase }, { on := 4, ground := Ground.phase }, { on := 5, ground := Ground.phase }, { on := 6, ground := Ground.phase }, { on := 7, ground := Ground.phase }, { on := 8, ground := Ground.phase }, { on := 9, ground := Ground.phase }, { on := 10, ground := Ground.phase }], guard := none }) (by kernel_rfl) rfl (fun K hK => ?_)
        go_simp
        refine hK.out _ _ (fun h => absurd h (by decide)) ?_
        clear hK
        try simp only [Act.put]
        refine wpAnyT_done (by kernel_rfl) ?_ _
        go_wp2_with fail
        go_meet
        exact ⟨⟨_, _, _, _, _, rfl, GR.out, by omega, PN9.out.blk, PN9.out, Zp.out.mono (by omega)⟩, rfl⟩
    · skip
      go_simp
      obtain ⟨V17, hW⟩ : ∃ V17, D3.alloc zbox = V17 := ⟨_, rfl⟩
      obtain ⟨kW, sz17⟩ := alloc1 D3 zbox
      rw [hW] at kW sz17
      replace Za := hid (Za.out.now kW)
      replace Zb := hid (Zb.out.now kW)
      replace Pa := hid (Pa.out.step kW)
      replace Pb := hid (Pb.out.step kW)
      replace G := hid (below_step G.out kW)
      replace GR := hid (below_step GR.out kW)
      have lz18 := (show Below _ _ _ from kW).size
      have PN9 : Hid (Duo V17 (D3.heap.size) (.bool false) (.slice none 0 0)) := by unfold Hid; rw [← hW]; exact duo_at rfl
      rw [hW]
      clear hW kW
      refine hK.out _ _ (fun _ => ⟨Pa.out.c0, Pa.out.c1, Pb.out.c0, Pb.out.c1⟩) ?_
      clear hK
      try simp only [Act.put]
      refine wpAnyT_one (i := 3) (o := { dst := some 36, op := Op.call { callee := Callee.value (Operand.func 30), args := #[Operand.tmp 35], argTypes := #[45] }, type := 24, pos := "plain.go:123", after := #[{ on := 2, ground := Ground.data }], guard := none }) (by kernel_rfl) rfl (fun K hK => ?_)
      go_simp
      go_at_call 30
      refine (of6i (n := (E : Int)) (by omega) (by omega) _).mono ?_
      rintro e w19 ⟨r0, rfl, m0, b⟩
      obtain ⟨no, xo, ado, qo, rfl, -, -, -⟩ := id m0
      replace Za := hid (Za.out.now b)
      replace Zb := hid (Zb.out.now b)
      replace Pa := hid (Pa.out.step b)
      replace Pb := hid (Pb.out.step b)
      replace PN9 := hid (PN9.out.step b)
      replace G := hid (below_step G.out b)
      replace GR := hid (below_step GR.out b)
      have lz20 := (show Below _ _ _ from b).size
      have Zo := hid m0
      clear b m0
      refine hK.out _ _ (fun _ => ⟨Pa.out.c0, Pa.out.c1, Pb.out.c0, Pb.out.c1⟩) ?_
      clear hK
      refine wpAnyT_one (i := 5) (o := { dst := some 38, op := Op.call { callee := Callee.value (Operand.func 32), args := #[Operand.tmp 33, Operand.tmp 36, Operand.tmp 37], argTypes := #[24, 24, 24] }, type := 35, pos := "plain.go:123", after := #[{ on := 0, ground := Ground.data }, { on := 3, ground := Ground.data }, { on := 4, ground := Ground.data }, { on := 3, ground := Ground.chain }], guard := none }) (by kernel_rfl) rfl (fun K hK => ?_)
      go_simp
      go_at_call 32
      refine (powMod_zero Za.out Zo.out Zb.out (by decide) (by decide) (by omega) HB.out).mono ?_
      rintro e w21 ⟨r0, rfl, m0, b⟩
      obtain ⟨np, xp, adp, qp, rfl, -, -, -, -, -⟩ := id m0
      replace Za := hid (Za.out.now b)
      replace Zb := hid (Zb.out.now b)
      replace Zo := hid (Zo.out.now b)
      replace Pa := hid (Pa.out.step b)
      replace Pb := hid (Pb.out.step b)
      replace PN9 := hid (PN9.out.step b)
      replace G := hid (below_step G.out b)
      replace GR := hid (below_step GR.out b)
      have lz22 := (show Below _ _ _ from b).size
      have Zp := hid m0
      clear b m0
      refine hK.out _ _ (fun _ => ⟨Pa.out.c0, Pa.out.c1, Pb.out.c0, Pb.out.c1⟩) ?_
      clear hK
      refine wpAnyT_take (i := 6) (oi := { dst := some 32, op := Op.move (Operand.tmp 38), type := 35, pos := "plain.go:123", after := #[{ on := 5, ground := Ground.data }], guard := none }) (v := (.tuple #[(.agg #[.bool np, .slice adp xp.length qp]), (.int .i64 4)])) rfl (by kernel_rfl) (fun _ _ _ h => h) (Or.inl ⟨by rfl, ?_⟩) ⟨Pa.out.c0, Pa.out.c1, Pb.out.c0, Pb.out.c1⟩ ?_
      · intro w hSw
        (try dsimp only at hSw)
        go_simp
      simp only [Act.put, List.setIfInBounds_toArray, List.set_cons_zero, List.set_cons_succ]
      refine wpAnyT_take (i := 7) (oi := { dst := some 39, op := Op.extract (Operand.tmp 32) 0, type := 24, pos := "plain.go:123", after := #[{ on := 6, ground := Ground.data }], guard := none }) (v := (.agg #[.bool np, .slice adp xp.length qp])) rfl (by kernel_rfl) (fun _ _ _ h => h) (Or.inl ⟨by rfl, ?_⟩) ⟨Pa.out.c0, Pa.out.c1, Pb.out.c0, Pb.out.c1⟩ ?_
      · intro w hSw
        (try dsimp only at hSw)
        go_simp
      simp only [Act.put, List.setIfInBounds_toArray, List.set_cons_zero, List.set_cons_succ]
      refine wpAnyT_take (i := 8) (oi := { dst := some 40, op := Op.extract (Operand.tmp 32) 1, type := 34, pos := "plain.go:123", after := #[{ on := 6, ground := Ground.data }, { on := 10, ground := Ground.gcOnly Departure.lateStores }], guard := none }) (v := (.int .i64 4)) rfl (by kernel_rfl) (fun _ _ _ h => h) (Or.inl ⟨by rfl, ?_⟩) ⟨Pa.out.c0, Pa.out.c1, Pb.out.c0, Pb.out.c1⟩ ?_
      · intro w hSw
        (try dsimp only at hSw)
        go_simp
      simp only [Act.put, List.setIfInBounds_toArray, List.set_cons_zero, List.set_cons_succ]
      refine wpAnyT_one (i := 10) (o := { dst := none, op := Op.store 24 (Operand.tmp 9) (Operand.tmp 39), type := 0, pos := "plain.go:123", after := #[{ on := 9, ground := Ground.data }, { on := 7, ground := Ground.data }, { on := 5, ground := Ground.chain }, { on := 0, ground := Ground.phase }, { on := 1, ground := Ground.phase }, { on := 2, ground := Ground.phase }, { on := 3, ground := Ground.phase }, { on := 4, ground := Ground.phase }, { on := 5, ground := Ground.phase }, { on := 6, ground := Ground.phase }, { on := 7, ground := Ground.phase }, { on := 8, ground := Ground.textOnly Departure.lateStores }, { on := 9, ground := Ground.phase }], guard := none }) (by kernel_rfl) rfl (fun K hK => ?_)
      have cN90 := PN9.out.c0
      have cN91 := PN9.out.c1
      have fN90 := PN9.out.fz 0
      have fN91 := PN9.out.fz 1
      go_simp
      clear cN90 cN91 fN90 fN91
      obtain ⟨V23, hW⟩ : ∃ V23, (w21.setCell ⟨D3.heap.size, 0, none⟩ (.bool np)).setCell ⟨D3.heap.size, 1, none⟩ (.slice adp xp.length qp) = V23 := ⟨_, rfl⟩
      replace Za := hid ((Za.out).wk ((PN9.out).wk (.bool np) (.slice adp xp.length qp)))
      replace Zb := hid ((Zb.out).wk ((PN9.out).wk (.bool np) (.slice adp xp.length qp)))
      replace Zo := hid ((Zo.out).wk ((PN9.out).wk (.bool np) (.slice adp xp.length qp)))
      replace Zp := hid ((Zp.out).box (PN9.out) (.bool np) (.slice adp xp.length qp))
      replace Pa := hid ((Pa.out).box (b' := D3.heap.size) (by omega) (.bool np) (.slice adp xp.length qp))
      replace Pb := hid ((Pb.out).box (b' := D3.heap.size) (by omega) (.bool np) (.slice adp xp.length qp))
      replace PN9 := hid ((PN9.out).set (.bool np) (.slice adp xp.length qp))
      replace G : Hid (Below w.heap.size w (((w21.setCell ⟨D3.heap.size, 0, none⟩ (.bool np)).setCell ⟨D3.heap.size, 1, none⟩ (.slice adp xp.length qp)))) := bset (bset (G.out) (by omega)) (by omega)
      replace GR : Hid (Below w1.heap.size w1 (((w21.setCell ⟨D3.heap.size, 0, none⟩ (.bool np)).setCell ⟨D3.heap.size, 1, none⟩ (.slice adp xp.length qp)))) := bset (bset (GR.out) (by omega)) (by omega)
      have sz23 : V23.heap.size = w21.heap.size := by rw [← hW]; simp
      rw [hW] at Za Zb Zo Zp Pa Pb PN9 G GR
      rw [hW]
      clear hW
      refine hK.out _ _ (fun _ => ⟨Pa.out.c0, Pa.out.c1, Pb.out.c0, Pb.out.c1⟩) ?_
      clear hK
      try simp only [Act.put]
      refine wpAnyT_one (i := 11) (o := { dst := some 10, op := Op.assign (Operand.tmp 40), type := 34, pos := "plain.go:123", after := #[{ on := 8, ground := Ground.data }, { on := 10, ground := Ground.chain }, { on := 0, ground := Ground.phase }, { on := 1, ground := Ground.phase }, { on := 2, ground := Ground.phase }, { on := 3, ground := Ground.phase }, { on := 4, ground := Ground.phase }, { on := 5, ground := Ground.phase }, { on := 6, ground := Ground.phase }, { on := 7, ground := Ground.phase }, { on := 8, ground := Ground.phase }, { on := 9, ground := Ground.phase }, { on := 10, ground := Ground.phase }], guard := none }) (by kernel_rfl) rfl (fun K hK => ?_)
      go_simp
      refine hK.out _ _ (fun h => absurd h (by decide)) ?_
      clear hK
      try simp only [Act.put]
      refine wpAnyT_done (by kernel_rfl) ?_ _
      go_wp2_with fail
      go_meet
      exact ⟨⟨_, _, _, _, _, rfl, GR.out, by omega, PN9.out.blk, PN9.out, Zp.out.mono (by omega)⟩, rfl⟩
  case rest =>
  obtain ⟨⟨bkp, np, xp, adp, qp, rfl, b, gep, ltp, p, m⟩, rfl⟩ := hcut
  replace Za := hid (Za.out.now b)
  replace Zb := hid (Zb.out.now b)
  replace Pa := hid (Pa.out.step b)
  replace Pb := hid (Pb.out.step b)
  replace G := hid (below_step G.out b)
  have lz25 := (show Below _ _ _ from b).size
  have Zp := hid m
  have Pp := hid p
  clear b p m
  generalize wc = C25 at *
  have HSB : Hid (∀ w' v, Zi w' v B 1048576 → Calls Try.prog 15 #[v] w' fun e w'' => e = .returned (.int .i64 0) ∧ Below w'.heap.size w' w'') := fun w' v h => int_as6 (rsign_z h (by decide)) (by rw [HB.out]; exact cmpI_self 0)
  have q0 : ((0 : Int) == 0) = true := rfl
  have q4 : ((4 : Int) == 4) = true := rfl
  have cb0 := Pb.out.c0
  have cb1 := Pb.out.c1
  go_wp2_with fail
  clear cb0 cb1
  refine (HSB.out _ _ Zb.out).mono ?_
  rintro e w26 ⟨rfl, b⟩
  replace Za := hid (Za.out.now b)
  replace Zb := hid (Zb.out.now b)
  replace Zp := hid (Zp.out.now b)
  replace Pa := hid (Pa.out.step b)
  replace Pb := hid (Pb.out.step b)
  replace Pp := hid (Pp.out.step b)
  replace G := hid (below_step G.out b)
  have lz27 := (show Below _ _ _ from b).size
  clear b 
  have cp0 := Pp.out.c0
  have cp1 := Pp.out.c1
  go_wp2_with fail
  clear cp0 cp1
  refine (alike6_yes Zp.out.zc (zc_nil _ 0) rfl).mono ?_
  rintro e w28 ⟨rfl, b⟩
  replace Za := hid (Za.out.now b)
  replace Zb := hid (Zb.out.now b)
  replace Zp := hid (Zp.out.now b)
  replace Pa := hid (Pa.out.step b)
  replace Pb := hid (Pb.out.step b)
  replace Pp := hid (Pp.out.step b)
  replace G := hid (below_step G.out b)
  have lz29 := (show Below _ _ _ from b).size
  clear b 
  go_wp2
  go_ret
  exact ⟨rfl, G.out⟩
end Go.Proofs.Ythdnnphpjdchnaa
