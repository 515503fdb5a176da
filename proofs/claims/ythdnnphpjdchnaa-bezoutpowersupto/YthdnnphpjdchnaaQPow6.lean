/-
  Pow6: PowMod.
-/
import Derived.Test.YthdnnphpjdchnaaQTwosToCells6
import Derived.Test.YthdnnphpjdchnaaQLm6
import Derived.Test.YthdnnphpjdchnaaQZMetToTailX
import Derived.Deep.LoopGhost
namespace Go.Proofs.Ythdnnphpjdchnaa
open Go.RowKit
set_option linter.unusedVariables false

/-- What stands at the head of PowMod's loop. -/
def PowH (w : World) (A B : Int) (xs : List Int) (k : Nat) (bx br bp : Nat) (vx0 vx1 vb0 vb1 vr0 vr1 : Value) (g : Nat) (s : Value) (wx : World) : Prop :=
  ∃ j : Nat, ∃ p0 p1 : Value, s = .int .i64 ((j : Int) - 1) ∧ j ≤ 67108864 ∧ g = j ∧ Zm w.heap.size wx (.agg #[p0, p1]) (pmod A (vn xs / 2 ^ j) B) k ∧ Duo wx bp p0 p1 ∧
    Duo wx bx vx0 vx1 ∧ Sl wx.heap.size wx vx1 xs ∧ Duo wx (bx + 1) vb0 vb1 ∧ Zi wx (.agg #[vb0, vb1]) B k ∧ Duo wx br vr0 vr1 ∧ Zi wx (.agg #[vr0, vr1]) (A % B) k ∧ Duo wx (bx + 1 + 1) (.bool false) (.slice none 0 0) ∧ Below w.heap.size w wx

set_option maxHeartbeats 51200000 in
set_option maxRecDepth 100000 in
theorem powMod_neg {w : World} {va vx vb : Value} {A X B : Int} {k kx : Nat} (ha : Zi w va A k) (hx : Zi w vx X kx) (hb : Zi w vb B k) (h1 : 1 ≤ k) (hk : k ≤ 17179869184) (hX : X < 0) :
    Calls Try.prog 32 #[va, vx, vb] w (GivesZ1 3 w 0 k) := by
  have HX := hid hX
  have cX := cmpI_neg hX
  have HSX : Hid (∀ w' v, Zi w' v X kx → _) := fun (w' : World) (v : Value) (h : Zi w' v X kx) => sign_z h
  generalize cmpI X 0 = SX at *
  clear hX
  have za0 := ha
  obtain ⟨na, xa, ada, ca, rfl, sa, ea, la⟩ := ha
  have zx0 := hx
  obtain ⟨nx, xx, adx, cx, rfl, sx, ex, lx⟩ := hx
  have zb0 := hb
  obtain ⟨nb, xb, adb, cb, rfl, sb, eb, lb⟩ := hb
  obtain ⟨W0, hW⟩ : ∃ W0, (((w.alloc (duo (.bool na) (.slice ada xa.length ca))).alloc (duo (.bool nx) (.slice adx xx.length cx))).alloc (duo (.bool nb) (.slice adb xb.length cb))).alloc zbox = W0 := ⟨_, rfl⟩
  obtain ⟨b0, sz0⟩ := alloc4 w (duo (.bool na) (.slice ada xa.length ca)) (duo (.bool nx) (.slice adx xx.length cx)) (duo (.bool nb) (.slice adb xb.length cb)) zbox
  rw [hW] at b0 sz0
  have Pa : Hid (Duo W0 (w.heap.size) (.bool na) (.slice ada xa.length ca)) := by unfold Hid; rw [← hW]; exact duo_late (duo_late (duo_late (duo_at (by simp)) _) _) _
  have Px : Hid (Duo W0 (w.heap.size + 1) (.bool nx) (.slice adx xx.length cx)) := by unfold Hid; rw [← hW]; exact duo_late (duo_late (duo_at (by simp)) _) _
  have Pb : Hid (Duo W0 (w.heap.size + 1 + 1) (.bool nb) (.slice adb xb.length cb)) := by unfold Hid; rw [← hW]; exact duo_late (duo_at (by simp)) _
  have PRP : Hid (Duo W0 (w.heap.size + 1 + 1 + 1) (.bool false) (.slice none 0 0)) := by unfold Hid; rw [← hW]; exact duo_at (by simp)
  have Za := hid (za0.now b0)
  clear za0
  have Sa := hid (sa.now b0)
  clear sa
  have Zx := hid (zx0.now b0)
  clear zx0
  have Sx := hid (sx.now b0)
  clear sx
  have Zb := hid (zb0.now b0)
  clear zb0
  have Sb := hid (sb.now b0)
  clear sb
  have G := hid b0
  clear b0
  have EW := hid hW
  clear hW
  go_enter Try.func32, Try.ntmps32
  clear ea ex eb
  clear Sa Sb
  have cx0 := Px.out.c0
  have cx1 := Px.out.c1
  rw [← EW.out] at cx0 cx1
  go_wp2_with fail
  rw [EW.out]
  clear EW
  clear cx0 cx1
  refine (HSX.out _ _ Zx.out).mono ?_
  rintro e w1 ⟨rfl, b⟩
  replace Za := hid (Za.out.now b)
  replace Zx := hid (Zx.out.now b)
  replace Zb := hid (Zb.out.now b)
  replace Pa := hid (Pa.out.step b)
  replace Px := hid (Px.out.step b)
  replace Pb := hid (Pb.out.step b)
  replace PRP := hid (PRP.out.step b)
  replace Sx := hid (Sx.out.now b)
  replace G := hid (below_step G.out b)
  have lz2 := (show Below _ _ _ from b).size
  clear b 
  clear HSX
  have cRP0 := PRP.out.c0
  have cRP1 := PRP.out.c1
  have fRP0 := PRP.out.fz 0
  have fRP1 := PRP.out.fz 1
  go_wp2
  exact bodyPost_ret (zback1 Try.results32 (PRP.out.set _ _) _ (by rfl) (by rfl)) rfl ⟨_, rfl, zm_nil _ _ _, bset (bset G.out (by omega)) (by omega)⟩

set_option maxHeartbeats 51200000 in
set_option maxRecDepth 100000 in
theorem powMod_zero {w : World} {va vx vb : Value} {A X B : Int} {k kx : Nat} (ha : Zi w va A k) (hx : Zi w vx X kx) (hb : Zi w vb B k) (h1 : 1 ≤ k) (hk : k ≤ 17179869184) (hX : 0 ≤ X) (hB : B = 0) :
    Calls Try.prog 32 #[va, vx, vb] w (GivesZ1 4 w 0 k) := by
  have HX := hid hX
  have cX := cmpI_nonneg hX
  have HSX : Hid (∀ w' v, Zi w' v X kx → _) := fun (w' : World) (v : Value) (h : Zi w' v X kx) => sign_z h
  generalize cmpI X 0 = SX at *
  clear hX
  have HB := hid hB
  clear hB
  have za0 := ha
  obtain ⟨na, xa, ada, ca, rfl, sa, ea, la⟩ := ha
  have zx0 := hx
  obtain ⟨nx, xx, adx, cx, rfl, sx, ex, lx⟩ := hx
  have zb0 := hb
  obtain ⟨nb, xb, adb, cb, rfl, sb, eb, lb⟩ := hb
  obtain ⟨W0, hW⟩ : ∃ W0, (((w.alloc (duo (.bool na) (.slice ada xa.length ca))).alloc (duo (.bool nx) (.slice adx xx.length cx))).alloc (duo (.bool nb) (.slice adb xb.length cb))).alloc zbox = W0 := ⟨_, rfl⟩
  obtain ⟨b0, sz0⟩ := alloc4 w (duo (.bool na) (.slice ada xa.length ca)) (duo (.bool nx) (.slice adx xx.length cx)) (duo (.bool nb) (.slice adb xb.length cb)) zbox
  rw [hW] at b0 sz0
  have Pa : Hid (Duo W0 (w.heap.size) (.bool na) (.slice ada xa.length ca)) := by unfold Hid; rw [← hW]; exact duo_late (duo_late (duo_late (duo_at (by simp)) _) _) _
  have Px : Hid (Duo W0 (w.heap.size + 1) (.bool nx) (.slice adx xx.length cx)) := by unfold Hid; rw [← hW]; exact duo_late (duo_late (duo_at (by simp)) _) _
  have Pb : Hid (Duo W0 (w.heap.size + 1 + 1) (.bool nb) (.slice adb xb.length cb)) := by unfold Hid; rw [← hW]; exact duo_late (duo_at (by simp)) _
  have PRP : Hid (Duo W0 (w.heap.size + 1 + 1 + 1) (.bool false) (.slice none 0 0)) := by unfold Hid; rw [← hW]; exact duo_at (by simp)
  have Za := hid (za0.now b0)
  clear za0
  have Sa := hid (sa.now b0)
  clear sa
  have Zx := hid (zx0.now b0)
  clear zx0
  have Sx := hid (sx.now b0)
  clear sx
  have Zb := hid (zb0.now b0)
  clear zb0
  have Sb := hid (sb.now b0)
  clear sb
  have G := hid b0
  clear b0
  have EW := hid hW
  clear hW
  go_enter Try.func32, Try.ntmps32
  clear ea ex eb
  clear Sa Sb
  have cx0 := Px.out.c0
  have cx1 := Px.out.c1
  rw [← EW.out] at cx0 cx1
  go_wp2_with fail
  rw [EW.out]
  clear EW
  clear cx0 cx1
  refine (HSX.out _ _ Zx.out).mono ?_
  rintro e w1 ⟨rfl, b⟩
  replace Za := hid (Za.out.now b)
  replace Zx := hid (Zx.out.now b)
  replace Zb := hid (Zb.out.now b)
  replace Pa := hid (Pa.out.step b)
  replace Px := hid (Px.out.step b)
  replace Pb := hid (Pb.out.step b)
  replace PRP := hid (PRP.out.step b)
  replace Sx := hid (Sx.out.now b)
  replace G := hid (below_step G.out b)
  have lz2 := (show Below _ _ _ from b).size
  clear b 
  clear HSX
  have ca0 := Pa.out.c0
  have ca1 := Pa.out.c1
  have cb0 := Pb.out.c0
  have cb1 := Pb.out.c1
  go_wp2_with fail
  clear ca0 ca1 cb0 cb1
  have q4 : ((4 : Int) != 0) = true := rfl
  refine (mod_none Za.out Zb.out HB.out).mono ?_
  rintro e w3 ⟨r0, rfl, m0, b⟩
  obtain ⟨nr, xr, adr, qr, rfl, -, -, -, -, -⟩ := id m0
  replace Za := hid (Za.out.now b)
  replace Zx := hid (Zx.out.now b)
  replace Zb := hid (Zb.out.now b)
  replace Pa := hid (Pa.out.step b)
  replace Px := hid (Px.out.step b)
  replace Pb := hid (Pb.out.step b)
  replace PRP := hid (PRP.out.step b)
  replace Sx := hid (Sx.out.now b)
  replace G := hid (below_step G.out b)
  have lz4 := (show Below _ _ _ from b).size
  have Zr := hid m0
  clear b m0
  obtain ⟨V5, hW⟩ : ∃ V5, w3.alloc (duo (.bool nr) (.slice adr xr.length qr)) = V5 := ⟨_, rfl⟩
  obtain ⟨kW, sz5⟩ := alloc1 w3 (duo (.bool nr) (.slice adr xr.length qr))
  rw [hW] at kW sz5
  replace Za := hid (Za.out.now kW)
  replace Zx := hid (Zx.out.now kW)
  replace Zb := hid (Zb.out.now kW)
  replace Zr := hid (Zr.out.now kW)
  replace Pa := hid (Pa.out.step kW)
  replace Px := hid (Px.out.step kW)
  replace Pb := hid (Pb.out.step kW)
  replace PRP := hid (PRP.out.step kW)
  replace Sx := hid (Sx.out.now kW)
  replace G := hid (below_step G.out kW)
  have lz6 := (show Below _ _ _ from kW).size
  have Pr : Hid (Duo V5 (w3.heap.size) (.bool nr) (.slice adr xr.length qr)) := by unfold Hid; rw [← hW]; exact duo_at (by simp)
  clear kW
  have cRP0 := PRP.out.c0
  have cRP1 := PRP.out.c1
  rw [← hW] at cRP0 cRP1
  have fRP0 := PRP.out.fz 0
  have fRP1 := PRP.out.fz 1
  rw [← hW] at fRP0 fRP1
  have EW := hid hW
  clear hW
  go_wp2_with fail
  rw [EW.out]
  exact bodyPost_ret (zback1 Try.results32 (PRP.out.set _ _) _ (by rfl) (by rfl)) rfl ⟨_, rfl, zm_nil _ _ _, bset (bset G.out (by omega)) (by omega)⟩

set_option maxHeartbeats 51200000 in
set_option maxRecDepth 100000 in
theorem powMod_some {w : World} {va vx vb : Value} {A X B : Int} {k kx : Nat} (ha : Zi w va A k) (hx : Zi w vx X kx) (hb : Zi w vb B k) (h1 : 1 ≤ k) (hk : k ≤ 17179869184) (hX : 0 ≤ X) (hB : B ≠ 0) (hkx : kx ≤ 1048576) :
    Calls Try.prog 32 #[va, vx, vb] w (GivesZ1 0 w (pmod A X.toNat B) k) := by
  have HX := hid hX
  have cX := cmpI_nonneg hX
  have HSX : Hid (∀ w' v, Zi w' v X kx → _) := fun (w' : World) (v : Value) (h : Zi w' v X kx) => sign_z h
  generalize cmpI X 0 = SX at *
  clear hX
  have HB := hid hB
  clear hB
  have LB := hid hb.lt
  have za0 := ha
  obtain ⟨na, xa, ada, ca, rfl, sa, ea, la⟩ := ha
  have zx0 := hx
  obtain ⟨nx, xx, adx, cx, rfl, sx, ex, lx⟩ := hx
  have zb0 := hb
  obtain ⟨nb, xb, adb, cb, rfl, sb, eb, lb⟩ := hb
  obtain ⟨W0, hW⟩ : ∃ W0, (((w.alloc (duo (.bool na) (.slice ada xa.length ca))).alloc (duo (.bool nx) (.slice adx xx.length cx))).alloc (duo (.bool nb) (.slice adb xb.length cb))).alloc zbox = W0 := ⟨_, rfl⟩
  obtain ⟨b0, sz0⟩ := alloc4 w (duo (.bool na) (.slice ada xa.length ca)) (duo (.bool nx) (.slice adx xx.length cx)) (duo (.bool nb) (.slice adb xb.length cb)) zbox
  rw [hW] at b0 sz0
  have Pa : Hid (Duo W0 (w.heap.size) (.bool na) (.slice ada xa.length ca)) := by unfold Hid; rw [← hW]; exact duo_late (duo_late (duo_late (duo_at (by simp)) _) _) _
  have Px : Hid (Duo W0 (w.heap.size + 1) (.bool nx) (.slice adx xx.length cx)) := by unfold Hid; rw [← hW]; exact duo_late (duo_late (duo_at (by simp)) _) _
  have Pb : Hid (Duo W0 (w.heap.size + 1 + 1) (.bool nb) (.slice adb xb.length cb)) := by unfold Hid; rw [← hW]; exact duo_late (duo_at (by simp)) _
  have PRP : Hid (Duo W0 (w.heap.size + 1 + 1 + 1) (.bool false) (.slice none 0 0)) := by unfold Hid; rw [← hW]; exact duo_at (by simp)
  have Za := hid (za0.now b0)
  clear za0
  have Sa := hid (sa.now b0)
  clear sa
  have Zx := hid (zx0.now b0)
  clear zx0
  have Sx := hid (sx.now b0)
  clear sx
  have Zb := hid (zb0.now b0)
  clear zb0
  have Sb := hid (sb.now b0)
  clear sb
  have G := hid b0
  clear b0
  have EW := hid hW
  clear hW
  go_enter Try.func32, Try.ntmps32
  have EN := hid (vn_toNat Sx.out.1 ex HX.out)
  have hbl := bitLen_fit Sx.out.1 (by omega)
  clear ea ex eb
  clear Sa Sb
  have cx0 := Px.out.c0
  have cx1 := Px.out.c1
  rw [← EW.out] at cx0 cx1
  go_wp2_with fail
  rw [EW.out]
  clear EW
  clear cx0 cx1
  refine (HSX.out _ _ Zx.out).mono ?_
  rintro e w1 ⟨rfl, b⟩
  replace Za := hid (Za.out.now b)
  replace Zx := hid (Zx.out.now b)
  replace Zb := hid (Zb.out.now b)
  replace Pa := hid (Pa.out.step b)
  replace Px := hid (Px.out.step b)
  replace Pb := hid (Pb.out.step b)
  replace PRP := hid (PRP.out.step b)
  replace Sx := hid (Sx.out.now b)
  replace G := hid (below_step G.out b)
  have lz2 := (show Below _ _ _ from b).size
  clear b 
  clear HSX
  have ca0 := Pa.out.c0
  have ca1 := Pa.out.c1
  have cb0 := Pb.out.c0
  have cb1 := Pb.out.c1
  go_wp2_with fail
  clear ca0 ca1 cb0 cb1
  have q0 : ((0 : Int) != 0) = false := rfl
  refine (mod_z Za.out Zb.out HB.out (by omega) (by omega)).mono ?_
  rintro e w3 ⟨r0, rfl, m0, b⟩
  obtain ⟨nr, xr, adr, qr, rfl, -, -, -, -, -⟩ := id m0
  replace m0 := m0.fit (mod_fit HB.out LB.out)
  replace Za := hid (Za.out.now b)
  replace Zx := hid (Zx.out.now b)
  replace Zb := hid (Zb.out.now b)
  replace Pa := hid (Pa.out.step b)
  replace Px := hid (Px.out.step b)
  replace Pb := hid (Pb.out.step b)
  replace PRP := hid (PRP.out.step b)
  replace Sx := hid (Sx.out.now b)
  replace G := hid (below_step G.out b)
  have lz4 := (show Below _ _ _ from b).size
  have Zr := hid m0
  clear b m0
  obtain ⟨V5, hW⟩ : ∃ V5, w3.alloc (duo (.bool nr) (.slice adr xr.length qr)) = V5 := ⟨_, rfl⟩
  obtain ⟨kW, sz5⟩ := alloc1 w3 (duo (.bool nr) (.slice adr xr.length qr))
  rw [hW] at kW sz5
  replace Za := hid (Za.out.now kW)
  replace Zx := hid (Zx.out.now kW)
  replace Zb := hid (Zb.out.now kW)
  replace Zr := hid (Zr.out.now kW)
  replace Pa := hid (Pa.out.step kW)
  replace Px := hid (Px.out.step kW)
  replace Pb := hid (Pb.out.step kW)
  replace PRP := hid (PRP.out.step kW)
  replace Sx := hid (Sx.out.now kW)
  replace G := hid (below_step G.out kW)
  have lz6 := (show Below _ _ _ from kW).size
  have Pr : Hid (Duo V5 (w3.heap.size) (.bool nr) (.slice adr xr.length qr)) := by unfold Hid; rw [← hW]; exact duo_at (by simp)
  clear kW
  clear Za
  clear Pa
  have EW := hid hW
  clear hW
  go_wp2_with fail
  rw [EW.out]
  clear EW
  go_cut [10, 11] from 13 (fun s1 s2 wx => MetB V5 wx s1 (1 % B) (max 1 k + 1) ∧ s2 = .int .i64 0)
  case first =>
    have GR : Hid (Below V5.heap.size V5 V5) := Below.refl _ _
    refine wp_region_tail (fun w' => w'.cell? ⟨w.heap.size + 1 + 1, 0, none⟩ = some (.bool nb) ∧ w'.cell? ⟨w.heap.size + 1 + 1, 1, none⟩ = some (.slice adb xb.length cb)) 8 (by kernel_rfl) ?_
    obtain ⟨D7, hD⟩ : ∃ D7, V5.drew = D7 := ⟨_, rfl⟩
    have b : Below V5.heap.size V5 D7 := by rw [← hD]; exact (Below.refl _ _).drew
    rw [hD]
    clear hD
    replace Zx := hid (Zx.out.now b)
    replace Zb := hid (Zb.out.now b)
    replace Zr := hid (Zr.out.now b)
    replace Px := hid (Px.out.step b)
    replace Pb := hid (Pb.out.step b)
    replace PRP := hid (PRP.out.step b)
    replace Pr := hid (Pr.out.step b)
    replace Sx := hid (Sx.out.now b)
    replace G := hid (below_step G.out b)
    replace GR := hid (below_step GR.out b)
    have lz8 := (show Below _ _ _ from b).size
    clear b
    refine wpAnyT_take (i := 1) (oi := { dst := some 29, op := Op.load 24 (Operand.tmp 5), type := 24, pos := "modulo.go:40", after := #[], guard := none }) (v := (.agg #[(.bool nb), (.slice adb xb.length cb)])) rfl (by kernel_rfl) (fun _ _ _ h => h) (Or.inl ⟨by rfl, ?_⟩) ⟨Pb.out.c0, Pb.out.c1⟩ ?_
    · intro w hSw
      (try dsimp only at hSw)
      go_simp
    simp only [Act.put, List.setIfInBounds_toArray, List.set_cons_zero, List.set_cons_succ]
    refine wpAnyT_two (i := 0) (j := 6) (oi := { dst := some 28, op := Op.call { callee := Callee.value (Operand.func 35), args := #[Operand.const (Value.int IntKind.i64 1)], argTypes := #[2] }, type := 24, pos := "modulo.go:40", after := #[], guard := none }) (oj := { dst := some 10, op := Op.alloc 24, type := 0, pos := "modulo.go:40", after := #[], guard := none }) (by kernel_rfl) rfl rfl (fun K hK => ?_) (fun K hK => ?_)
    · skip
      go_simp
      go_at_call 35
      refine (of_z (n := 1) (by decide) (by decide) _).mono ?_
      rintro e w9 ⟨r0, rfl, m0, b⟩
      obtain ⟨no, xo, ado, qo, rfl, -, -, -, -, -⟩ := id m0
      replace Zx := hid (Zx.out.now b)
      replace Zb := hid (Zb.out.now b)
      replace Zr := hid (Zr.out.now b)
      replace Px := hid (Px.out.step b)
      replace Pb := hid (Pb.out.step b)
      replace PRP := hid (PRP.out.step b)
      replace Pr := hid (Pr.out.step b)
      replace Sx := hid (Sx.out.now b)
      replace G := hid (below_step G.out b)
      replace GR := hid (below_step GR.out b)
      have lz10 := (show Below _ _ _ from b).size
      have Zo := hid m0
      clear b m0
      refine hK.out _ _ (fun _ => ⟨Pb.out.c0, Pb.out.c1⟩) ?_
      clear hK
      refine wpAnyT_two (i := 2) (j := 6) (oi := { dst := some 30, op := Op.call { callee := Callee.value (Operand.func 55), args := #[Operand.tmp 28, Operand.tmp 29], argTypes := #[24, 24] }, type := 35, pos := "modulo.go:40", after := #[{ on := 0, ground := Ground.data }, { on := 1, ground := Ground.data }, { on := 0, ground := Ground.chain }], guard := none }) (oj := { dst := some 10, op := Op.alloc 24, type := 0, pos := "modulo.go:40", after := #[], guard := none }) (by kernel_rfl) rfl rfl (fun K hK => ?_) (fun K hK => ?_)
      · skip
        go_simp
        go_at_call 55
        refine (mod_z Zo.out.zi Zb.out HB.out (by omega) (by omega)).mono ?_
        rintro e w11 ⟨r0, rfl, m0, b⟩
        obtain ⟨np, xp, adp, qp, rfl, -, -, -, -, -⟩ := id m0
        replace Zx := hid (Zx.out.now b)
        replace Zb := hid (Zb.out.now b)
        replace Zr := hid (Zr.out.now b)
        replace Zo := hid (Zo.out.now b)
        replace Px := hid (Px.out.step b)
        replace Pb := hid (Pb.out.step b)
        replace PRP := hid (PRP.out.step b)
        replace Pr := hid (Pr.out.step b)
        replace Sx := hid (Sx.out.now b)
        replace G := hid (below_step G.out b)
        replace GR := hid (below_step GR.out b)
        have lz12 := (show Below _ _ _ from b).size
        have Zp := hid m0
        clear b m0
        refine hK.out _ _ (fun _ => ⟨Pb.out.c0, Pb.out.c1⟩) ?_
        clear hK
        refine wpAnyT_take (i := 3) (oi := { dst := some 27, op := Op.move (Operand.tmp 30), type := 35, pos := "modulo.go:40", after := #[{ on := 2, ground := Ground.data }], guard := none }) (v := (.tuple #[(.agg #[.bool np, .slice adp xp.length qp]), (.int .i64 0)])) rfl (by kernel_rfl) (fun _ _ _ h => h) (Or.inl ⟨by rfl, ?_⟩) ⟨Pb.out.c0, Pb.out.c1⟩ ?_
        · intro w hSw
          (try dsimp only at hSw)
          go_simp
        simp only [Act.put, List.setIfInBounds_toArray, List.set_cons_zero, List.set_cons_succ]
        refine wpAnyT_take (i := 4) (oi := { dst := some 31, op := Op.extract (Operand.tmp 27) 0, type := 24, pos := "modulo.go:40", after := #[{ on := 3, ground := Ground.data }], guard := none }) (v := (.agg #[.bool np, .slice adp xp.length qp])) rfl (by kernel_rfl) (fun _ _ _ h => h) (Or.inl ⟨by rfl, ?_⟩) ⟨Pb.out.c0, Pb.out.c1⟩ ?_
        · intro w hSw
          (try dsimp only at hSw)
          go_simp
        simp only [Act.put, List.setIfInBounds_toArray, List.set_cons_zero, List.set_cons_succ]
        refine wpAnyT_take (i := 5) (oi := { dst := some 32, op := Op.extract (Operand.tmp 27) 1, type := 34, pos := "modulo.go:40", after := #[{ on := 3, ground := Ground.data }, { on := 7, ground := Ground.gcOnly Departure.lateStores }], guard := none }) (v := (.int .i64 0)) rfl (by kernel_rfl) (fun _ _ _ h => h) (Or.inl ⟨by rfl, ?_⟩) ⟨Pb.out.c0, Pb.out.c1⟩ ?_
        · intro w hSw
          (try dsimp only at hSw)
          go_simp
        simp only [Act.put, List.setIfInBounds_toArray, List.set_cons_zero, List.set_cons_succ]
        refine wpAnyT_one (i := 6) (o := { dst := some 10, op := Op.alloc 24, type := 0, pos := "modulo.go:40", after := #[], guard := none }) (by kernel_rfl) rfl (fun K hK => ?_)
        go_simp
        obtain ⟨V13, hW⟩ : ∃ V13, w11.alloc zbox = V13 := ⟨_, rfl⟩
        obtain ⟨kW, sz13⟩ := alloc1 w11 zbox
        rw [hW] at kW sz13
        replace Zx := hid (Zx.out.now kW)
        replace Zb := hid (Zb.out.now kW)
        replace Zr := hid (Zr.out.now kW)
        replace Zo := hid (Zo.out.now kW)
        replace Zp := hid (Zp.out.now kW)
        replace Px := hid (Px.out.step kW)
        replace Pb := hid (Pb.out.step kW)
        replace PRP := hid (PRP.out.step kW)
        replace Pr := hid (Pr.out.step kW)
        replace Sx := hid (Sx.out.now kW)
        replace G := hid (below_step G.out kW)
        replace GR := hid (below_step GR.out kW)
        have lz14 := (show Below _ _ _ from kW).size
        have PN10 : Hid (Duo V13 (w11.heap.size) (.bool false) (.slice none 0 0)) := by unfold Hid; rw [← hW]; exact duo_at rfl
        rw [hW]
        clear hW kW
        refine hK.out _ _ (fun _ => ⟨Pb.out.c0, Pb.out.c1⟩) ?_
        clear hK
        try simp only [Act.put]
        refine wpAnyT_one (i := 7) (o := { dst := none, op := Op.store 24 (Operand.tmp 10) (Operand.tmp 31), type := 0, pos := "modulo.go:40", after := #[{ on := 6, ground := Ground.data }, { on := 4, ground := Ground.data }, { on := 2, ground := Ground.chain }, { on := 0, ground := Ground.phase }, { on := 1, ground := Ground.phase }, { on := 2, ground := Ground.phase }, { on := 3, ground := Ground.phase }, { on := 4, ground := Ground.phase }, { on := 5, ground := Ground.textOnly Departure.lateStores }, { on := 6, ground := Ground.phase }], guard := none }) (by kernel_rfl) rfl (fun K hK => ?_)
        have cN100 := PN10.out.c0
        have cN101 := PN10.out.c1
        have fN100 := PN10.out.fz 0
        have fN101 := PN10.out.fz 1
        go_simp
        clear cN100 cN101 fN100 fN101
        obtain ⟨V15, hW⟩ : ∃ V15, (V13.setCell ⟨w11.heap.size, 0, none⟩ (.bool np)).setCell ⟨w11.heap.size, 1, none⟩ (.slice adp xp.length qp) = V15 := ⟨_, rfl⟩
        replace Zx := hid ((Zx.out).wk ((PN10.out).wk (.bool np) (.slice adp xp.length qp)))
        replace Zb := hid ((Zb.out).wk ((PN10.out).wk (.bool np) (.slice adp xp.length qp)))
        replace Zr := hid ((Zr.out).box (PN10.out) (.bool np) (.slice adp xp.length qp))
        replace Zo := hid ((Zo.out).box (PN10.out) (.bool np) (.slice adp xp.length qp))
        replace Zp := hid ((Zp.out).box (PN10.out) (.bool np) (.slice adp xp.length qp))
        replace Sx := hid ((Sx.out).wk ((PN10.out).wk (.bool np) (.slice adp xp.length qp)))
        replace Px := hid ((Px.out).box (b' := w11.heap.size) (by omega) (.bool np) (.slice adp xp.length qp))
        replace Pb := hid ((Pb.out).box (b' := w11.heap.size) (by omega) (.bool np) (.slice adp xp.length qp))
        replace PRP := hid ((PRP.out).box (b' := w11.heap.size) (by omega) (.bool np) (.slice adp xp.length qp))
        replace Pr := hid ((Pr.out).box (b' := w11.heap.size) (by omega) (.bool np) (.slice adp xp.length qp))
        replace PN10 := hid ((PN10.out).set (.bool np) (.slice adp xp.length qp))
        replace G : Hid (Below w.heap.size w (((V13.setCell ⟨w11.heap.size, 0, none⟩ (.bool np)).setCell ⟨w11.heap.size, 1, none⟩ (.slice adp xp.length qp)))) := bset (bset (G.out) (by omega)) (by omega)
        replace GR : Hid (Below V5.heap.size V5 (((V13.setCell ⟨w11.heap.size, 0, none⟩ (.bool np)).setCell ⟨w11.heap.size, 1, none⟩ (.slice adp xp.length qp)))) := bset (bset (GR.out) (by omega)) (by omega)
        have sz15 : V15.heap.size = V13.heap.size := by rw [← hW]; simp
        rw [hW] at Zx Zb Zr Zo Zp Sx Px Pb PRP Pr PN10 G GR
        rw [hW]
        clear hW
        refine hK.out _ _ (fun _ => ⟨Pb.out.c0, Pb.out.c1⟩) ?_
        clear hK
        try simp only [Act.put]
        refine wpAnyT_one (i := 8) (o := { dst := some 11, op := Op.assign (Operand.tmp 32), type := 34, pos := "modulo.go:40", after := #[{ on := 5, ground := Ground.data }, { on := 7, ground := Ground.chain }, { on := 0, ground := Ground.phase }, { on := 1, ground := Ground.phase }, { on := 2, ground := Ground.phase }, { on := 3, ground := Ground.phase }, { on := 4, ground := Ground.phase }, { on := 5, ground := Ground.phase }, { on := 6, ground := Ground.phase }, { on := 7, ground := Ground.phase }], guard := none }) (by kernel_rfl) rfl (fun K hK => ?_)
        go_simp
        refine hK.out _ _ (fun h => absurd h (by decide)) ?_
        clear hK
        try simp only [Act.put]
        refine wpAnyT_done (by kernel_rfl) ?_ _
        go_wp2_with fail
        go_meet
        exact ⟨⟨_, _, _, _, _, rfl, GR.out, by omega, PN10.out.blk, PN10.out, Zp.out.mono (by omega)⟩, rfl⟩
      · skip
        go_simp
        obtain ⟨V16, hW⟩ : ∃ V16, w9.alloc zbox = V16 := ⟨_, rfl⟩
        obtain ⟨kW, sz16⟩ := alloc1 w9 zbox
        rw [hW] at kW sz16
        replace Zx := hid (Zx.out.now kW)
        replace Zb := hid (Zb.out.now kW)
        replace Zr := hid (Zr.out.now kW)
        replace Zo := hid (Zo.out.now kW)
        replace Px := hid (Px.out.step kW)
        replace Pb := hid (Pb.out.step kW)
        replace PRP := hid (PRP.out.step kW)
        replace Pr := hid (Pr.out.step kW)
        replace Sx := hid (Sx.out.now kW)
        replace G := hid (below_step G.out kW)
        replace GR := hid (below_step GR.out kW)
        have lz17 := (show Below _ _ _ from kW).size
        have PN10 : Hid (Duo V16 (w9.heap.size) (.bool false) (.slice none 0 0)) := by unfold Hid; rw [← hW]; exact duo_at rfl
        rw [hW]
        clear hW kW
        refine hK.out _ _ (fun _ => ⟨Pb.out.c0, Pb.out.c1⟩) ?_
        clear hK
        try simp only [Act.put]
        refine wpAnyT_one (i := 2) (o := { dst := some 30, op := Op.call { callee := Callee.value (Operand.func 55), args := #[Operand.tmp 28, Operand.tmp 29], argTypes := #[24, 24] }, type := 35, pos := "modulo.go:40", after := #[{ on := 0, ground := Ground.data }, { on := 1, ground := Ground.data }, { on := 0, ground := Ground.chain }], guard := none }) (by kernel_rfl) rfl (fun K hK => ?_)
        go_simp
        go_at_call 55
        refine (mod_z Zo.out.zi Zb.out HB.out (by omega) (by omega)).mono ?_
        rintro e w18 ⟨r0, rfl, m0, b⟩
        obtain ⟨np, xp, adp, qp, rfl, -, -, -, -, -⟩ := id m0
        replace Zx := hid (Zx.out.now b)
        replace Zb := hid (Zb.out.now b)
        replace Zr := hid (Zr.out.now b)
        replace Zo := hid (Zo.out.now b)
        replace Px := hid (Px.out.step b)
        replace Pb := hid (Pb.out.step b)
        replace PRP := hid (PRP.out.step b)
        replace Pr := hid (Pr.out.step b)
        replace PN10 := hid (PN10.out.step b)
        replace Sx := hid (Sx.out.now b)
        replace G := hid (below_step G.out b)
        replace GR := hid (below_step GR.out b)
        have lz19 := (show Below _ _ _ from b).size
        have Zp := hid m0
        clear b m0
        refine hK.out _ _ (fun _ => ⟨Pb.out.c0, Pb.out.c1⟩) ?_
        clear hK
        refine wpAnyT_take (i := 3) (oi := { dst := some 27, op := Op.move (Operand.tmp 30), type := 35, pos := "modulo.go:40", after := #[{ on := 2, ground := Ground.data }], guard := none }) (v := (.tuple #[(.agg #[.bool np, .slice adp xp.length qp]), (.int .i64 0)])) rfl (by kernel_rfl) (fun _ _ _ h => h) (Or.inl ⟨by rfl, ?_⟩) ⟨Pb.out.c0, Pb.out.c1⟩ ?_
        · intro w hSw
          (try dsimp only at hSw)
          go_simp
        simp only [Act.put, List.setIfInBounds_toArray, List.set_cons_zero, List.set_cons_succ]
        refine wpAnyT_take (i := 4) (oi := { dst := some 31, op := Op.extract (Operand.tmp 27) 0, type := 24, pos := "modulo.go:40", after := #[{ on := 3, ground := Ground.data }], guard := none }) (v := (.agg #[.bool np, .slice adp xp.length qp])) rfl (by kernel_rfl) (fun _ _ _ h => h) (Or.inl ⟨by rfl, ?_⟩) ⟨Pb.out.c0, Pb.out.c1⟩ ?_
        · intro w hSw
          (try dsimp only at hSw)
          go_simp
        simp only [Act.put, List.setIfInBounds_toArray, List.set_cons_zero, List.set_cons_succ]
        refine wpAnyT_take (i := 5) (oi := { dst := some 32, op := Op.extract (Operand.tmp 27) 1, type := 34, pos := "modulo.go:40", after := #[{ on := 3, ground := Ground.data }, { on := 7, ground := Ground.gcOnly Departure.lateStores }], guard := none }) (v := (.int .i64 0)) rfl (by kernel_rfl) (fun _ _ _ h => h) (Or.inl ⟨by rfl, ?_⟩) ⟨Pb.out.c0, Pb.out.c1⟩ ?_
        · intro w hSw
          (try dsimp only at hSw)
          go_simp
        simp only [Act.put, List.setIfInBounds_toArray, List.set_cons_zero, List.set_cons_succ]
        refine wpAnyT_one (i := 7) (o := { dst := none, op := Op.store 24 (Operand.tmp 10) (Operand.tmp 31), type := 0, pos := "modulo.go:40", after := #[{ on := 6, ground := Ground.data }, { on := 4, ground := Ground.data }, { on := 2, ground := Ground.chain }, { on := 0, ground := Ground.phase }, { on := 1, ground := Ground.phase }, { on := 2, ground := Ground.phase }, { on := 3, ground := Ground.phase }, { on := 4, ground := Ground.phase }, { on := 5, ground := Ground.textOnly Departure.lateStores }, { on := 6, ground := Ground.phase }], guard := none }) (by kernel_rfl) rfl (fun K hK => ?_)
        have cN100 := PN10.out.c0
        have cN101 := PN10.out.c1
        have fN100 := PN10.out.fz 0
        have fN101 := PN10.out.fz 1
        go_simp
        clear cN100 cN101 fN100 fN101
        obtain ⟨V20, hW⟩ : ∃ V20, (w18.setCell ⟨w9.heap.size, 0, none⟩ (.bool np)).setCell ⟨w9.heap.size, 1, none⟩ (.slice adp xp.length qp) = V20 := ⟨_, rfl⟩
        replace Zx := hid ((Zx.out).wk ((PN10.out).wk (.bool np) (.slice adp xp.length qp)))
        replace Zb := hid ((Zb.out).wk ((PN10.out).wk (.bool np) (.slice adp xp.length qp)))
        replace Zr := hid ((Zr.out).box (PN10.out) (.bool np) (.slice adp xp.length qp))
        replace Zo := hid ((Zo.out).box (PN10.out) (.bool np) (.slice adp xp.length qp))
        replace Zp := hid ((Zp.out).box (PN10.out) (.bool np) (.slice adp xp.length qp))
        replace Sx := hid ((Sx.out).wk ((PN10.out).wk (.bool np) (.slice adp xp.length qp)))
        replace Px := hid ((Px.out).box (b' := w9.heap.size) (by omega) (.bool np) (.slice adp xp.length qp))
        replace Pb := hid ((Pb.out).box (b' := w9.heap.size) (by omega) (.bool np) (.slice adp xp.length qp))
        replace PRP := hid ((PRP.out).box (b' := w9.heap.size) (by omega) (.bool np) (.slice adp xp.length qp))
        replace Pr := hid ((Pr.out).box (b' := w9.heap.size) (by omega) (.bool np) (.slice adp xp.length qp))
        replace PN10 := hid ((PN10.out).set (.bool np) (.slice adp xp.length qp))
        replace G : Hid (Below w.heap.size w (((w18.setCell ⟨w9.heap.size, 0, none⟩ (.bool np)).setCell ⟨w9.heap.size, 1, none⟩ (.slice adp xp.length qp)))) := bset (bset (G.out) (by omega)) (by omega)
        replace GR : Hid (Below V5.heap.size V5 (((w18.setCell ⟨w9.heap.size, 0, none⟩ (.bool np)).setCell ⟨w9.heap.size, 1, none⟩ (.slice adp xp.length qp)))) := bset (bset (GR.out) (by omega)) (by omega)
        have sz20 : V20.heap.size = w18.heap.size := by rw [← hW]; simp
        rw [hW] at Zx Zb Zr Zo Zp Sx Px Pb PRP Pr PN10 G GR
        rw [hW]
        clear hW
        refine hK.out _ _ (fun _ => ⟨Pb.out.c0, Pb.out.c1⟩) ?_
        clear hK
        try simp only [Act.put]
        refine wpAnyT_one (i := 8) (o := { dst := some 11, op := Op.assign (Operand.tmp 32), type := 34, pos := "modulo.go:40", after := #[{ on := 5, ground := Ground.data }, { on := 7, ground := Ground.chain }, { on := 0, ground := Ground.phase }, { on := 1, ground := Ground.phase }, { on := 2, ground := Ground.phase }, { on := 3, ground := Ground.phase }, { on := 4, ground := Ground.phase }, { on := 5, ground := Ground.phase }, { on := 6, ground := Ground.phase }, { on := 7, ground := Ground.phase }], guard := none }) (by kernel_rfl) rfl (fun K hK => ?_)
        go_simp
        refine hK.out _ _ (fun h => absurd h (by decide)) ?_
        clear hK
        try simp only [Act.put]
        refine wpAnyT_done (by kernel_rfl) ?_ _
        go_wp2_with fail
        go_meet
        exact ⟨⟨_, _, _, _, _, rfl, GR.out, by omega, PN10.out.blk, PN10.out, Zp.out.mono (by omega)⟩, rfl⟩
    · skip
      go_simp
      obtain ⟨V21, hW⟩ : ∃ V21, D7.alloc zbox = V21 := ⟨_, rfl⟩
      obtain ⟨kW, sz21⟩ := alloc1 D7 zbox
      rw [hW] at kW sz21
      replace Zx := hid (Zx.out.now kW)
      replace Zb := hid (Zb.out.now kW)
      replace Zr := hid (Zr.out.now kW)
      replace Px := hid (Px.out.step kW)
      replace Pb := hid (Pb.out.step kW)
      replace PRP := hid (PRP.out.step kW)
      replace Pr := hid (Pr.out.step kW)
      replace Sx := hid (Sx.out.now kW)
      replace G := hid (below_step G.out kW)
      replace GR := hid (below_step GR.out kW)
      have lz22 := (show Below _ _ _ from kW).size
      have PN10 : Hid (Duo V21 (D7.heap.size) (.bool false) (.slice none 0 0)) := by unfold Hid; rw [← hW]; exact duo_at rfl
      rw [hW]
      clear hW kW
      refine hK.out _ _ (fun _ => ⟨Pb.out.c0, Pb.out.c1⟩) ?_
      clear hK
      try simp only [Act.put]
      refine wpAnyT_one (i := 0) (o := { dst := some 28, op := Op.call { callee := Callee.value (Operand.func 35), args := #[Operand.const (Value.int IntKind.i64 1)], argTypes := #[2] }, type := 24, pos := "modulo.go:40", after := #[], guard := none }) (by kernel_rfl) rfl (fun K hK => ?_)
      go_simp
      go_at_call 35
      refine (of_z (n := 1) (by decide) (by decide) _).mono ?_
      rintro e w23 ⟨r0, rfl, m0, b⟩
      obtain ⟨no, xo, ado, qo, rfl, -, -, -, -, -⟩ := id m0
      replace Zx := hid (Zx.out.now b)
      replace Zb := hid (Zb.out.now b)
      replace Zr := hid (Zr.out.now b)
      replace Px := hid (Px.out.step b)
      replace Pb := hid (Pb.out.step b)
      replace PRP := hid (PRP.out.step b)
      replace Pr := hid (Pr.out.step b)
      replace PN10 := hid (PN10.out.step b)
      replace Sx := hid (Sx.out.now b)
      replace G := hid (below_step G.out b)
      replace GR := hid (below_step GR.out b)
      have lz24 := (show Below _ _ _ from b).size
      have Zo := hid m0
      clear b m0
      refine hK.out _ _ (fun _ => ⟨Pb.out.c0, Pb.out.c1⟩) ?_
      clear hK
      refine wpAnyT_one (i := 2) (o := { dst := some 30, op := Op.call { callee := Callee.value (Operand.func 55), args := #[Operand.tmp 28, Operand.tmp 29], argTypes := #[24, 24] }, type := 35, pos := "modulo.go:40", after := #[{ on := 0, ground := Ground.data }, { on := 1, ground := Ground.data }, { on := 0, ground := Ground.chain }], guard := none }) (by kernel_rfl) rfl (fun K hK => ?_)
      go_simp
      go_at_call 55
      refine (mod_z Zo.out.zi Zb.out HB.out (by omega) (by omega)).mono ?_
      rintro e w25 ⟨r0, rfl, m0, b⟩
      obtain ⟨np, xp, adp, qp, rfl, -, -, -, -, -⟩ := id m0
      replace Zx := hid (Zx.out.now b)
      replace Zb := hid (Zb.out.now b)
      replace Zr := hid (Zr.out.now b)
      replace Zo := hid (Zo.out.now b)
      replace Px := hid (Px.out.step b)
      replace Pb := hid (Pb.out.step b)
      replace PRP := hid (PRP.out.step b)
      replace Pr := hid (Pr.out.step b)
      replace PN10 := hid (PN10.out.step b)
      replace Sx := hid (Sx.out.now b)
      replace G := hid (below_step G.out b)
      replace GR := hid (below_step GR.out b)
      have lz26 := (show Below _ _ _ from b).size
      have Zp := hid m0
      clear b m0
      refine hK.out _ _ (fun _ => ⟨Pb.out.c0, Pb.out.c1⟩) ?_
      clear hK
      refine wpAnyT_take (i := 3) (oi := { dst := some 27, op := Op.move (Operand.tmp 30), type := 35, pos := "modulo.go:40", after := #[{ on := 2, ground := Ground.data }], guard := none }) (v := (.tuple #[(.agg #[.bool np, .slice adp xp.length qp]), (.int .i64 0)])) rfl (by kernel_rfl) (fun _ _ _ h => h) (Or.inl ⟨by rfl, ?_⟩) ⟨Pb.out.c0, Pb.out.c1⟩ ?_
      · intro w hSw
        (try dsimp only at hSw)
        go_simp
      simp only [Act.put, List.setIfInBounds_toArray, List.set_cons_zero, List.set_cons_succ]
      refine wpAnyT_take (i := 4) (oi := { dst := some 31, op := Op.extract (Operand.tmp 27) 0, type := 24, pos := "modulo.go:40", after := #[{ on := 3, ground := Ground.data }], guard := none }) (v := (.agg #[.bool np, .slice adp xp.length qp])) rfl (by kernel_rfl) (fun _ _ _ h => h) (Or.inl ⟨by rfl, ?_⟩) ⟨Pb.out.c0, Pb.out.c1⟩ ?_
      · intro w hSw
        (try dsimp only at hSw)
        go_simp
      simp only [Act.put, List.setIfInBounds_toArray, List.set_cons_zero, List.set_cons_succ]
      refine wpAnyT_take (i := 5) (oi := { dst := some 32, op := Op.extract (Operand.tmp 27) 1, type := 34, pos := "modulo.go:40", after := #[{ on := 3, ground := Ground.data }, { on := 7, ground := Ground.gcOnly Departure.lateStores }], guard := none }) (v := (.int .i64 0)) rfl (by kernel_rfl) (fun _ _ _ h => h) (Or.inl ⟨by rfl, ?_⟩) ⟨Pb.out.c0, Pb.out.c1⟩ ?_
      · intro w hSw
        (try dsimp only at hSw)
        go_simp
      simp only [Act.put, List.setIfInBounds_toArray, List.set_cons_zero, List.set_cons_succ]
      refine wpAnyT_one (i := 7) (o := { dst := none, op := Op.store 24 (Operand.tmp 10) (Operand.tmp 31), type := 0, pos := "modulo.go:40", after := #[{ on := 6, ground := Ground.data }, { on := 4, ground := Ground.data }, { on := 2, ground := Ground.chain }, { on := 0, ground := Ground.phase }, { on := 1, ground := Ground.phase }, { on := 2, ground := Ground.phase }, { on := 3, ground := Ground.phase }, { on := 4, ground := Ground.phase }, { on := 5, ground := Ground.textOnly Departure.lateStores }, { on := 6, ground := Ground.phase }], guard := none }) (by kernel_rfl) rfl (fun K hK => ?_)
      have cN100 := PN10.out.c0
      have cN101 := PN10.out.c1
      have fN100 := PN10.out.fz 0
      have fN101 := PN10.out.fz 1
      go_simp
      clear cN100 cN101 fN100 fN101
      obtain ⟨V27, hW⟩ : ∃ V27, (w25.setCell ⟨D7.heap.size, 0, none⟩ (.bool np)).setCell ⟨D7.heap.size, 1, none⟩ (.slice adp xp.length qp) = V27 := ⟨_, rfl⟩
      replace Zx := hid ((Zx.out).wk ((PN10.out).wk (.bool np) (.slice adp xp.length qp)))
      replace Zb := hid ((Zb.out).wk ((PN10.out).wk (.bool np) (.slice adp xp.length qp)))
      replace Zr := hid ((Zr.out).box (PN10.out) (.bool np) (.slice adp xp.length qp))
      replace Zo := hid ((Zo.out).box (PN10.out) (.bool np) (.slice adp xp.length qp))
      replace Zp := hid ((Zp.out).box (PN10.out) (.bool np) (.slice adp xp.length qp))
      replace Sx := hid ((Sx.out).wk ((PN10.out).wk (.bool np) (.slice adp xp.length qp)))
      replace Px := hid ((Px.out).box (b' := D7.heap.size) (by omega) (.bool np) (.slice adp xp.length qp))
      replace Pb := hid ((Pb.out).box (b' := D7.heap.size) (by omega) (.bool np) (.slice adp xp.length qp))
      replace PRP := hid ((PRP.out).box (b' := D7.heap.size) (by omega) (.bool np) (.slice adp xp.length qp))
      replace Pr := hid ((Pr.out).box (b' := D7.heap.size) (by omega) (.bool np) (.slice adp xp.length qp))
      replace PN10 := hid ((PN10.out).set (.bool np) (.slice adp xp.length qp))
      replace G : Hid (Below w.heap.size w (((w25.setCell ⟨D7.heap.size, 0, none⟩ (.bool np)).setCell ⟨D7.heap.size, 1, none⟩ (.slice adp xp.length qp)))) := bset (bset (G.out) (by omega)) (by omega)
      replace GR : Hid (Below V5.heap.size V5 (((w25.setCell ⟨D7.heap.size, 0, none⟩ (.bool np)).setCell ⟨D7.heap.size, 1, none⟩ (.slice adp xp.length qp)))) := bset (bset (GR.out) (by omega)) (by omega)
      have sz27 : V27.heap.size = w25.heap.size := by rw [← hW]; simp
      rw [hW] at Zx Zb Zr Zo Zp Sx Px Pb PRP Pr PN10 G GR
      rw [hW]
      clear hW
      refine hK.out _ _ (fun _ => ⟨Pb.out.c0, Pb.out.c1⟩) ?_
      clear hK
      try simp only [Act.put]
      refine wpAnyT_one (i := 8) (o := { dst := some 11, op := Op.assign (Operand.tmp 32), type := 34, pos := "modulo.go:40", after := #[{ on := 5, ground := Ground.data }, { on := 7, ground := Ground.chain }, { on := 0, ground := Ground.phase }, { on := 1, ground := Ground.phase }, { on := 2, ground := Ground.phase }, { on := 3, ground := Ground.phase }, { on := 4, ground := Ground.phase }, { on := 5, ground := Ground.phase }, { on := 6, ground := Ground.phase }, { on := 7, ground := Ground.phase }], guard := none }) (by kernel_rfl) rfl (fun K hK => ?_)
      go_simp
      refine hK.out _ _ (fun h => absurd h (by decide)) ?_
      clear hK
      try simp only [Act.put]
      refine wpAnyT_done (by kernel_rfl) ?_ _
      go_wp2_with fail
      go_meet
      exact ⟨⟨_, _, _, _, _, rfl, GR.out, by omega, PN10.out.blk, PN10.out, Zp.out.mono (by omega)⟩, rfl⟩
  case rest =>
  obtain ⟨⟨bkp, np, xp, adp, qp, rfl, b, gep, ltp, p, m⟩, rfl⟩ := hcut
  replace Zx := hid (Zx.out.now b)
  replace Zb := hid (Zb.out.now b)
  replace Zr := hid (Zr.out.now b)
  replace Px := hid (Px.out.step b)
  replace Pb := hid (Pb.out.step b)
  replace PRP := hid (PRP.out.step b)
  replace Pr := hid (Pr.out.step b)
  replace Sx := hid (Sx.out.now b)
  replace G := hid (below_step G.out b)
  have lz29 := (show Below _ _ _ from b).size
  have Zp := hid m
  have Pp := hid p
  clear b p m
  generalize wc = C29 at *
  replace Zp := hid (Zp.out.fit (mod_fit HB.out LB.out))
  have HBL := hid (bitLen_any Sx.out)
  have hbp := Pp.out.blk
  have hbr := Pr.out.blk
  have cx0 := Px.out.c0
  have cx1 := Px.out.c1
  go_wp2_with fail
  clear cx0 cx1
  refine HBL.out.mono ?_
  rintro e w1 ⟨rfl, hw1⟩
  rw [hw1]
  clear HBL hw1 w1
  have ES : Hid (1 % B = pmod A (vn xx / 2 ^ bitLen (vn xx)) B) := pmod_start A B (vn xx)
  rw [ES.out] at Zp
  have EW1 : IntKind.i64.wrap ((bitLen (vn xx) : Int) - 1) = (bitLen (vn xx) : Int) - 1 := by rw [wrap_is] <;> omega
  have H0 : Hid (PowH w A B xx k (w.heap.size + 1) (w3.heap.size) (bkp) (.bool nx) (.slice adx xx.length cx) (.bool nb) (.slice adb xb.length cb) (.bool nr) (.slice adr xr.length qr) (bitLen (vn xx)) (.int .i64 ((bitLen (vn xx) : Int) - 1)) C29) := ⟨bitLen (vn xx), _, _, rfl, hbl, rfl, Zp.out.mono (by omega), Pp.out, Px.out, Sx.out, Pb.out, Zb.out, Pr.out, Zr.out.zi, PRP.out, G.out⟩
  clear ES Zp Pp Px Sx Pb Zb Pr Zr PRP G Zx
  generalize bitLen (vn xx) = bl at *
  go_wp2_with fail
  go_loopg [12] bl (fun g s12 wx => PowH w A B xx k (w.heap.size + 1) (w3.heap.size) (bkp) (.bool nx) (.slice adx xx.length cx) (.bool nb) (.slice adb xb.length cb) (.bool nr) (.slice adr xr.length qr) g s12 wx)
  case atStart => exact H0.out
  case round =>
    clear H0
    obtain ⟨j, p0, p1, rfl, hj, hg, z1, d1, d2, s2, d3, z3, d4, z4, d5, hG⟩ := hrel
    obtain ⟨np, xp, adp, cp, rfl, rfl⟩ := z1.zi.comp
    have Zp := hid z1
    have Pp := hid d1
    have Px := hid d2
    have Sx := hid s2
    have Pb := hid d3
    have Zb := hid z3
    have Pr := hid d4
    have Zr := hid z4
    have PRP := hid d5
    have G := hid hG
    have HG := hid hg
    have lp := Pp.out.blk
    have lr := Pr.out.blk
    clear z1 d1 d2 s2 d3 z3 d4 z4 d5 hG hg
    have ZX0 : Hid (Zi wr (.agg #[.bool nx, .slice adx xx.length cx]) (iv nx xx) xx.length) := ⟨_, xx, _, _, rfl, Sx.out, rfl, Nat.le_refl _⟩
    by_cases hj0 : j = 0
    · skip
      subst hj0
      have hge : ¬ (0 : Int) ≤ ((0 : Nat) : Int) - 1 := by omega
      have EP : Hid (pmod A (vn xx / 2 ^ 0) B = pmod A X.toNat B) := by unfold Hid; rw [← EN.out]; simp
      rw [EP.out] at Zp
      have cp0 := Pp.out.c0
      have cp1 := Pp.out.c1
      have cRP0 := PRP.out.c0
      have cRP1 := PRP.out.c1
      have fRP0 := PRP.out.fz 0
      have fRP1 := PRP.out.fz 1
      go_wp2
      exact bodyPost_ret (zback1 Try.results32 (PRP.out.set _ _) _ (by rfl) (by rfl)) rfl ⟨_, rfl, Zp.out.box PRP.out _ _, bset (bset G.out (by omega)) (by omega)⟩
    · skip
      obtain ⟨i, rfl⟩ : ∃ i, j = i + 1 := ⟨j - 1, by omega⟩
      have ei : ((i + 1 : Nat) : Int) - 1 = (i : Int) := by omega
      rw [ei]
      have hge : (0 : Int) ≤ (i : Int) := by omega
      have ew : IntKind.i64.wrap ((i : Int) - 1) = (i : Int) - 1 := by rw [wrap_is] <;> omega
      have HM : Hid (i < gk) := by unfold Hid; rw [HG.out]; omega
      clear ei hj0
      go_wp2_with fail
      refine wp_region_X (fun w' => w'.cell? ⟨bkp, 0, none⟩ = some (.bool np) ∧ w'.cell? ⟨bkp, 1, none⟩ = some (.slice adp xp.length cp) ∧ w'.cell? ⟨w.heap.size + 1 + 1, 0, none⟩ = some (.bool nb) ∧ w'.cell? ⟨w.heap.size + 1 + 1, 1, none⟩ = some (.slice adb xb.length cb)) [8] (by kernel_rfl) ?_
      obtain ⟨D30, hD⟩ : ∃ D30, wr.drew = D30 := ⟨_, rfl⟩
      have b : Below wr.heap.size wr D30 := by rw [← hD]; exact (Below.refl _ _).drew
      rw [hD]
      clear hD
      replace Zb := hid (Zb.out.now b)
      replace Zr := hid (Zr.out.now b)
      replace ZX0 := hid (ZX0.out.now b)
      replace Zp := hid (Zp.out.now b)
      replace Pp := hid (Pp.out.step b)
      replace Px := hid (Px.out.step b)
      replace Pb := hid (Pb.out.step b)
      replace Pr := hid (Pr.out.step b)
      replace PRP := hid (PRP.out.step b)
      replace Sx := hid (Sx.out.now b)
      replace G := hid (below_step G.out b)
      have lz31 := (show Below _ _ _ from b).size
      clear b
      refine wpAnyX_take (i := 0) (oi := { dst := some 42, op := Op.load 24 (Operand.tmp 10), type := 24, pos := "modulo.go:42", after := #[], guard := none }) (v := (.agg #[(.bool np), (.slice adp xp.length cp)])) rfl (by kernel_rfl) (fun _ _ _ h => h) (Or.inl ⟨by rfl, ?_⟩) ⟨Pp.out.c0, Pp.out.c1, Pb.out.c0, Pb.out.c1⟩ ?_
      · intro w hSw
        (try dsimp only at hSw)
        go_simp
      simp only [Act.put, List.setIfInBounds_toArray, List.set_cons_zero, List.set_cons_succ]
      refine wpAnyX_take (i := 1) (oi := { dst := some 43, op := Op.load 24 (Operand.tmp 10), type := 24, pos := "modulo.go:42", after := #[], guard := none }) (v := (.agg #[(.bool np), (.slice adp xp.length cp)])) rfl (by kernel_rfl) (fun _ _ _ h => h) (Or.inl ⟨by rfl, ?_⟩) ⟨Pp.out.c0, Pp.out.c1, Pb.out.c0, Pb.out.c1⟩ ?_
      · intro w hSw
        (try dsimp only at hSw)
        go_simp
      simp only [Act.put, List.setIfInBounds_toArray, List.set_cons_zero, List.set_cons_succ]
      refine wpAnyX_take (i := 3) (oi := { dst := some 45, op := Op.load 24 (Operand.tmp 5), type := 24, pos := "modulo.go:42", after := #[], guard := none }) (v := (.agg #[(.bool nb), (.slice adb xb.length cb)])) rfl (by kernel_rfl) (fun _ _ _ h => h) (Or.inl ⟨by rfl, ?_⟩) ⟨Pp.out.c0, Pp.out.c1, Pb.out.c0, Pb.out.c1⟩ ?_
      · intro w hSw
        (try dsimp only at hSw)
        go_simp
      simp only [Act.put, List.setIfInBounds_toArray, List.set_cons_zero, List.set_cons_succ]
      refine wpAnyX_one (i := 2) (o := { dst := some 44, op := Op.call { callee := Callee.value (Operand.func 39), args := #[Operand.tmp 42, Operand.tmp 43], argTypes := #[24, 24] }, type := 24, pos := "modulo.go:42", after := #[{ on := 0, ground := Ground.data }, { on := 1, ground := Ground.data }], guard := none }) (by kernel_rfl) rfl (fun K hK => ?_)
      go_simp
      go_at_call 39
      refine (mul_z Zp.out.zi Zp.out.zi (by omega)).mono ?_
      rintro e w32 ⟨r0, rfl, m0, b⟩
      obtain ⟨nu, xu, adu, qu, rfl, -, -, -, -, -⟩ := id m0
      replace Zb := hid (Zb.out.now b)
      replace Zr := hid (Zr.out.now b)
      replace ZX0 := hid (ZX0.out.now b)
      replace Zp := hid (Zp.out.now b)
      replace Pp := hid (Pp.out.step b)
      replace Px := hid (Px.out.step b)
      replace Pb := hid (Pb.out.step b)
      replace Pr := hid (Pr.out.step b)
      replace PRP := hid (PRP.out.step b)
      replace Sx := hid (Sx.out.now b)
      replace G := hid (below_step G.out b)
      have lz33 := (show Below _ _ _ from b).size
      have Zu := hid m0
      clear b m0
      refine hK.out _ _ (fun _ _ => ⟨Pp.out.c0, Pp.out.c1, Pb.out.c0, Pb.out.c1⟩) ?_
      clear hK
      refine wpAnyX_one (i := 4) (o := { dst := some 46, op := Op.call { callee := Callee.value (Operand.func 55), args := #[Operand.tmp 44, Operand.tmp 45], argTypes := #[24, 24] }, type := 35, pos := "modulo.go:42", after := #[{ on := 2, ground := Ground.data }, { on := 3, ground := Ground.data }, { on := 2, ground := Ground.chain }], guard := none }) (by kernel_rfl) rfl (fun K hK => ?_)
      go_simp
      go_at_call 55
      refine (mod_z Zu.out.zi Zb.out HB.out (by omega) (by omega)).mono ?_
      rintro e w34 ⟨r0, rfl, m0, b⟩
      obtain ⟨nv, xv, adv, qv, rfl, -, -, -, -, -⟩ := id m0
      replace m0 := m0.fit (mod_fit HB.out LB.out)
      replace Zb := hid (Zb.out.now b)
      replace Zr := hid (Zr.out.now b)
      replace ZX0 := hid (ZX0.out.now b)
      replace Zp := hid (Zp.out.now b)
      replace Zu := hid (Zu.out.now b)
      replace Pp := hid (Pp.out.step b)
      replace Px := hid (Px.out.step b)
      replace Pb := hid (Pb.out.step b)
      replace Pr := hid (Pr.out.step b)
      replace PRP := hid (PRP.out.step b)
      replace Sx := hid (Sx.out.now b)
      replace G := hid (below_step G.out b)
      have lz35 := (show Below _ _ _ from b).size
      have Zv := hid m0
      clear b m0
      refine hK.out _ _ (fun _ _ => ⟨Pp.out.c0, Pp.out.c1, Pb.out.c0, Pb.out.c1⟩) ?_
      clear hK
      refine wpAnyX_pure (i := 5) (oi := { dst := some 41, op := Op.move (Operand.tmp 46), type := 35, pos := "modulo.go:42", after := #[{ on := 4, ground := Ground.data }], guard := none }) (v := (.tuple #[(.agg #[.bool nv, .slice adv xv.length qv]), (.int .i64 0)])) rfl (by kernel_rfl) (fun _ _ _ h => h) (Or.inl ⟨by rfl, ?_⟩)  ?_
      · intro w hSw
        (try dsimp only at hSw)
        go_simp
      simp only [Act.put, List.setIfInBounds_toArray, List.set_cons_zero, List.set_cons_succ]
      refine wpAnyX_pure (i := 6) (oi := { dst := some 47, op := Op.extract (Operand.tmp 41) 0, type := 24, pos := "modulo.go:42", after := #[{ on := 5, ground := Ground.data }], guard := none }) (v := (.agg #[.bool nv, .slice adv xv.length qv])) rfl (by kernel_rfl) (fun _ _ _ h => h) (Or.inl ⟨by rfl, ?_⟩)  ?_
      · intro w hSw
        (try dsimp only at hSw)
        go_simp
      simp only [Act.put, List.setIfInBounds_toArray, List.set_cons_zero, List.set_cons_succ]
      refine wpAnyX_pure (i := 7) (oi := { dst := some 48, op := Op.extract (Operand.tmp 41) 1, type := 34, pos := "modulo.go:42", after := #[{ on := 5, ground := Ground.data }, { on := 8, ground := Ground.gcOnly Departure.lateStores }], guard := none }) (v := (.int .i64 0)) rfl (by kernel_rfl) (fun _ _ _ h => h) (Or.inl ⟨by rfl, ?_⟩)  ?_
      · intro w hSw
        (try dsimp only at hSw)
        go_simp
      simp only [Act.put, List.setIfInBounds_toArray, List.set_cons_zero, List.set_cons_succ]
      refine wpAnyX_one (i := 8) (o := { dst := none, op := Op.store 24 (Operand.tmp 10) (Operand.tmp 47), type := 0, pos := "modulo.go:42", after := #[{ on := 6, ground := Ground.data }, { on := 4, ground := Ground.chain }, { on := 0, ground := Ground.phase }, { on := 1, ground := Ground.phase }, { on := 2, ground := Ground.phase }, { on := 3, ground := Ground.phase }, { on := 4, ground := Ground.phase }, { on := 5, ground := Ground.phase }, { on := 6, ground := Ground.phase }, { on := 7, ground := Ground.textOnly Departure.lateStores }], guard := none }) (by kernel_rfl) rfl (fun K hK => ?_)
      have cp0 := Pp.out.c0
      have cp1 := Pp.out.c1
      have fp0 := Pp.out.fz 0
      have fp1 := Pp.out.fz 1
      go_simp
      clear cp0 cp1 fp0 fp1
      obtain ⟨V36, hW⟩ : ∃ V36, (w34.setCell ⟨bkp, 0, none⟩ (.bool nv)).setCell ⟨bkp, 1, none⟩ (.slice adv xv.length qv) = V36 := ⟨_, rfl⟩
      replace Zb := hid ((Zb.out).wk ((Pp.out).wk (.bool nv) (.slice adv xv.length qv)))
      replace Zr := hid ((Zr.out).wk ((Pp.out).wk (.bool nv) (.slice adv xv.length qv)))
      replace ZX0 := hid ((ZX0.out).wk ((Pp.out).wk (.bool nv) (.slice adv xv.length qv)))
      replace Zp := hid ((Zp.out).box (Pp.out) (.bool nv) (.slice adv xv.length qv))
      replace Zu := hid ((Zu.out).box (Pp.out) (.bool nv) (.slice adv xv.length qv))
      replace Zv := hid ((Zv.out).box (Pp.out) (.bool nv) (.slice adv xv.length qv))
      replace Sx := hid ((Sx.out).wk ((Pp.out).wk (.bool nv) (.slice adv xv.length qv)))
      replace Pp := hid ((Pp.out).set (.bool nv) (.slice adv xv.length qv))
      replace Px := hid ((Px.out).box (b' := bkp) (by omega) (.bool nv) (.slice adv xv.length qv))
      replace Pb := hid ((Pb.out).box (b' := bkp) (by omega) (.bool nv) (.slice adv xv.length qv))
      replace Pr := hid ((Pr.out).box (b' := bkp) (by omega) (.bool nv) (.slice adv xv.length qv))
      replace PRP := hid ((PRP.out).box (b' := bkp) (by omega) (.bool nv) (.slice adv xv.length qv))
      replace G : Hid (Below w.heap.size w (((w34.setCell ⟨bkp, 0, none⟩ (.bool nv)).setCell ⟨bkp, 1, none⟩ (.slice adv xv.length qv)))) := bset (bset (G.out) (by omega)) (by omega)
      have sz36 : V36.heap.size = w34.heap.size := by rw [← hW]; simp
      rw [hW] at Zb Zr ZX0 Zp Zu Zv Sx Pp Px Pb Pr PRP G
      rw [hW]
      clear hW
      refine hK.out _ _ (fun h => absurd h (by decide)) ?_
      clear hK
      try simp only [Act.put]
      refine wpAnyX_done (by kernel_rfl) ?_ _
      clear Zu
      clear Zp
      by_cases hbit : vn xx / 2 ^ i % 2 = 1
      · skip
        have HBIT : Hid (Calls Try.prog 57 #[(.slice adx xx.length cx), .int .i64 (i : Int)] V36 fun e w' => e = .returned (.int .i64 1) ∧ w' = V36) := by
          have q := bit_any Sx.out (i := (i : Int)) (by omega) (by omega)
          rw [bitAt_nat, hbit] at q
          exact q
        have qb : ((1 : Int) == 1) = true := rfl
        have EV := hid (pmod_bit1 (A := A) (B := B) hbit)
        clear hbit
        have cx0 := Px.out.c0
        have cx1 := Px.out.c1
        go_wp2_with fail
        clear cx0 cx1
        refine HBIT.out.mono ?_
        rintro e w1 ⟨rfl, hw1⟩
        rw [hw1]
        clear HBIT hw1 w1
        go_wp2_with fail
        refine wp_region_X (fun w' => w'.cell? ⟨bkp, 0, none⟩ = some (.bool nv) ∧ w'.cell? ⟨bkp, 1, none⟩ = some (.slice adv xv.length qv) ∧ w'.cell? ⟨w3.heap.size, 0, none⟩ = some (.bool nr) ∧ w'.cell? ⟨w3.heap.size, 1, none⟩ = some (.slice adr xr.length qr) ∧ w'.cell? ⟨w.heap.size + 1 + 1, 0, none⟩ = some (.bool nb) ∧ w'.cell? ⟨w.heap.size + 1 + 1, 1, none⟩ = some (.slice adb xb.length cb)) [8] (by kernel_rfl) ?_
        obtain ⟨D37, hD⟩ : ∃ D37, V36.drew = D37 := ⟨_, rfl⟩
        have b : Below V36.heap.size V36 D37 := by rw [← hD]; exact (Below.refl _ _).drew
        rw [hD]
        clear hD
        replace Zb := hid (Zb.out.now b)
        replace Zr := hid (Zr.out.now b)
        replace ZX0 := hid (ZX0.out.now b)
        replace Zv := hid (Zv.out.now b)
        replace Pp := hid (Pp.out.step b)
        replace Px := hid (Px.out.step b)
        replace Pb := hid (Pb.out.step b)
        replace Pr := hid (Pr.out.step b)
        replace PRP := hid (PRP.out.step b)
        replace Sx := hid (Sx.out.now b)
        replace G := hid (below_step G.out b)
        have lz38 := (show Below _ _ _ from b).size
        clear b
        refine wpAnyX_take (i := 0) (oi := { dst := some 55, op := Op.load 24 (Operand.tmp 10), type := 24, pos := "modulo.go:44", after := #[], guard := none }) (v := (.agg #[(.bool nv), (.slice adv xv.length qv)])) rfl (by kernel_rfl) (fun _ _ _ h => h) (Or.inl ⟨by rfl, ?_⟩) ⟨Pp.out.c0, Pp.out.c1, Pr.out.c0, Pr.out.c1, Pb.out.c0, Pb.out.c1⟩ ?_
        · intro w hSw
          (try dsimp only at hSw)
          go_simp
        simp only [Act.put, List.setIfInBounds_toArray, List.set_cons_zero, List.set_cons_succ]
        refine wpAnyX_take (i := 1) (oi := { dst := some 56, op := Op.load 24 (Operand.tmp 8), type := 24, pos := "modulo.go:44", after := #[], guard := none }) (v := (.agg #[(.bool nr), (.slice adr xr.length qr)])) rfl (by kernel_rfl) (fun _ _ _ h => h) (Or.inl ⟨by rfl, ?_⟩) ⟨Pp.out.c0, Pp.out.c1, Pr.out.c0, Pr.out.c1, Pb.out.c0, Pb.out.c1⟩ ?_
        · intro w hSw
          (try dsimp only at hSw)
          go_simp
        simp only [Act.put, List.setIfInBounds_toArray, List.set_cons_zero, List.set_cons_succ]
        refine wpAnyX_take (i := 3) (oi := { dst := some 58, op := Op.load 24 (Operand.tmp 5), type := 24, pos := "modulo.go:44", after := #[], guard := none }) (v := (.agg #[(.bool nb), (.slice adb xb.length cb)])) rfl (by kernel_rfl) (fun _ _ _ h => h) (Or.inl ⟨by rfl, ?_⟩) ⟨Pp.out.c0, Pp.out.c1, Pr.out.c0, Pr.out.c1, Pb.out.c0, Pb.out.c1⟩ ?_
        · intro w hSw
          (try dsimp only at hSw)
          go_simp
        simp only [Act.put, List.setIfInBounds_toArray, List.set_cons_zero, List.set_cons_succ]
        refine wpAnyX_one (i := 2) (o := { dst := some 57, op := Op.call { callee := Callee.value (Operand.func 39), args := #[Operand.tmp 55, Operand.tmp 56], argTypes := #[24, 24] }, type := 24, pos := "modulo.go:44", after := #[{ on := 0, ground := Ground.data }, { on := 1, ground := Ground.data }], guard := none }) (by kernel_rfl) rfl (fun K hK => ?_)
        go_simp
        go_at_call 39
        refine (mul_z Zv.out.zi Zr.out (by omega)).mono ?_
        rintro e w39 ⟨r0, rfl, m0, b⟩
        obtain ⟨nu, xu, adu, qu, rfl, -, -, -, -, -⟩ := id m0
        replace Zb := hid (Zb.out.now b)
        replace Zr := hid (Zr.out.now b)
        replace ZX0 := hid (ZX0.out.now b)
        replace Zv := hid (Zv.out.now b)
        replace Pp := hid (Pp.out.step b)
        replace Px := hid (Px.out.step b)
        replace Pb := hid (Pb.out.step b)
        replace Pr := hid (Pr.out.step b)
        replace PRP := hid (PRP.out.step b)
        replace Sx := hid (Sx.out.now b)
        replace G := hid (below_step G.out b)
        have lz40 := (show Below _ _ _ from b).size
        have Zu := hid m0
        clear b m0
        refine hK.out _ _ (fun _ _ => ⟨Pp.out.c0, Pp.out.c1, Pr.out.c0, Pr.out.c1, Pb.out.c0, Pb.out.c1⟩) ?_
        clear hK
        refine wpAnyX_one (i := 4) (o := { dst := some 59, op := Op.call { callee := Callee.value (Operand.func 55), args := #[Operand.tmp 57, Operand.tmp 58], argTypes := #[24, 24] }, type := 35, pos := "modulo.go:44", after := #[{ on := 2, ground := Ground.data }, { on := 3, ground := Ground.data }, { on := 2, ground := Ground.chain }], guard := none }) (by kernel_rfl) rfl (fun K hK => ?_)
        go_simp
        go_at_call 55
        refine (mod_z Zu.out.zi Zb.out HB.out (by omega) (by omega)).mono ?_
        rintro e w41 ⟨r0, rfl, m0, b⟩
        obtain ⟨ny, xy, ady, qy, rfl, -, -, -, -, -⟩ := id m0
        replace m0 := m0.fit (mod_fit HB.out LB.out)
        replace Zb := hid (Zb.out.now b)
        replace Zr := hid (Zr.out.now b)
        replace ZX0 := hid (ZX0.out.now b)
        replace Zv := hid (Zv.out.now b)
        replace Zu := hid (Zu.out.now b)
        replace Pp := hid (Pp.out.step b)
        replace Px := hid (Px.out.step b)
        replace Pb := hid (Pb.out.step b)
        replace Pr := hid (Pr.out.step b)
        replace PRP := hid (PRP.out.step b)
        replace Sx := hid (Sx.out.now b)
        replace G := hid (below_step G.out b)
        have lz42 := (show Below _ _ _ from b).size
        have Zy := hid m0
        clear b m0
        refine hK.out _ _ (fun _ _ => ⟨Pp.out.c0, Pp.out.c1, Pr.out.c0, Pr.out.c1, Pb.out.c0, Pb.out.c1⟩) ?_
        clear hK
        refine wpAnyX_pure (i := 5) (oi := { dst := some 54, op := Op.move (Operand.tmp 59), type := 35, pos := "modulo.go:44", after := #[{ on := 4, ground := Ground.data }], guard := none }) (v := (.tuple #[(.agg #[.bool ny, .slice ady xy.length qy]), (.int .i64 0)])) rfl (by kernel_rfl) (fun _ _ _ h => h) (Or.inl ⟨by rfl, ?_⟩)  ?_
        · intro w hSw
          (try dsimp only at hSw)
          go_simp
        simp only [Act.put, List.setIfInBounds_toArray, List.set_cons_zero, List.set_cons_succ]
        refine wpAnyX_pure (i := 6) (oi := { dst := some 60, op := Op.extract (Operand.tmp 54) 0, type := 24, pos := "modulo.go:44", after := #[{ on := 5, ground := Ground.data }], guard := none }) (v := (.agg #[.bool ny, .slice ady xy.length qy])) rfl (by kernel_rfl) (fun _ _ _ h => h) (Or.inl ⟨by rfl, ?_⟩)  ?_
        · intro w hSw
          (try dsimp only at hSw)
          go_simp
        simp only [Act.put, List.setIfInBounds_toArray, List.set_cons_zero, List.set_cons_succ]
        refine wpAnyX_pure (i := 7) (oi := { dst := some 61, op := Op.extract (Operand.tmp 54) 1, type := 34, pos := "modulo.go:44", after := #[{ on := 5, ground := Ground.data }, { on := 8, ground := Ground.gcOnly Departure.lateStores }], guard := none }) (v := (.int .i64 0)) rfl (by kernel_rfl) (fun _ _ _ h => h) (Or.inl ⟨by rfl, ?_⟩)  ?_
        · intro w hSw
          (try dsimp only at hSw)
          go_simp
        simp only [Act.put, List.setIfInBounds_toArray, List.set_cons_zero, List.set_cons_succ]
        refine wpAnyX_one (i := 8) (o := { dst := none, op := Op.store 24 (Operand.tmp 10) (Operand.tmp 60), type := 0, pos := "modulo.go:44", after := #[{ on := 6, ground := Ground.data }, { on := 4, ground := Ground.chain }, { on := 0, ground := Ground.phase }, { on := 1, ground := Ground.phase }, { on := 2, ground := Ground.phase }, { on := 3, ground := Ground.phase }, { on := 4, ground := Ground.phase }, { on := 5, ground := Ground.phase }, { on := 6, ground := Ground.phase }, { on := 7, ground := Ground.textOnly Departure.lateStores }], guard := none }) (by kernel_rfl) rfl (fun K hK => ?_)
        have cp0 := Pp.out.c0
        have cp1 := Pp.out.c1
        have fp0 := Pp.out.fz 0
        have fp1 := Pp.out.fz 1
        go_simp
        clear cp0 cp1 fp0 fp1
        obtain ⟨V43, hW⟩ : ∃ V43, (w41.setCell ⟨bkp, 0, none⟩ (.bool ny)).setCell ⟨bkp, 1, none⟩ (.slice ady xy.length qy) = V43 := ⟨_, rfl⟩
        replace Zb := hid ((Zb.out).wk ((Pp.out).wk (.bool ny) (.slice ady xy.length qy)))
        replace Zr := hid ((Zr.out).wk ((Pp.out).wk (.bool ny) (.slice ady xy.length qy)))
        replace ZX0 := hid ((ZX0.out).wk ((Pp.out).wk (.bool ny) (.slice ady xy.length qy)))
        replace Zv := hid ((Zv.out).box (Pp.out) (.bool ny) (.slice ady xy.length qy))
        replace Zu := hid ((Zu.out).box (Pp.out) (.bool ny) (.slice ady xy.length qy))
        replace Zy := hid ((Zy.out).box (Pp.out) (.bool ny) (.slice ady xy.length qy))
        replace Sx := hid ((Sx.out).wk ((Pp.out).wk (.bool ny) (.slice ady xy.length qy)))
        replace Pp := hid ((Pp.out).set (.bool ny) (.slice ady xy.length qy))
        replace Px := hid ((Px.out).box (b' := bkp) (by omega) (.bool ny) (.slice ady xy.length qy))
        replace Pb := hid ((Pb.out).box (b' := bkp) (by omega) (.bool ny) (.slice ady xy.length qy))
        replace Pr := hid ((Pr.out).box (b' := bkp) (by omega) (.bool ny) (.slice ady xy.length qy))
        replace PRP := hid ((PRP.out).box (b' := bkp) (by omega) (.bool ny) (.slice ady xy.length qy))
        replace G : Hid (Below w.heap.size w (((w41.setCell ⟨bkp, 0, none⟩ (.bool ny)).setCell ⟨bkp, 1, none⟩ (.slice ady xy.length qy)))) := bset (bset (G.out) (by omega)) (by omega)
        have sz43 : V43.heap.size = w41.heap.size := by rw [← hW]; simp
        rw [hW] at Zb Zr ZX0 Zv Zu Zy Sx Pp Px Pb Pr PRP G
        rw [hW]
        clear hW
        refine hK.out _ _ (fun h => absurd h (by decide)) ?_
        clear hK
        try simp only [Act.put]
        refine wpAnyX_done (by kernel_rfl) ?_ _
        rw [EV.out] at Zy
        have HN : Hid (PowH w A B xx k (w.heap.size + 1) (w3.heap.size) (bkp) (.bool nx) (.slice adx xx.length cx) (.bool nb) (.slice adb xb.length cb) (.bool nr) (.slice adr xr.length qr) i (.int .i64 ((i : Int) - 1)) V43) := ⟨i, _, _, rfl, by omega, rfl, Zy.out.mono (by omega), Pp.out, Px.out, Sx.out, Pb.out, Zb.out, Pr.out, Zr.out, PRP.out, G.out⟩
        go_wp2_with fail
        go_roundg i
        case rel => exact HN.out
        case measure => exact HM.out
      · skip
        have HBIT : Hid (Calls Try.prog 57 #[(.slice adx xx.length cx), .int .i64 (i : Int)] V36 fun e w' => e = .returned (.int .i64 0) ∧ w' = V36) := by
          have q := bit_any Sx.out (i := (i : Int)) (by omega) (by omega)
          rw [bitAt_nat, (show vn xx / 2 ^ i % 2 = 0 by omega)] at q
          exact q
        have qb : ((0 : Int) == 1) = false := rfl
        have EV := hid (pmod_bit0 (A := A) (B := B) (show vn xx / 2 ^ i % 2 = 0 by omega))
        clear hbit
        have cx0 := Px.out.c0
        have cx1 := Px.out.c1
        go_wp2_with fail
        clear cx0 cx1
        refine HBIT.out.mono ?_
        rintro e w1 ⟨rfl, hw1⟩
        rw [hw1]
        clear HBIT hw1 w1
        rw [EV.out] at Zv
        have HN : Hid (PowH w A B xx k (w.heap.size + 1) (w3.heap.size) (bkp) (.bool nx) (.slice adx xx.length cx) (.bool nb) (.slice adb xb.length cb) (.bool nr) (.slice adr xr.length qr) i (.int .i64 ((i : Int) - 1)) V36) := ⟨i, _, _, rfl, by omega, rfl, Zv.out.mono (by omega), Pp.out, Px.out, Sx.out, Pb.out, Zb.out, Pr.out, Zr.out, PRP.out, G.out⟩
        go_wp2_with fail
        go_roundg i
        case rel => exact HN.out
        case measure => exact HM.out
end Go.Proofs.Ythdnnphpjdchnaa
