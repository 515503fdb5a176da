/-
  QInv6ToMWord: Inv6, MWord, joined.
-/
import Derived.Test.YthdnnphpjdchnaaQLm6
import Derived.Test.YthdnnphpjdchnaaQWakes6
import Derived.Test.YthdnnphpjdchnaaQMulAllToSigned

/- Inv6 -/
namespace Go.Proofs.Ythdnnphpjdchnaa
open Go.RowKit
set_option linter.unusedVariables false

/-- What Inverse answers. -/
structure InvV (A B x : Int) : Prop where
  lo : 0 ≤ x
  hi : x < (B.natAbs : Int)
  dv : B ∣ A * x - 1
theorem invV {A B g x y : Int} (hB : B ≠ 0) (h : ExtV (A % B) B g x y) (hg : (Int.gcd A B : Int) = 1) : g = 1 ∧ InvV A B x := by
  obtain ⟨h1, h2, h3, -⟩ := h
  rw [gcd_emod, hg] at h1
  subst h1
  obtain ⟨h4, h5⟩ := h3 hB
  refine ⟨rfl, h4, by omega, ⟨A / B * x - y, ?_⟩⟩
  have e : A % B = A - B * (A / B) := by have := Int.mul_ediv_add_emod A B; omega
  rw [e] at h2
  grind
def Inved (w : World) (A B : Int) (k : Nat) (e : Ending) (w' : World) : Prop := ∃ x, InvV A B x ∧ GivesZ1 0 w x k e w'

set_option maxHeartbeats 6400000 in
set_option maxRecDepth 100000 in
theorem inverse_zero {w : World} {va vb : Value} {A B : Int} {k : Nat} (ha : Zi w va A k) (hb : Zi w vb B k) (h1 : 1 ≤ k) (hk : k ≤ 68719476736) (hB : B = 0) :
    Calls Try.prog 28 #[va, vb] w (GivesZ1 4 w 0 k) := by
  have HB := hid hB
  clear hB
  have q0 : ((0 : Int) == 0) = true := rfl
  have za0 := ha
  obtain ⟨na, xa, ada, ca, rfl, -, -, -⟩ := ha
  have zb0 := hb
  obtain ⟨nb, xb, adb, cb, rfl, -, -, -⟩ := hb
  obtain ⟨W0, hW⟩ : ∃ W0, ((w.alloc (duo (.bool na) (.slice ada xa.length ca))).alloc (duo (.bool nb) (.slice adb xb.length cb))).alloc zbox = W0 := ⟨_, rfl⟩
  obtain ⟨b0, sz0⟩ := alloc3 w (duo (.bool na) (.slice ada xa.length ca)) (duo (.bool nb) (.slice adb xb.length cb)) zbox
  rw [hW] at b0 sz0
  have Pa : Hid (Duo W0 (w.heap.size) (.bool na) (.slice ada xa.length ca)) := by unfold Hid; rw [← hW]; exact duo_late (duo_late (duo_at (by simp)) _) _
  have Pb : Hid (Duo W0 (w.heap.size + 1) (.bool nb) (.slice adb xb.length cb)) := by unfold Hid; rw [← hW]; exact duo_late (duo_at (by simp)) _
  have PRI : Hid (Duo W0 (w.heap.size + 1 + 1) (.bool false) (.slice none 0 0)) := by unfold Hid; rw [← hW]; exact duo_at (by simp)
  have Za := hid (za0.now b0)
  clear za0
  have Zb := hid (zb0.now b0)
  clear zb0
  have G := hid b0
  clear b0
  have EW := hid hW
  clear hW
  go_enter Try.func28, Try.ntmps28
  have cb0 := Pb.out.c0
  have cb1 := Pb.out.c1
  rw [← EW.out] at cb0 cb1
  go_wp2_with fail
  rw [EW.out]
  clear EW
  clear cb0 cb1
  refine (zi_sign_no Zb.out HB.out).mono ?_
  rintro e w1 ⟨rfl, b⟩
  replace Za := hid (Za.out.now b)
  replace Zb := hid (Zb.out.now b)
  replace Pa := hid (Pa.out.step b)
  replace Pb := hid (Pb.out.step b)
  replace PRI := hid (PRI.out.step b)
  replace G := hid (below_step G.out b)
  have lz2 := (show Below _ _ _ from b).size
  clear b 
  have cRI0 := PRI.out.c0
  have cRI1 := PRI.out.c1
  have fRI0 := PRI.out.fz 0
  have fRI1 := PRI.out.fz 1
  go_wp2
  exact bodyPost_ret (zback1 Try.results28 (PRI.out.set _ _) _ (by rfl) (by rfl)) rfl ⟨_, rfl, zm_nil _ _ _, bset (bset G.out (by omega)) (by omega)⟩

set_option maxHeartbeats 6400000 in
set_option maxRecDepth 100000 in
theorem inverse_none {w : World} {va vb : Value} {A B : Int} {k : Nat} (ha : Zi w va A k) (hb : Zi w vb B k) (h1 : 1 ≤ k) (hk : k ≤ 68719476736) (hB : B ≠ 0) (hg : (Int.gcd A B : Int) ≠ 1) :
    Calls Try.prog 28 #[va, vb] w (GivesZ1 6 w 0 k) := by
  have HB := hid hB
  clear hB
  have HG := hid hg
  clear hg
  have HS : Hid (∀ w' v, Zi w' v B k → _) := fun (w' : World) (v : Value) (h : Zi w' v B k) => sign_z h
  have q0 : (cmpI B 0 == 0) = false := by rw [beq_eq_false_iff_ne]; exact fun e => HB.out (cmpI_zero e)
  generalize cmpI B 0 = SB at *
  have za0 := ha
  obtain ⟨na, xa, ada, ca, rfl, -, -, -⟩ := ha
  have zb0 := hb
  obtain ⟨nb, xb, adb, cb, rfl, -, -, -⟩ := hb
  obtain ⟨W0, hW⟩ : ∃ W0, ((w.alloc (duo (.bool na) (.slice ada xa.length ca))).alloc (duo (.bool nb) (.slice adb xb.length cb))).alloc zbox = W0 := ⟨_, rfl⟩
  obtain ⟨b0, sz0⟩ := alloc3 w (duo (.bool na) (.slice ada xa.length ca)) (duo (.bool nb) (.slice adb xb.length cb)) zbox
  rw [hW] at b0 sz0
  have Pa : Hid (Duo W0 (w.heap.size) (.bool na) (.slice ada xa.length ca)) := by unfold Hid; rw [← hW]; exact duo_late (duo_late (duo_at (by simp)) _) _
  have Pb : Hid (Duo W0 (w.heap.size + 1) (.bool nb) (.slice adb xb.length cb)) := by unfold Hid; rw [← hW]; exact duo_late (duo_at (by simp)) _
  have PRI : Hid (Duo W0 (w.heap.size + 1 + 1) (.bool false) (.slice none 0 0)) := by unfold Hid; rw [← hW]; exact duo_at (by simp)
  have Za := hid (za0.now b0)
  clear za0
  have Zb := hid (zb0.now b0)
  clear zb0
  have G := hid b0
  clear b0
  have EW := hid hW
  clear hW
  go_enter Try.func28, Try.ntmps28
  have cb0 := Pb.out.c0
  have cb1 := Pb.out.c1
  rw [← EW.out] at cb0 cb1
  go_wp2_with fail
  rw [EW.out]
  clear EW
  clear cb0 cb1
  refine (HS.out _ _ Zb.out).mono ?_
  rintro e w1 ⟨rfl, b⟩
  replace Za := hid (Za.out.now b)
  replace Zb := hid (Zb.out.now b)
  replace Pa := hid (Pa.out.step b)
  replace Pb := hid (Pb.out.step b)
  replace PRI := hid (PRI.out.step b)
  replace G := hid (below_step G.out b)
  have lz2 := (show Below _ _ _ from b).size
  clear b 
  have ca0 := Pa.out.c0
  have ca1 := Pa.out.c1
  have cb0 := Pb.out.c0
  have cb1 := Pb.out.c1
  go_wp2_with fail
  clear ca0 ca1 cb0 cb1
  refine (lm_z Za.out Zb.out h1 hk HB.out).mono ?_
  rintro e w3 ⟨zg, zx, zy, r0, r1, hx, rfl, m0, m1, b⟩
  obtain ⟨ng, xg, adg, qg, rfl, -, -, -, -, -⟩ := id m0
  obtain ⟨nx, xx, adx, qx, rfl, -, -, -, -, -⟩ := id m1
  have HX := hid hx
  clear hx
  replace Za := hid (Za.out.now b)
  replace Zb := hid (Zb.out.now b)
  replace Pa := hid (Pa.out.step b)
  replace Pb := hid (Pb.out.step b)
  replace PRI := hid (PRI.out.step b)
  replace G := hid (below_step G.out b)
  have lz4 := (show Below _ _ _ from b).size
  have Zg := hid m0
  have Zx := hid m1
  clear b m0 m1
  obtain ⟨V5, hW⟩ : ∃ V5, (w3.alloc (duo (.bool ng) (.slice adg xg.length qg))).alloc (duo (.bool nx) (.slice adx xx.length qx)) = V5 := ⟨_, rfl⟩
  obtain ⟨kW, sz5⟩ := alloc2 w3 (duo (.bool ng) (.slice adg xg.length qg)) (duo (.bool nx) (.slice adx xx.length qx))
  rw [hW] at kW sz5
  replace Za := hid (Za.out.now kW)
  replace Zb := hid (Zb.out.now kW)
  replace Zg := hid (Zg.out.now kW)
  replace Zx := hid (Zx.out.now kW)
  replace Pa := hid (Pa.out.step kW)
  replace Pb := hid (Pb.out.step kW)
  replace PRI := hid (PRI.out.step kW)
  replace G := hid (below_step G.out kW)
  have lz6 := (show Below _ _ _ from kW).size
  have Pg : Hid (Duo V5 (w3.heap.size) (.bool ng) (.slice adg xg.length qg)) := by unfold Hid; rw [← hW]; exact duo_late (duo_at (by simp)) _
  have Px : Hid (Duo V5 (w3.heap.size + 1) (.bool nx) (.slice adx xx.length qx)) := by unfold Hid; rw [← hW]; exact duo_at (by simp)
  clear kW
  have HC : Hid (∀ w' v u l, Zi w' v zg k → Zi w' u 1 l → _) := fun (w' : World) (v u : Value) (l : Nat) (h : Zi w' v zg k) (h' : Zi w' u 1 l) => cmp_z h h'
  have qc : (cmpI zg 1 != 0) = true := by
    simp
    intro e
    have e2 := HX.out.gcd
    rw [gcd_emod] at e2
    rcases cmp_cases zg 1 with ⟨_, q⟩ | ⟨q, _⟩ | ⟨_, q⟩
    · omega
    · exact HG.out (by omega)
    · omega
  generalize cmpI zg 1 = CG at *
  have EW := hid hW
  clear hW
  go_wp2_with fail
  rw [EW.out]
  clear EW
  refine wp_region_tail (fun w' => w'.cell? ⟨w3.heap.size, 0, none⟩ = some (.bool ng) ∧ w'.cell? ⟨w3.heap.size, 1, none⟩ = some (.slice adg xg.length qg)) 3 (by kernel_rfl) ?_
  obtain ⟨D7, hD⟩ : ∃ D7, V5.drew = D7 := ⟨_, rfl⟩
  have b : Below V5.heap.size V5 D7 := by rw [← hD]; exact (Below.refl _ _).drew
  rw [hD]
  clear hD
  replace Za := hid (Za.out.now b)
  replace Zb := hid (Zb.out.now b)
  replace Zg := hid (Zg.out.now b)
  replace Zx := hid (Zx.out.now b)
  replace Pa := hid (Pa.out.step b)
  replace Pb := hid (Pb.out.step b)
  replace PRI := hid (PRI.out.step b)
  replace Pg := hid (Pg.out.step b)
  replace Px := hid (Px.out.step b)
  replace G := hid (below_step G.out b)
  have lz8 := (show Below _ _ _ from b).size
  clear b
  refine wpAnyT_take (i := 0) (oi := { dst := some 18, op := Op.load 24 (Operand.tmp 6), type := 24, pos := "modulo.go:15", after := #[], guard := none }) (v := (.agg #[(.bool ng), (.slice adg xg.length qg)])) rfl (by kernel_rfl) (fun _ _ _ h => h) (Or.inl ⟨by rfl, ?_⟩) ⟨Pg.out.c0, Pg.out.c1⟩ ?_
  · intro w hSw
    (try dsimp only at hSw)
    go_simp
  simp only [Act.put, List.setIfInBounds_toArray, List.set_cons_zero, List.set_cons_succ]
  refine wpAnyT_one (i := 1) (o := { dst := some 19, op := Op.call { callee := Callee.value (Operand.func 35), args := #[Operand.const (Value.int IntKind.i64 1)], argTypes := #[2] }, type := 24, pos := "modulo.go:15", after := #[], guard := none }) (by kernel_rfl) rfl (fun K hK => ?_)
  go_simp
  go_at_call 35
  refine (of_z (n := 1) (by decide) (by decide) _).mono ?_
  rintro e w9 ⟨r0, rfl, m0, b⟩
  obtain ⟨no, xo, ado, qo, rfl, -, -, -, -, -⟩ := id m0
  replace Za := hid (Za.out.now b)
  replace Zb := hid (Zb.out.now b)
  replace Zg := hid (Zg.out.now b)
  replace Zx := hid (Zx.out.now b)
  replace Pa := hid (Pa.out.step b)
  replace Pb := hid (Pb.out.step b)
  replace PRI := hid (PRI.out.step b)
  replace Pg := hid (Pg.out.step b)
  replace Px := hid (Px.out.step b)
  replace G := hid (below_step G.out b)
  have lz10 := (show Below _ _ _ from b).size
  have Zo := hid m0
  clear b m0
  refine hK.out _ _ (fun _ => ⟨Pg.out.c0, Pg.out.c1⟩) ?_
  clear hK
  refine wpAnyT_one (i := 2) (o := { dst := some 20, op := Op.call { callee := Callee.value (Operand.func 54), args := #[Operand.tmp 18, Operand.tmp 19], argTypes := #[24, 24] }, type := 3, pos := "modulo.go:15", after := #[{ on := 0, ground := Ground.data }, { on := 1, ground := Ground.data }, { on := 1, ground := Ground.chain }], guard := none }) (by kernel_rfl) rfl (fun K hK => ?_)
  go_simp
  go_at_call 54
  refine (HC.out _ _ _ _ Zg.out.zi Zo.out.zi).mono ?_
  rintro e w11 ⟨rfl, b⟩
  replace Za := hid (Za.out.now b)
  replace Zb := hid (Zb.out.now b)
  replace Zg := hid (Zg.out.now b)
  replace Zx := hid (Zx.out.now b)
  replace Zo := hid (Zo.out.now b)
  replace Pa := hid (Pa.out.step b)
  replace Pb := hid (Pb.out.step b)
  replace PRI := hid (PRI.out.step b)
  replace Pg := hid (Pg.out.step b)
  replace Px := hid (Px.out.step b)
  replace G := hid (below_step G.out b)
  have lz12 := (show Below _ _ _ from b).size
  clear b 
  refine hK.out _ _ (fun _ => ⟨Pg.out.c0, Pg.out.c1⟩) ?_
  clear hK
  refine wpAnyT_one (i := 3) (o := { dst := some 21, op := Op.binOp BinOp.neq 3 (Operand.tmp 20) (Operand.const (Value.int IntKind.i64 0)) 3, type := 4, pos := "modulo.go:15", after := #[{ on := 2, ground := Ground.data }], guard := none }) (by kernel_rfl) rfl (fun K hK => ?_)
  go_simp
  refine hK.out _ _ (fun h => absurd h (by decide)) ?_
  clear hK
  try simp only [Act.put]
  refine wpAnyT_done (by kernel_rfl) ?_ _
  have cRI0 := PRI.out.c0
  have cRI1 := PRI.out.c1
  have fRI0 := PRI.out.fz 0
  have fRI1 := PRI.out.fz 1
  go_wp2
  exact bodyPost_ret (zback1 Try.results28 (PRI.out.set _ _) _ (by rfl) (by rfl)) rfl ⟨_, rfl, zm_nil _ _ _, bset (bset G.out (by omega)) (by omega)⟩

set_option maxHeartbeats 6400000 in
set_option maxRecDepth 100000 in
theorem inverse_some {w : World} {va vb : Value} {A B : Int} {k : Nat} (ha : Zi w va A k) (hb : Zi w vb B k) (h1 : 1 ≤ k) (hk : k ≤ 68719476736) (hB : B ≠ 0) (hg : (Int.gcd A B : Int) = 1) :
    Calls Try.prog 28 #[va, vb] w (Inved w A B k) := by
  have HB := hid hB
  clear hB
  have HG := hid hg
  clear hg
  have HS : Hid (∀ w' v, Zi w' v B k → _) := fun (w' : World) (v : Value) (h : Zi w' v B k) => sign_z h
  have q0 : (cmpI B 0 == 0) = false := by rw [beq_eq_false_iff_ne]; exact fun e => HB.out (cmpI_zero e)
  generalize cmpI B 0 = SB at *
  have za0 := ha
  obtain ⟨na, xa, ada, ca, rfl, -, -, -⟩ := ha
  have zb0 := hb
  obtain ⟨nb, xb, adb, cb, rfl, -, -, -⟩ := hb
  obtain ⟨W0, hW⟩ : ∃ W0, ((w.alloc (duo (.bool na) (.slice ada xa.length ca))).alloc (duo (.bool nb) (.slice adb xb.length cb))).alloc zbox = W0 := ⟨_, rfl⟩
  obtain ⟨b0, sz0⟩ := alloc3 w (duo (.bool na) (.slice ada xa.length ca)) (duo (.bool nb) (.slice adb xb.length cb)) zbox
  rw [hW] at b0 sz0
  have Pa : Hid (Duo W0 (w.heap.size) (.bool na) (.slice ada xa.length ca)) := by unfold Hid; rw [← hW]; exact duo_late (duo_late (duo_at (by simp)) _) _
  have Pb : Hid (Duo W0 (w.heap.size + 1) (.bool nb) (.slice adb xb.length cb)) := by unfold Hid; rw [← hW]; exact duo_late (duo_at (by simp)) _
  have PRI : Hid (Duo W0 (w.heap.size + 1 + 1) (.bool false) (.slice none 0 0)) := by unfold Hid; rw [← hW]; exact duo_at (by simp)
  have Za := hid (za0.now b0)
  clear za0
  have Zb := hid (zb0.now b0)
  clear zb0
  have G := hid b0
  clear b0
  have EW := hid hW
  clear hW
  go_enter Try.func28, Try.ntmps28
  have cb0 := Pb.out.c0
  have cb1 := Pb.out.c1
  rw [← EW.out] at cb0 cb1
  go_wp2_with fail
  rw [EW.out]
  clear EW
  clear cb0 cb1
  refine (HS.out _ _ Zb.out).mono ?_
  rintro e w1 ⟨rfl, b⟩
  replace Za := hid (Za.out.now b)
  replace Zb := hid (Zb.out.now b)
  replace Pa := hid (Pa.out.step b)
  replace Pb := hid (Pb.out.step b)
  replace PRI := hid (PRI.out.step b)
  replace G := hid (below_step G.out b)
  have lz2 := (show Below _ _ _ from b).size
  clear b 
  have ca0 := Pa.out.c0
  have ca1 := Pa.out.c1
  have cb0 := Pb.out.c0
  have cb1 := Pb.out.c1
  go_wp2_with fail
  clear ca0 ca1 cb0 cb1
  refine (lm_z Za.out Zb.out h1 hk HB.out).mono ?_
  rintro e w3 ⟨zg, zx, zy, r0, r1, hx, rfl, m0, m1, b⟩
  obtain ⟨ng, xg, adg, qg, rfl, -, -, -, -, -⟩ := id m0
  obtain ⟨nx, xx, adx, qx, rfl, -, -, -, -, -⟩ := id m1
  have HX := hid hx
  clear hx
  replace Za := hid (Za.out.now b)
  replace Zb := hid (Zb.out.now b)
  replace Pa := hid (Pa.out.step b)
  replace Pb := hid (Pb.out.step b)
  replace PRI := hid (PRI.out.step b)
  replace G := hid (below_step G.out b)
  have lz4 := (show Below _ _ _ from b).size
  have Zg := hid m0
  have Zx := hid m1
  clear b m0 m1
  obtain ⟨V5, hW⟩ : ∃ V5, (w3.alloc (duo (.bool ng) (.slice adg xg.length qg))).alloc (duo (.bool nx) (.slice adx xx.length qx)) = V5 := ⟨_, rfl⟩
  obtain ⟨kW, sz5⟩ := alloc2 w3 (duo (.bool ng) (.slice adg xg.length qg)) (duo (.bool nx) (.slice adx xx.length qx))
  rw [hW] at kW sz5
  replace Za := hid (Za.out.now kW)
  replace Zb := hid (Zb.out.now kW)
  replace Zg := hid (Zg.out.now kW)
  replace Zx := hid (Zx.out.now kW)
  replace Pa := hid (Pa.out.step kW)
  replace Pb := hid (Pb.out.step kW)
  replace PRI := hid (PRI.out.step kW)
  replace G := hid (below_step G.out kW)
  have lz6 := (show Below _ _ _ from kW).size
  have Pg : Hid (Duo V5 (w3.heap.size) (.bool ng) (.slice adg xg.length qg)) := by unfold Hid; rw [← hW]; exact duo_late (duo_at (by simp)) _
  have Px : Hid (Duo V5 (w3.heap.size + 1) (.bool nx) (.slice adx xx.length qx)) := by unfold Hid; rw [← hW]; exact duo_at (by simp)
  clear kW
  obtain ⟨eg, iv1⟩ := invV HB.out HX.out HG.out
  subst eg
  have HI := hid iv1
  clear iv1
  have HC : Hid (∀ w' v u l, Zi w' v 1 k → Zi w' u 1 l → Calls Try.prog 54 #[v, u] w' fun e w'' => e = .returned (.int .i64 0) ∧ Below w'.heap.size w' w'') := fun (w' : World) (v u : Value) (l : Nat) (h : Zi w' v 1 k) (h' : Zi w' u 1 l) => int_as6 (cmp_z h h') (cmpI_self 1)
  have qc : ((0 : Int) != 0) = false := rfl
  have EW := hid hW
  clear hW
  go_wp2_with fail
  rw [EW.out]
  clear EW
  refine wp_region_tail (fun w' => w'.cell? ⟨w3.heap.size, 0, none⟩ = some (.bool ng) ∧ w'.cell? ⟨w3.heap.size, 1, none⟩ = some (.slice adg xg.length qg)) 3 (by kernel_rfl) ?_
  obtain ⟨D7, hD⟩ : ∃ D7, V5.drew = D7 := ⟨_, rfl⟩
  have b : Below V5.heap.size V5 D7 := by rw [← hD]; exact (Below.refl _ _).drew
  rw [hD]
  clear hD
  replace Za := hid (Za.out.now b)
  replace Zb := hid (Zb.out.now b)
  replace Zg := hid (Zg.out.now b)
  replace Zx := hid (Zx.out.now b)
  replace Pa := hid (Pa.out.step b)
  replace Pb := hid (Pb.out.step b)
  replace PRI := hid (PRI.out.step b)
  replace Pg := hid (Pg.out.step b)
  replace Px := hid (Px.out.step b)
  replace G := hid (below_step G.out b)
  have lz8 := (show Below _ _ _ from b).size
  clear b
  refine wpAnyT_take (i := 0) (oi := { dst := some 18, op := Op.load 24 (Operand.tmp 6), type := 24, pos := "modulo.go:15", after := #[], guard := none }) (v := (.agg #[(.bool ng), (.slice adg xg.length qg)])) rfl (by kernel_rfl) (fun _ _ _ h => h) (Or.inl ⟨by rfl, ?_⟩) ⟨Pg.out.c0, Pg.out.c1⟩ ?_
  · intro w hSw
    (try dsimp only at hSw)
    go_simp
  simp only [Act.put, List.setIfInBounds_toArray, List.set_cons_zero, List.set_cons_succ]
  refine wpAnyT_one (i := 1) (o := { dst := some 19, op := Op.call { callee := Callee.value (Operand.func 35), args := #[Operand.const (Value.int IntKind.i64 1)], argTypes := #[2] }, type := 24, pos := "modulo.go:15", after := #[], guard := none }) (by kernel_rfl) rfl (fun K hK => ?_)
  go_simp
  go_at_call 35
  refine (of_z (n := 1) (by decide) (by decide) _).mono ?_
  rintro e w9 ⟨r0, rfl, m0, b⟩
  obtain ⟨no, xo, ado, qo, rfl, -, -, -, -, -⟩ := id m0
  replace Za := hid (Za.out.now b)
  replace Zb := hid (Zb.out.now b)
  replace Zg := hid (Zg.out.now b)
  replace Zx := hid (Zx.out.now b)
  replace Pa := hid (Pa.out.step b)
  replace Pb := hid (Pb.out.step b)
  replace PRI := hid (PRI.out.step b)
  replace Pg := hid (Pg.out.step b)
  replace Px := hid (Px.out.step b)
  replace G := hid (below_step G.out b)
  have lz10 := (show Below _ _ _ from b).size
  have Zo := hid m0
  clear b m0
  refine hK.out _ _ (fun _ => ⟨Pg.out.c0, Pg.out.c1⟩) ?_
  clear hK
  refine wpAnyT_one (i := 2) (o := { dst := some 20, op := Op.call { callee := Callee.value (Operand.func 54), args := #[Operand.tmp 18, Operand.tmp 19], argTypes := #[24, 24] }, type := 3, pos := "modulo.go:15", after := #[{ on := 0, ground := Ground.data }, { on := 1, ground := Ground.data }, { on := 1, ground := Ground.chain }], guard := none }) (by kernel_rfl) rfl (fun K hK => ?_)
  go_simp
  go_at_call 54
  refine (HC.out _ _ _ _ Zg.out.zi Zo.out.zi).mono ?_
  rintro e w11 ⟨rfl, b⟩
  replace Za := hid (Za.out.now b)
  replace Zb := hid (Zb.out.now b)
  replace Zg := hid (Zg.out.now b)
  replace Zx := hid (Zx.out.now b)
  replace Zo := hid (Zo.out.now b)
  replace Pa := hid (Pa.out.step b)
  replace Pb := hid (Pb.out.step b)
  replace PRI := hid (PRI.out.step b)
  replace Pg := hid (Pg.out.step b)
  replace Px := hid (Px.out.step b)
  replace G := hid (below_step G.out b)
  have lz12 := (show Below _ _ _ from b).size
  clear b 
  refine hK.out _ _ (fun _ => ⟨Pg.out.c0, Pg.out.c1⟩) ?_
  clear hK
  refine wpAnyT_one (i := 3) (o := { dst := some 21, op := Op.binOp BinOp.neq 3 (Operand.tmp 20) (Operand.const (Value.int IntKind.i64 0)) 3, type := 4, pos := "modulo.go:15", after := #[{ on := 2, ground := Ground.data }], guard := none }) (by kernel_rfl) rfl (fun K hK => ?_)
  go_simp
  refine hK.out _ _ (fun h => absurd h (by decide)) ?_
  clear hK
  try simp only [Act.put]
  refine wpAnyT_done (by kernel_rfl) ?_ _
  have cx0 := Px.out.c0
  have cx1 := Px.out.c1
  have cRI0 := PRI.out.c0
  have cRI1 := PRI.out.c1
  have fRI0 := PRI.out.fz 0
  have fRI1 := PRI.out.fz 1
  go_wp2
  exact bodyPost_ret (zback1 Try.results28 (PRI.out.set _ _) _ (by rfl) (by rfl)) rfl ⟨_, HI.out, _, rfl, (Zx.out.box PRI.out _ _).mono (by omega), bset (bset G.out (by omega)) (by omega)⟩
end Go.Proofs.Ythdnnphpjdchnaa

/- MWord -/
namespace Go.Proofs.Ythdnnphpjdchnaa
open Go.RowKit
set_option linter.unusedVariables false

theorem word_zero (xs : List Int) (n : Nat) : (List.replicate n (0 : Int)).drop n = [] := by simp
set_option maxHeartbeats 1600000 in
theorem word_any {w : World} {va : Value} {xs : List Int} (ha : Sl w.heap.size w va xs) {W : Int} (hW : IsW W) (hl : xs.length < 35184372088832) :
    Calls Try.prog 109 #[va, .int .u64 W] w (Makes w (val xs * W)) := by
  obtain ⟨a, ca, rfl⟩ : ∃ a ca, va = .slice a xs.length ca := by obtain ⟨_, a, ca, e, _⟩ := ha; exact ⟨a, ca, e⟩
  have HT1 := hid (trimmed_any ha)
  have l1 := wid_le xs
  have SX := hid (ha.taken l1)
  change Hid (Sl w.heap.size w _ (lst xs)) at SX
  have CX := hid (canon_lst ha.1)
  have LX := hid (length_lst xs)
  rw [← val_lst xs]
  generalize lst xs = X at *
  generalize wid xs = n at *
  clear ha
  have HW := hid hW
  go_enter Try.func109, Try.ntmps109
  go_wp2_with fail
  refine HT1.out.mono ?_
  rintro e w1 ⟨rfl, rfl⟩
  clear HT1
  go_wp2_with (at_make; refine wpList_make_words _ rfl _ _ rfl _ _ (n + 1) (n + 1) rfl rfl (by omega) (by omega) (Nat.le_refl _) (by omega) ?_)
  intro w2 hrow hb2 hsz2
  have HA := hid (addTimes_any (o := 0) (len := n + 1) (cap := n + 1) (r := []) (wf_zeros (n + 1)) (by simpa using hrow) (by simp; omega) (SX.out.below hb2 (Nat.le_refl _)) HW.out (by rw [LX.out]; simp) (by rw [LX.out]; omega))
  rw [LX.out] at HA
  have HB2 := hid hb2
  clear hrow hb2 hsz2
  go_wp2_with fail
  refine HA.out.mono ?_
  rintro e w3 ⟨zs', c, rfl, hzl, hwz', hc, hv, hd, hr3, hb3⟩
  rw [Nat.zero_add] at hv hd
  have hzl' : zs'.length = n + 1 := by rw [hzl]; simp
  have D3 : zs'.drop n = List.replicate (0 + 1) 0 := by rw [hd]; simp
  obtain ⟨hk3, hz3⟩ := zeros_head D3
  have c3 : w3.cell? ⟨w1.heap.size, n, none⟩ = some (.int .u64 zs'[n]) := hr3.word hk3
  have cf : w3.frozen? ⟨w1.heap.size, n, none⟩ = false := hr3.frozen _
  have HV4 : Hid (val (zs'.set n c) = val X * W) := by
    unfold Hid
    rw [val_set zs' n c hk3, hz3]
    rw [val_zeros] at hv
    have : pw 0 = 1 := rfl
    rw [this] at hv
    grind
  have HR4 := hid (hr3.setWord hk3 c)
  have HB4 := hid ((HB2.out.trans hb3).setCell (p := ⟨w1.heap.size, n, none⟩) (Nat.le_refl _) (.int .u64 c))
  have HW4 := hid (hwz'.set n hc)
  have HL4 : Hid ((zs'.set n c).length = n + 1) := by unfold Hid; rw [List.length_set, hzl']
  generalize zs'[n] = z at *
  generalize zs'.set n c = zs'' at *
  clear hd D3 hr3 hb3 hv hzl hwz' HA HB2 hzl'
  go_wp2_with fail
  have hr5 : Row (w3.setCell ⟨w1.heap.size, n, none⟩ (.int .u64 c)) w1.heap.size (ws zs'') := by simpa using HR4.out
  have hsl := Row.sl (r := []) (by simpa using hr5) HW4.out (cap := n + 1) (by rw [HL4.out]; exact Nat.le_refl _) (by omega) hr5.lt
  rw [HL4.out] at hsl
  refine (trimmed_any hsl).mono ?_
  rintro e w5 ⟨rfl, rfl⟩
  go_wp2
  go_ret
  exact ⟨lst zs'', _, rfl, trim_mine (Nat.le_refl _) HW4.out (by rw [HL4.out]; omega) hr5, canon_lst HW4.out, by rw [val_lst]; exact HV4.out, HB4.out⟩
end Go.Proofs.Ythdnnphpjdchnaa
