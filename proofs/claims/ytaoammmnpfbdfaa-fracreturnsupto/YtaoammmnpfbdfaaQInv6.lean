/-
  Inv6: Inverse.
-/
import Derived.Test.YtaoammmnpfbdfaaQLm6
namespace Go.Proofs.Ytaoammmnpfbdfaa
open Go.RowKit
set_option linter.unusedVariables false

/-- What Inverse answers. -/
structure InvV (A B x : Int) : Prop where
  lo : 0 ≤ x
  hi : x < (B.natAbs : Int)
  dv : B ∣ A * x - 1
theorem invV {A B g x y : Int} (hB : B ≠ 0) (h : ExtV (A % B) B g x y) (hg : (Int.gcd A B : Int) = 1) : g = 1 ∧ InvV A B x := by
  obtain ⟨h1, h2, h3, -⟩ := h
  rw [gcd_emod, hg] at h1
  subst h1
  obtain ⟨h4, h5⟩ := h3 hB
  refine ⟨rfl, h4, by omega, ⟨A / B * x - y, ?_⟩⟩
  have e : A % B = A - B * (A / B) := by have := Int.mul_ediv_add_emod A B; omega
  rw [e] at h2
  grind
def Inved (w : World) (A B : Int) (k : Nat) (e : Ending) (w' : World) : Prop := ∃ x, InvV A B x ∧ GivesZ1 0 w x k e w'

set_option maxHeartbeats 6400000 in
set_option maxRecDepth 100000 in
theorem inverse_zero {w : World} {va vb : Value} {A B : Int} {k : Nat} (ha : Zi w va A k) (hb : Zi w vb B k) (h1 : 1 ≤ k) (hk : k ≤ 68719476736) (hB : B = 0) :
    Calls Try.prog 31 #[va, vb] w (GivesZ1 4 w 0 k) := by
  have HB := hid hB
  clear hB
  have q0 : ((0 : Int) == 0) = true := rfl
  have za0 := ha
  obtain ⟨na, xa, ada, ca, rfl, -, -, -⟩ := ha
  have zb0 := hb
  obtain ⟨nb, xb, adb, cb, rfl, -, -, -⟩ := hb
  obtain ⟨W0, hW⟩ : ∃ W0, ((w.alloc (duo (.bool na) (.slice ada xa.length ca))).alloc (duo (.bool nb) (.slice adb xb.length cb))).alloc zbox = W0 := ⟨_, rfl⟩
  obtain ⟨b0, sz0⟩ := alloc3 w (duo (.bool na) (.slice ada xa.length ca)) (duo (.bool nb) (.slice adb xb.length cb)) zbox
  rw [hW] at b0 sz0
  have Pa : Hid (Duo W0 (w.heap.size) (.bool na) (.slice ada xa.length ca)) := by unfold Hid; rw [← hW]; exact duo_late (duo_late (duo_at (by simp)) _) _
  have Pb : Hid (Duo W0 (w.heap.size + 1) (.bool nb) (.slice adb xb.length cb)) := by unfold Hid; rw [← hW]; exact duo_late (duo_at (by simp)) _
  have PRI : Hid (Duo W0 (w.heap.size + 1 + 1) (.bool false) (.slice none 0 0)) := by unfold Hid; rw [← hW]; exact duo_at (by simp)
  have Za := hid (za0.now b0)
  clear za0
  have Zb := hid (zb0.now b0)
  clear zb0
  have G := hid b0
  clear b0
  have EW := hid hW
  clear hW
  go_enter Try.func31, Try.ntmps31
  have cb0 := Pb.out.c0
  have cb1 := Pb.out.c1
  rw [← EW.out] at cb0 cb1
  go_wp2_with fail
  rw [EW.out]
  clear EW
  clear cb0 cb1
  refine (zi_sign_no Zb.out HB.out).mono ?_
  rintro e w1 ⟨rfl, b⟩
  replace Za := hid (Za.out.now b)
  replace Zb := hid (Zb.out.now b)
  replace Pa := hid (Pa.out.step b)
  replace Pb := hid (Pb.out.step b)
  replace PRI := hid (PRI.out.step b)
  replace G := hid (below_step G.out b)
  have lz2 := (show Below _ _ _ from b).size
  clear b 
  have cRI0 := PRI.out.c0
  have cRI1 := PRI.out.c1
  have fRI0 := PRI.out.fz 0
  have fRI1 := PRI.out.fz 1
  go_wp2
  exact bodyPost_ret (zback1 Try.results31 (PRI.out.set _ _) _ (by rfl) (by rfl)) rfl ⟨_, rfl, zm_nil _ _ _, bset (bset G.out (by omega)) (by omega)⟩

set_option maxHeartbeats 6400000 in
set_option maxRecDepth 100000 in
theorem inverse_none {w : World} {va vb : Value} {A B : Int} {k : Nat} (ha : Zi w va A k) (hb : Zi w vb B k) (h1 : 1 ≤ k) (hk : k ≤ 68719476736) (hB : B ≠ 0) (hg : (Int.gcd A B : Int) ≠ 1) :
    Calls Try.prog 31 #[va, vb] w (GivesZ1 6 w 0 k) := by
  have HB := hid hB
  clear hB
  have HG := hid hg
  clear hg
  have HS : Hid (∀ w' v, Zi w' v B k → _) := fun (w' : World) (v : Value) (h : Zi w' v B k) => sign_z h
  have q0 : (cmpI B 0 == 0) = false := by rw [beq_eq_false_iff_ne]; exact fun e => HB.out (cmpI_zero e)
  generalize cmpI B 0 = SB at *
  have za0 := ha
  obtain ⟨na, xa, ada, ca, rfl, -, -, -⟩ := ha
  have zb0 := hb
  obtain ⟨nb, xb, adb, cb, rfl, -, -, -⟩ := hb
  obtain ⟨W0, hW⟩ : ∃ W0, ((w.alloc (duo (.bool na) (.slice ada xa.length ca))).alloc (duo (.bool nb) (.slice adb xb.length cb))).alloc zbox = W0 := ⟨_, rfl⟩
  obtain ⟨b0, sz0⟩ := alloc3 w (duo (.bool na) (.slice ada xa.length ca)) (duo (.bool nb) (.slice adb xb.length cb)) zbox
  rw [hW] at b0 sz0
  have Pa : Hid (Duo W0 (w.heap.size) (.bool na) (.slice ada xa.length ca)) := by unfold Hid; rw [← hW]; exact duo_late (duo_late (duo_at (by simp)) _) _
  have Pb : Hid (Duo W0 (w.heap.size + 1) (.bool nb) (.slice adb xb.length cb)) := by unfold Hid; rw [← hW]; exact duo_late (duo_at (by simp)) _
  have PRI : Hid (Duo W0 (w.heap.size + 1 + 1) (.bool false) (.slice none 0 0)) := by unfold Hid; rw [← hW]; exact duo_at (by simp)
  have Za := hid (za0.now b0)
  clear za0
  have Zb := hid (zb0.now b0)
  clear zb0
  have G := hid b0
  clear b0
  have EW := hid hW
  clear hW
  go_enter Try.func31, Try.ntmps31
  have cb0 := Pb.out.c0
  have cb1 := Pb.out.c1
  rw [← EW.out] at cb0 cb1
  go_wp2_with fail
  rw [EW.out]
  clear EW
  clear cb0 cb1
  refine (HS.out _ _ Zb.out).mono ?_
  rintro e w1 ⟨rfl, b⟩
  replace Za := hid (Za.out.now b)
  replace Zb := hid (Zb.out.now b)
  replace Pa := hid (Pa.out.step b)
  replace Pb := hid (Pb.out.step b)
  replace PRI := hid (PRI.out.step b)
  replace G := hid (below_step G.out b)
  have lz2 := (show Below _ _ _ from b).size
  clear b 
  have ca0 := Pa.out.c0
  have ca1 := Pa.out.c1
  have cb0 := Pb.out.c0
  have cb1 := Pb.out.c1
  go_wp2_with fail
  clear ca0 ca1 cb0 cb1
  refine (lm_z Za.out Zb.out h1 hk HB.out).mono ?_
  rintro e w3 ⟨zg, zx, zy, r0, r1, hx, rfl, m0, m1, b⟩
  obtain ⟨ng, xg, adg, qg, rfl, -, -, -, -, -⟩ := id m0
  obtain ⟨nx, xx, adx, qx, rfl, -, -, -, -, -⟩ := id m1
  have HX := hid hx
  clear hx
  replace Za := hid (Za.out.now b)
  replace Zb := hid (Zb.out.now b)
  replace Pa := hid (Pa.out.step b)
  replace Pb := hid (Pb.out.step b)
  replace PRI := hid (PRI.out.step b)
  replace G := hid (below_step G.out b)
  have lz4 := (show Below _ _ _ from b).size
  have Zg := hid m0
  have Zx := hid m1
  clear b m0 m1
  obtain ⟨V5, hW⟩ : ∃ V5, (w3.alloc (duo (.bool ng) (.slice adg xg.length qg))).alloc (duo (.bool nx) (.slice adx xx.length qx)) = V5 := ⟨_, rfl⟩
  obtain ⟨kW, sz5⟩ := alloc2 w3 (duo (.bool ng) (.slice adg xg.length qg)) (duo (.bool nx) (.slice adx xx.length qx))
  rw [hW] at kW sz5
  replace Za := hid (Za.out.now kW)
  replace Zb := hid (Zb.out.now kW)
  replace Zg := hid (Zg.out.now kW)
  replace Zx := hid (Zx.out.now kW)
  replace Pa := hid (Pa.out.step kW)
  replace Pb := hid (Pb.out.step kW)
  replace PRI := hid (PRI.out.step kW)
  replace G := hid (below_step G.out kW)
  have lz6 := (show Below _ _ _ from kW).size
  have Pg : Hid (Duo V5 (w3.heap.size) (.bool ng) (.slice adg xg.length qg)) := by unfold Hid; rw [← hW]; exact duo_late (duo_at (by simp)) _
  have Px : Hid (Duo V5 (w3.heap.size + 1) (.bool nx) (.slice adx xx.length qx)) := by unfold Hid; rw [← hW]; exact duo_at (by simp)
  clear kW
  have HC : Hid (∀ w' v u l, Zi w' v zg k → Zi w' u 1 l → _) := fun (w' : World) (v u : Value) (l : Nat) (h : Zi w' v zg k) (h' : Zi w' u 1 l) => cmp_z h h'
  have qc : (cmpI zg 1 != 0) = true := by
    simp
    intro e
    have e2 := HX.out.gcd
    rw [gcd_emod] at e2
    rcases cmp_cases zg 1 with ⟨_, q⟩ | ⟨q, _⟩ | ⟨_, q⟩
    · omega
    · exact HG.out (by omega)
    · omega
  generalize cmpI zg 1 = CG at *
  have EW := hid hW
  clear hW
  go_wp2_with fail
  rw [EW.out]
  clear EW
  refine wp_region_tail (fun w' => w'.cell? ⟨w3.heap.size, 0, none⟩ = some (.bool ng) ∧ w'.cell? ⟨w3.heap.size, 1, none⟩ = some (.slice adg xg.length qg)) 3 (by kernel_rfl) ?_
  obtain ⟨D7, hD⟩ : ∃ D7, V5.drew = D7 := ⟨_, rfl⟩
  have b : Below V5.heap.size V5 D7 := by rw [← hD]; exact (Below.refl _ _).drew
  rw [hD]
  clear hD
  replace Za := hid (Za.out.now b)
  replace Zb := hid (Zb.out.now b)
  replace Zg := hid (Zg.out.now b)
  replace Zx := hid (Zx.out.now b)
  replace Pa := hid (Pa.out.step b)
  replace Pb := hid (Pb.out.step b)
  replace PRI := hid (PRI.out.step b)
  replace Pg := hid (Pg.out.step b)
  replace Px := hid (Px.out.step b)
  replace G := hid (below_step G.out b)
  have lz8 := (show Below _ _ _ from b).size
  clear b
  refine wpAnyT_take (i := 0) (oi := { dst := some 18, op := Op.load 24 (Operand.tmp 6), type := 24, pos := "modulo.go:15", after := #[], guard := none }) (v := (.agg #[(.bool ng), (.slice adg xg.length qg)])) rfl (by kernel_rfl) (fun _ _ _ h => h) (Or.inl ⟨by rfl, ?_⟩) ⟨Pg.out.c0, Pg.out.c1⟩ ?_
  · intro w hSw
    (try dsimp only at hSw)
    go_simp
  simp only [Act.put, List.setIfInBounds_toArray, List.set_cons_zero, List.set_cons_succ]
  refine wpAnyT_one (i := 1) (o := { dst := some 19, op := Op.call { callee := Callee.value (Operand.func 20), args := #[Operand.const (Value.int IntKind.i64 1)], argTypes := #[2] }, type := 24, pos := "modulo.go:15", after := #[], guard := none }) (by kernel_rfl) rfl (fun K hK => ?_)
  go_simp
  go_at_call 20
  refine (of_z (n := 1) (by decide) (by decide) _).mono ?_
  rintro e w9 ⟨r0, rfl, m0, b⟩
  obtain ⟨no, xo, ado, qo, rfl, -, -, -, -, -⟩ := id m0
  replace Za := hid (Za.out.now b)
  replace Zb := hid (Zb.out.now b)
  replace Zg := hid (Zg.out.now b)
  replace Zx := hid (Zx.out.now b)
  replace Pa := hid (Pa.out.step b)
  replace Pb := hid (Pb.out.step b)
  replace PRI := hid (PRI.out.step b)
  replace Pg := hid (Pg.out.step b)
  replace Px := hid (Px.out.step b)
  replace G := hid (below_step G.out b)
  have lz10 := (show Below _ _ _ from b).size
  have Zo := hid m0
  clear b m0
  refine hK.out _ _ (fun _ => ⟨Pg.out.c0, Pg.out.c1⟩) ?_
  clear hK
  refine wpAnyT_one (i := 2) (o := { dst := some 20, op := Op.call { callee := Callee.value (Operand.func 32), args := #[Operand.tmp 18, Operand.tmp 19], argTypes := #[24, 24] }, type := 3, pos := "modulo.go:15", after := #[{ on := 0, ground := Ground.data }, { on := 1, ground := Ground.data }, { on := 1, ground := Ground.chain }], guard := none }) (by kernel_rfl) rfl (fun K hK => ?_)
  go_simp
  go_at_call 32
  refine (HC.out _ _ _ _ Zg.out.zi Zo.out.zi).mono ?_
  rintro e w11 ⟨rfl, b⟩
  replace Za := hid (Za.out.now b)
  replace Zb := hid (Zb.out.now b)
  replace Zg := hid (Zg.out.now b)
  replace Zx := hid (Zx.out.now b)
  replace Zo := hid (Zo.out.now b)
  replace Pa := hid (Pa.out.step b)
  replace Pb := hid (Pb.out.step b)
  replace PRI := hid (PRI.out.step b)
  replace Pg := hid (Pg.out.step b)
  replace Px := hid (Px.out.step b)
  replace G := hid (below_step G.out b)
  have lz12 := (show Below _ _ _ from b).size
  clear b 
  refine hK.out _ _ (fun _ => ⟨Pg.out.c0, Pg.out.c1⟩) ?_
  clear hK
  refine wpAnyT_one (i := 3) (o := { dst := some 21, op := Op.binOp BinOp.neq 3 (Operand.tmp 20) (Operand.const (Value.int IntKind.i64 0)) 3, type := 4, pos := "modulo.go:15", after := #[{ on := 2, ground := Ground.data }], guard := none }) (by kernel_rfl) rfl (fun K hK => ?_)
  go_simp
  refine hK.out _ _ (fun h => absurd h (by decide)) ?_
  clear hK
  try simp only [Act.put]
  refine wpAnyT_done (by kernel_rfl) ?_ _
  have cRI0 := PRI.out.c0
  have cRI1 := PRI.out.c1
  have fRI0 := PRI.out.fz 0
  have fRI1 := PRI.out.fz 1
  go_wp2
  exact bodyPost_ret (zback1 Try.results31 (PRI.out.set _ _) _ (by rfl) (by rfl)) rfl ⟨_, rfl, zm_nil _ _ _, bset (bset G.out (by omega)) (by omega)⟩

set_option maxHeartbeats 6400000 in
set_option maxRecDepth 100000 in
theorem inverse_some {w : World} {va vb : Value} {A B : Int} {k : Nat} (ha : Zi w va A k) (hb : Zi w vb B k) (h1 : 1 ≤ k) (hk : k ≤ 68719476736) (hB : B ≠ 0) (hg : (Int.gcd A B : Int) = 1) :
    Calls Try.prog 31 #[va, vb] w (Inved w A B k) := by
  have HB := hid hB
  clear hB
  have HG := hid hg
  clear hg
  have HS : Hid (∀ w' v, Zi w' v B k → _) := fun (w' : World) (v : Value) (h : Zi w' v B k) => sign_z h
  have q0 : (cmpI B 0 == 0) = false := by rw [beq_eq_false_iff_ne]; exact fun e => HB.out (cmpI_zero e)
  generalize cmpI B 0 = SB at *
  have za0 := ha
  obtain ⟨na, xa, ada, ca, rfl, -, -, -⟩ := ha
  have zb0 := hb
  obtain ⟨nb, xb, adb, cb, rfl, -, -, -⟩ := hb
  obtain ⟨W0, hW⟩ : ∃ W0, ((w.alloc (duo (.bool na) (.slice ada xa.length ca))).alloc (duo (.bool nb) (.slice adb xb.length cb))).alloc zbox = W0 := ⟨_, rfl⟩
  obtain ⟨b0, sz0⟩ := alloc3 w (duo (.bool na) (.slice ada xa.length ca)) (duo (.bool nb) (.slice adb xb.length cb)) zbox
  rw [hW] at b0 sz0
  have Pa : Hid (Duo W0 (w.heap.size) (.bool na) (.slice ada xa.length ca)) := by unfold Hid; rw [← hW]; exact duo_late (duo_late (duo_at (by simp)) _) _
  have Pb : Hid (Duo W0 (w.heap.size + 1) (.bool nb) (.slice adb xb.length cb)) := by unfold Hid; rw [← hW]; exact duo_late (duo_at (by simp)) _
  have PRI : Hid (Duo W0 (w.heap.size + 1 + 1) (.bool false) (.slice none 0 0)) := by unfold Hid; rw [← hW]; exact duo_at (by simp)
  have Za := hid (za0.now b0)
  clear za0
  have Zb := hid (zb0.now b0)
  clear zb0
  have G := hid b0
  clear b0
  have EW := hid hW
  clear hW
  go_enter Try.func31, Try.ntmps31
  have cb0 := Pb.out.c0
  have cb1 := Pb.out.c1
  rw [← EW.out] at cb0 cb1
  go_wp2_with fail
  rw [EW.out]
  clear EW
  clear cb0 cb1
  refine (HS.out _ _ Zb.out).mono ?_
  rintro e w1 ⟨rfl, b⟩
  replace Za := hid (Za.out.now b)
  replace Zb := hid (Zb.out.now b)
  replace Pa := hid (Pa.out.step b)
  replace Pb := hid (Pb.out.step b)
  replace PRI := hid (PRI.out.step b)
  replace G := hid (below_step G.out b)
  have lz2 := (show Below _ _ _ from b).size
  clear b 
  have ca0 := Pa.out.c0
  have ca1 := Pa.out.c1
  have cb0 := Pb.out.c0
  have cb1 := Pb.out.c1
  go_wp2_with fail
  clear ca0 ca1 cb0 cb1
  refine (lm_z Za.out Zb.out h1 hk HB.out).mono ?_
  rintro e w3 ⟨zg, zx, zy, r0, r1, hx, rfl, m0, m1, b⟩
  obtain ⟨ng, xg, adg, qg, rfl, -, -, -, -, -⟩ := id m0
  obtain ⟨nx, xx, adx, qx, rfl, -, -, -, -, -⟩ := id m1
  have HX := hid hx
  clear hx
  replace Za := hid (Za.out.now b)
  replace Zb := hid (Zb.out.now b)
  replace Pa := hid (Pa.out.step b)
  replace Pb := hid (Pb.out.step b)
  replace PRI := hid (PRI.out.step b)
  replace G := hid (below_step G.out b)
  have lz4 := (show Below _ _ _ from b).size
  have Zg := hid m0
  have Zx := hid m1
  clear b m0 m1
  obtain ⟨V5, hW⟩ : ∃ V5, (w3.alloc (duo (.bool ng) (.slice adg xg.length qg))).alloc (duo (.bool nx) (.slice adx xx.length qx)) = V5 := ⟨_, rfl⟩
  obtain ⟨kW, sz5⟩ := alloc2 w3 (duo (.bool ng) (.slice adg xg.length qg)) (duo (.bool nx) (.slice adx xx.length qx))
  rw [hW] at kW sz5
  replace Za := hid (Za.out.now kW)
  replace Zb := hid (Zb.out.now kW)
  replace Zg := hid (Zg.out.now kW)
  replace Zx := hid (Zx.out.now kW)
  replace Pa := hid (Pa.out.step kW)
  replace Pb := hid (Pb.out.step kW)
  replace PRI := hid (PRI.out.step kW)
  replace G := hid (below_step G.out kW)
  have lz6 := (show Below _ _ _ from kW).size
  have Pg : Hid (Duo V5 (w3.heap.size) (.bool ng) (.slice adg xg.length qg)) := by unfold Hid; rw [← hW]; exact duo_late (duo_at (by simp)) _
  have Px : Hid (Duo V5 (w3.heap.size + 1) (.bool nx) (.slice adx xx.length qx)) := by unfold Hid; rw [← hW]; exact duo_at (by simp)
  clear kW
  obtain ⟨eg, iv1⟩ := invV HB.out HX.out HG.out
  subst eg
  have HI := hid iv1
  clear iv1
  have HC : Hid (∀ w' v u l, Zi w' v 1 k → Zi w' u 1 l → Calls Try.prog 32 #[v, u] w' fun e w'' => e = .returned (.int .i64 0) ∧ Below w'.heap.size w' w'') := fun (w' : World) (v u : Value) (l : Nat) (h : Zi w' v 1 k) (h' : Zi w' u 1 l) => int_as6 (cmp_z h h') (cmpI_self 1)
  have qc : ((0 : Int) != 0) = false := rfl
  have EW := hid hW
  clear hW
  go_wp2_with fail
  rw [EW.out]
  clear EW
  refine wp_region_tail (fun w' => w'.cell? ⟨w3.heap.size, 0, none⟩ = some (.bool ng) ∧ w'.cell? ⟨w3.heap.size, 1, none⟩ = some (.slice adg xg.length qg)) 3 (by kernel_rfl) ?_
  obtain ⟨D7, hD⟩ : ∃ D7, V5.drew = D7 := ⟨_, rfl⟩
  have b : Below V5.heap.size V5 D7 := by rw [← hD]; exact (Below.refl _ _).drew
  rw [hD]
  clear hD
  replace Za := hid (Za.out.now b)
  replace Zb := hid (Zb.out.now b)
  replace Zg := hid (Zg.out.now b)
  replace Zx := hid (Zx.out.now b)
  replace Pa := hid (Pa.out.step b)
  replace Pb := hid (Pb.out.step b)
  replace PRI := hid (PRI.out.step b)
  replace Pg := hid (Pg.out.step b)
  replace Px := hid (Px.out.step b)
  replace G := hid (below_step G.out b)
  have lz8 := (show Below _ _ _ from b).size
  clear b
  refine wpAnyT_take (i := 0) (oi := { dst := some 18, op := Op.load 24 (Operand.tmp 6), type := 24, pos := "modulo.go:15", after := #[], guard := none }) (v := (.agg #[(.bool ng), (.slice adg xg.length qg)])) rfl (by kernel_rfl) (fun _ _ _ h => h) (Or.inl ⟨by rfl, ?_⟩) ⟨Pg.out.c0, Pg.out.c1⟩ ?_
  · intro w hSw
    (try dsimp only at hSw)
    go_simp
  simp only [Act.put, List.setIfInBounds_toArray, List.set_cons_zero, List.set_cons_succ]
  refine wpAnyT_one (i := 1) (o := { dst := some 19, op := Op.call { callee := Callee.value (Operand.func 20), args := #[Operand.const (Value.int IntKind.i64 1)], argTypes := #[2] }, type := 24, pos := "modulo.go:15", after := #[], guard := none }) (by kernel_rfl) rfl (fun K hK => ?_)
  go_simp
  go_at_call 20
  refine (of_z (n := 1) (by decide) (by decide) _).mono ?_
  rintro e w9 ⟨r0, rfl, m0, b⟩
  obtain ⟨no, xo, ado, qo, rfl, -, -, -, -, -⟩ := id m0
  replace Za := hid (Za.out.now b)
  replace Zb := hid (Zb.out.now b)
  replace Zg := hid (Zg.out.now b)
  replace Zx := hid (Zx.out.now b)
  replace Pa := hid (Pa.out.step b)
  replace Pb := hid (Pb.out.step b)
  replace PRI := hid (PRI.out.step b)
  replace Pg := hid (Pg.out.step b)
  replace Px := hid (Px.out.step b)
  replace G := hid (below_step G.out b)
  have lz10 := (show Below _ _ _ from b).size
  have Zo := hid m0
  clear b m0
  refine hK.out _ _ (fun _ => ⟨Pg.out.c0, Pg.out.c1⟩) ?_
  clear hK
  refine wpAnyT_one (i := 2) (o := { dst := some 20, op := Op.call { callee := Callee.value (Operand.func 32), args := #[Operand.tmp 18, Operand.tmp 19], argTypes := #[24, 24] }, type := 3, pos := "modulo.go:15", after := #[{ on := 0, ground := Ground.data }, { on := 1, ground := Ground.data }, { on := 1, ground := Ground.chain }], guard := none }) (by kernel_rfl) rfl (fun K hK => ?_)
  go_simp
  go_at_call 32
  refine (HC.out _ _ _ _ Zg.out.zi Zo.out.zi).mono ?_
  rintro e w11 ⟨rfl, b⟩
  replace Za := hid (Za.out.now b)
  replace Zb := hid (Zb.out.now b)
  replace Zg := hid (Zg.out.now b)
  replace Zx := hid (Zx.out.now b)
  replace Zo := hid (Zo.out.now b)
  replace Pa := hid (Pa.out.step b)
  replace Pb := hid (Pb.out.step b)
  replace PRI := hid (PRI.out.step b)
  replace Pg := hid (Pg.out.step b)
  replace Px := hid (Px.out.step b)
  replace G := hid (below_step G.out b)
  have lz12 := (show Below _ _ _ from b).size
  clear b 
  refine hK.out _ _ (fun _ => ⟨Pg.out.c0, Pg.out.c1⟩) ?_
  clear hK
  refine wpAnyT_one (i := 3) (o := { dst := some 21, op := Op.binOp BinOp.neq 3 (Operand.tmp 20) (Operand.const (Value.int IntKind.i64 0)) 3, type := 4, pos := "modulo.go:15", after := #[{ on := 2, ground := Ground.data }], guard := none }) (by kernel_rfl) rfl (fun K hK => ?_)
  go_simp
  refine hK.out _ _ (fun h => absurd h (by decide)) ?_
  clear hK
  try simp only [Act.put]
  refine wpAnyT_done (by kernel_rfl) ?_ _
  have cx0 := Px.out.c0
  have cx1 := Px.out.c1
  have cRI0 := PRI.out.c0
  have cRI1 := PRI.out.c1
  have fRI0 := PRI.out.fz 0
  have fRI1 := PRI.out.fz 1
  go_wp2
  exact bodyPost_ret (zback1 Try.results31 (PRI.out.set _ _) _ (by rfl) (by rfl)) rfl ⟨_, HI.out, _, rfl, (Zx.out.box PRI.out _ _).mono (by omega), bset (bset G.out (by omega)) (by omega)⟩
end Go.Proofs.Ytaoammmnpfbdfaa
