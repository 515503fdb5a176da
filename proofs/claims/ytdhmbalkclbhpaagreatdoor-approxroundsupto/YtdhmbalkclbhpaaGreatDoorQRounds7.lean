/-
  Rounds7: the walk of ApproxRounds.
-/
import Derived.Test.YtdhmbalkclbhpaaGreatDoorQRounds70
namespace Go.Proofs.YtdhmbalkclbhpaaGreatDoor
open Go.RowKit
set_option linter.unusedVariables false

set_option maxHeartbeats 6400000 in
set_option maxRecDepth 100000 in
theorem rounds_2 {w : World} {va : Value} {A : Int} (ha : Zi w va A 1048576) {n : Nat} (hT : Tab w) (hS : Sg w) (hP : Pw7 w) {D Q x : Nat} {ds : List UInt8} (h1 : 1 ≤ n) (h2 : n ≤ 40) (hA : A ≠ 0) (hD : (txtL 10 A.natAbs).length = D) (hr : rdL (txtL 10 A.natAbs) n = (ds, x)) (hdl : ds.length = n) (hg : Good 10 ds) (hQ : ofD 10 (dsL ds) = Q) (hlow : 10 ^ (n - 1) ≤ Q) (hD1 : 1 ≤ D) (hx : x = D - 1) (hxn : n ≤ x) (hq : ((A - sgd A Q * ((10 ^ (x - n + 1) : Nat) : Int)) + (A - sgd A Q * ((10 ^ (x - n + 1) : Nat) : Int))).natAbs < 10 ^ (x - n + 1)) :
    Calls Tryz.prog 3 #[va, .int .i64 (n : Int)] w fun e w' => e = .returned (.bool true) ∧ Below w.heap.size w w' := by
  obtain ⟨hsz, hsm⟩ := rounds_size ha hA
  rw [hD] at hsz hsm
  have HLD := hid (fun h => rounds_lead (N := A.natAbs) (n := n) (by omega) h1 h)
  have HLEN : Hid ((txtL 10 A.natAbs).length ≤ 67108865) := by unfold Hid; rw [hD]; exact hsz
  have hDs : D ≤ 67108865 := hsz
  have hxD : x ≤ D := by omega
  have hx8 : x ≤ 100000000 := by omega
  have HR := hid hr
  have HDL := hid hdl
  have HGd := hid hg
  have HQQ := hid hQ
  have HLOW := hid hlow
  have HSM := hid hsm
  have HQ := hid hq
  have QP : Hid (0 < Q) := by
    have := Nat.pow_pos (n := n - 1) (show 0 < 10 by decide)
    unfold Hid
    omega
  have HAn := hid hA
  have HTX : Hid ((ztxt (A.natAbs : Int)).size = D) := by
    unfold Hid ztxt
    rw [if_neg (by omega), Int.natAbs_natCast]
    exact (mk_size _).trans hD
  have n1 : ¬ (n : Int) < 1 := by omega
  have n2 : ¬ (40 : Int) < (n : Int) := by omega
  have q1 : ((0 : Int) == 0) = true := rfl
  have q2 : ((0 : Int) != 0) = false := rfl
  have HZ : Hid (∀ w' v, Zi w' v A 1048576 → _) := fun (w' : World) (v : Value) (h : Zi w' v A 1048576) => sign_z h
  have HZQ : Hid (∀ w' v, Zi w' v (sgd A Q) 3 → Calls Tryz.prog 6 #[v] w' fun e w'' => e = .returned (.int .i64 (cmpI A 0)) ∧ Below w'.heap.size w' w'') := fun w' v h => by
    have q := sign_z h
    rw [sgd_sign QP.out hA] at q
    exact q
  have q3 : (cmpI A 0 == 0) = false := by rw [beq_eq_false_iff_ne]; exact fun e => hA (cmpI_zero e)
  have q4 : (cmpI A 0 != cmpI A 0) = false := by simp
  generalize cmpI A 0 = CA at *
  have HX := hid hx
  have HXN := hid hxn
  obtain ⟨X, hX⟩ : ∃ X : Int, (x : Int) = X := ⟨_, rfl⟩
  have HXX := hid hX
  have HXD := hid hxD
  have HX8 := hid hx8
  clear hsz hsm hr hdl hg hQ hlow hq hA hD hx hX hxn hxD hx8
  have HT := hid hT
  have HSg := hid hS
  have HP := hid hP
  clear hT hS hP
  have za0 := ha
  obtain ⟨na, xa, ada, ca, rfl, -, -, -⟩ := ha
  obtain ⟨W0, hW⟩ : ∃ W0, w.alloc (duo (.bool na) (.slice ada xa.length ca)) = W0 := ⟨_, rfl⟩
  obtain ⟨b0, sz0⟩ := alloc1 w (duo (.bool na) (.slice ada xa.length ca))
  rw [hW] at b0 sz0
  have Pa : Hid (Duo W0 (w.heap.size) (.bool na) (.slice ada xa.length ca)) := by unfold Hid; rw [← hW]; exact duo_at (by simp)
  have Za := hid (za0.now b0)
  clear za0
  have G := hid b0
  clear b0
  have EW := hid hW
  clear hW
  go_enter Tryz.func3, Tryz.ntmps3
  replace HT := hid (HT.out.now G.out)
  replace HSg := hid (HSg.out.now G.out)
  replace HP := hid (HP.out.now G.out)
  skip
  go_wp2_with fail
  rw [EW.out]
  clear EW
  refine (awake7 HT.out).mono ?_
  rintro e w1 ⟨rfl, b⟩
  replace Za := hid (Za.out.now b)
  replace Pa := hid (Pa.out.step b)
  replace HT := hid (HT.out.now b)
  replace HSg := hid (HSg.out.now b)
  replace HP := hid (HP.out.now b)
  replace G := hid (below_step G.out b)
  have lz2 := (show Below _ _ _ from b).size
  clear b 
  have ca0 := Pa.out.c0
  have ca1 := Pa.out.c1
  go_wp2_with fail
  clear ca0 ca1
  refine (sci_some Za.out (by decide) HAn.out h1 h2 HSg.out HP.out HLD.out HR.out HDL.out HX8.out HLEN.out).mono ?_
  rintro e w3 ⟨rfl, b⟩
  replace Za := hid (Za.out.now b)
  replace Pa := hid (Pa.out.step b)
  replace HT := hid (HT.out.now b)
  replace HSg := hid (HSg.out.now b)
  replace HP := hid (HP.out.now b)
  replace G := hid (below_step G.out b)
  have lz4 := (show Below _ _ _ from b).size
  clear b 
  have ca0 := Pa.out.c0
  have ca1 := Pa.out.c1
  go_wp2_with fail
  clear ca0 ca1
  refine (HZ.out _ _ Za.out).mono ?_
  rintro e w5 ⟨rfl, b⟩
  replace Za := hid (Za.out.now b)
  replace Pa := hid (Pa.out.step b)
  replace HT := hid (HT.out.now b)
  replace HSg := hid (HSg.out.now b)
  replace HP := hid (HP.out.now b)
  replace G := hid (below_step G.out b)
  have lz6 := (show Below _ _ _ from b).size
  clear b 
  go_wp2_with fail
  refine (written_any HSg.out h1 h2 HDL.out HGd.out HQQ.out HLOW.out HX8.out).mono ?_
  rintro e w7 ⟨r0, rfl, m0, b⟩
  obtain ⟨nq, xq, adq, qq, rfl, -, -, -, -, -⟩ := id m0
  replace Za := hid (Za.out.now b)
  replace Pa := hid (Pa.out.step b)
  replace HT := hid (HT.out.now b)
  replace HSg := hid (HSg.out.now b)
  replace HP := hid (HP.out.now b)
  replace G := hid (below_step G.out b)
  have lz8 := (show Below _ _ _ from b).size
  have Zq := hid m0
  clear b m0
  rw [HXX.out]
  obtain ⟨V9, hW⟩ : ∃ V9, w7.alloc (duo (.bool nq) (.slice adq xq.length qq)) = V9 := ⟨_, rfl⟩
  obtain ⟨kW, sz9⟩ := alloc1 w7 (duo (.bool nq) (.slice adq xq.length qq))
  rw [hW] at kW sz9
  replace Za := hid (Za.out.now kW)
  replace Zq := hid (Zq.out.now kW)
  replace Pa := hid (Pa.out.step kW)
  replace HT := hid (HT.out.now kW)
  replace HSg := hid (HSg.out.now kW)
  replace HP := hid (HP.out.now kW)
  replace G := hid (below_step G.out kW)
  have lz10 := (show Below _ _ _ from kW).size
  have Pq : Hid (Duo V9 (w7.heap.size) (.bool nq) (.slice adq xq.length qq)) := by unfold Hid; rw [← hW]; exact duo_at (by simp)
  clear kW
  have EW := hid hW
  clear hW
  go_wp2_with fail
  rw [EW.out]
  clear EW
  refine wp_region_tail (fun w' => w'.cell? ⟨w7.heap.size, 0, none⟩ = some (.bool nq) ∧ w'.cell? ⟨w7.heap.size, 1, none⟩ = some (.slice adq xq.length qq) ∧ w'.cell? ⟨w.heap.size, 0, none⟩ = some (.bool na) ∧ w'.cell? ⟨w.heap.size, 1, none⟩ = some (.slice ada xa.length ca)) 12 (by kernel_rfl) ?_
  obtain ⟨D11, hD⟩ : ∃ D11, V9.drew = D11 := ⟨_, rfl⟩
  have b : Below V9.heap.size V9 D11 := by rw [← hD]; exact (Below.refl _ _).drew
  rw [hD]
  clear hD
  replace Za := hid (Za.out.now b)
  replace Zq := hid (Zq.out.now b)
  replace Pa := hid (Pa.out.step b)
  replace Pq := hid (Pq.out.step b)
  replace HT := hid (HT.out.now b)
  replace HSg := hid (HSg.out.now b)
  replace HP := hid (HP.out.now b)
  replace G := hid (below_step G.out b)
  have lz12 := (show Below _ _ _ from b).size
  clear b
  refine wpAnyT_take (i := 0) (oi := { dst := some 50, op := Op.move (Operand.tmp 6), type := 26, pos := "outright.go:280", after := #[], guard := none }) (v := (.int .i64 0)) rfl (by kernel_rfl) (fun _ _ _ h => h) (Or.inl ⟨by rfl, ?_⟩) ⟨Pq.out.c0, Pq.out.c1, Pa.out.c0, Pa.out.c1⟩ ?_
  · intro w hSw
    (try dsimp only at hSw)
    go_simp
  simp only [Act.put, List.setIfInBounds_toArray, List.set_cons_zero, List.set_cons_succ]
  refine wpAnyT_take (i := 1) (oi := { dst := some 51, op := Op.binOp BinOp.neq 26 (Operand.tmp 50) (Operand.const (Value.int IntKind.i64 0)) 26, type := 4, pos := "outright.go:280", after := #[{ on := 0, ground := Ground.data }], guard := none }) (v := (.bool false)) rfl (by kernel_rfl) (fun _ _ _ h => h) (Or.inl ⟨by rfl, ?_⟩) ⟨Pq.out.c0, Pq.out.c1, Pa.out.c0, Pa.out.c1⟩ ?_
  · intro w hSw
    (try dsimp only at hSw)
    go_simp
  simp only [Act.put, List.setIfInBounds_toArray, List.set_cons_zero, List.set_cons_succ]
  refine wpAnyT_take (i := 2) (oi := { dst := some 52, op := Op.move (Operand.tmp 51), type := 4, pos := "outright.go:280", after := #[{ on := 1, ground := Ground.data }], guard := none }) (v := (.bool false)) rfl (by kernel_rfl) (fun _ _ _ h => h) (Or.inl ⟨by rfl, ?_⟩) ⟨Pq.out.c0, Pq.out.c1, Pa.out.c0, Pa.out.c1⟩ ?_
  · intro w hSw
    (try dsimp only at hSw)
    go_simp
  simp only [Act.put, List.setIfInBounds_toArray, List.set_cons_zero, List.set_cons_succ]
  refine wpAnyT_take (i := 3) (oi := { dst := some 53, op := Op.move (Operand.tmp 9), type := 4, pos := "outright.go:280", after := #[{ on := 2, ground := Ground.guard }], guard := some (2, false) }) (v := (.bool true)) rfl (by kernel_rfl) (fun _ _ _ h => h) (Or.inl ⟨by rfl, ?_⟩) ⟨Pq.out.c0, Pq.out.c1, Pa.out.c0, Pa.out.c1⟩ ?_
  · intro w hSw
    (try dsimp only at hSw)
    go_simp
  simp only [Act.put, List.setIfInBounds_toArray, List.set_cons_zero, List.set_cons_succ]
  refine wpAnyT_take (i := 4) (oi := { dst := some 54, op := Op.unOp UnOp.not 4 (Operand.tmp 53), type := 4, pos := "outright.go:280", after := #[{ on := 3, ground := Ground.data }, { on := 2, ground := Ground.guard }], guard := some (2, false) }) (v := (.bool false)) rfl (by kernel_rfl) (fun _ _ _ h => h) (Or.inl ⟨by rfl, ?_⟩) ⟨Pq.out.c0, Pq.out.c1, Pa.out.c0, Pa.out.c1⟩ ?_
  · intro w hSw
    (try dsimp only at hSw)
    go_simp
  simp only [Act.put, List.setIfInBounds_toArray, List.set_cons_zero, List.set_cons_succ]
  refine wpAnyT_take (i := 5) (oi := { dst := some 55, op := Op.pick (Operand.tmp 52) (Operand.const (Value.bool true)) (Operand.tmp 54), type := 4, pos := "outright.go:280", after := #[{ on := 2, ground := Ground.data }, { on := 4, ground := Ground.data }], guard := none }) (v := (.bool false)) rfl (by kernel_rfl) (fun _ _ _ h => h) (Or.inl ⟨by rfl, ?_⟩) ⟨Pq.out.c0, Pq.out.c1, Pa.out.c0, Pa.out.c1⟩ ?_
  · intro w hSw
    (try dsimp only at hSw)
    go_simp
  simp only [Act.put, List.setIfInBounds_toArray, List.set_cons_zero, List.set_cons_succ]
  refine wpAnyT_take (i := 6) (oi := { dst := some 56, op := Op.move (Operand.tmp 55), type := 4, pos := "outright.go:280", after := #[{ on := 5, ground := Ground.data }, { on := 2, ground := Ground.chain }], guard := none }) (v := (.bool false)) rfl (by kernel_rfl) (fun _ _ _ h => h) (Or.inl ⟨by rfl, ?_⟩) ⟨Pq.out.c0, Pq.out.c1, Pa.out.c0, Pa.out.c1⟩ ?_
  · intro w hSw
    (try dsimp only at hSw)
    go_simp
  simp only [Act.put, List.setIfInBounds_toArray, List.set_cons_zero, List.set_cons_succ]
  refine wpAnyT_take (i := 7) (oi := { dst := some 57, op := Op.load 24 (Operand.tmp 7), type := 24, pos := "outright.go:280", after := #[{ on := 6, ground := Ground.guard }], guard := some (6, false) }) (v := (.agg #[(.bool nq), (.slice adq xq.length qq)])) rfl (by kernel_rfl) (fun _ _ _ h => h) (Or.inl ⟨by rfl, ?_⟩) ⟨Pq.out.c0, Pq.out.c1, Pa.out.c0, Pa.out.c1⟩ ?_
  · intro w hSw
    (try dsimp only at hSw)
    go_simp
  simp only [Act.put, List.setIfInBounds_toArray, List.set_cons_zero, List.set_cons_succ]
  refine wpAnyT_take (i := 9) (oi := { dst := some 59, op := Op.load 24 (Operand.tmp 2), type := 24, pos := "outright.go:280", after := #[{ on := 6, ground := Ground.guard }], guard := some (6, false) }) (v := (.agg #[(.bool na), (.slice ada xa.length ca)])) rfl (by kernel_rfl) (fun _ _ _ h => h) (Or.inl ⟨by rfl, ?_⟩) ⟨Pq.out.c0, Pq.out.c1, Pa.out.c0, Pa.out.c1⟩ ?_
  · intro w hSw
    (try dsimp only at hSw)
    go_simp
  simp only [Act.put, List.setIfInBounds_toArray, List.set_cons_zero, List.set_cons_succ]
  refine wpAnyT_one (i := 8) (o := { dst := some 58, op := Op.call { callee := Callee.value (Operand.func 6), args := #[Operand.tmp 57], argTypes := #[24] }, type := 3, pos := "outright.go:280", after := #[{ on := 7, ground := Ground.data }, { on := 6, ground := Ground.chain }, { on := 6, ground := Ground.guard }], guard := some (6, false) }) (by kernel_rfl) rfl (fun K hK => ?_)
  go_simp
  go_at_call 6
  refine (HZQ.out _ _ Zq.out.zi).mono ?_
  rintro e w13 ⟨rfl, b⟩
  replace Za := hid (Za.out.now b)
  replace Zq := hid (Zq.out.now b)
  replace Pa := hid (Pa.out.step b)
  replace Pq := hid (Pq.out.step b)
  replace HT := hid (HT.out.now b)
  replace HSg := hid (HSg.out.now b)
  replace HP := hid (HP.out.now b)
  replace G := hid (below_step G.out b)
  have lz14 := (show Below _ _ _ from b).size
  clear b 
  refine hK.out _ _ (fun _ => ⟨Pq.out.c0, Pq.out.c1, Pa.out.c0, Pa.out.c1⟩) ?_
  clear hK
  refine wpAnyT_one (i := 10) (o := { dst := some 60, op := Op.call { callee := Callee.value (Operand.func 6), args := #[Operand.tmp 59], argTypes := #[24] }, type := 3, pos := "outright.go:280", after := #[{ on := 9, ground := Ground.data }, { on := 8, ground := Ground.chain }, { on := 6, ground := Ground.guard }], guard := some (6, false) }) (by kernel_rfl) rfl (fun K hK => ?_)
  go_simp
  go_at_call 6
  refine (HZ.out _ _ Za.out).mono ?_
  rintro e w15 ⟨rfl, b⟩
  replace Za := hid (Za.out.now b)
  replace Zq := hid (Zq.out.now b)
  replace Pa := hid (Pa.out.step b)
  replace Pq := hid (Pq.out.step b)
  replace HT := hid (HT.out.now b)
  replace HSg := hid (HSg.out.now b)
  replace HP := hid (HP.out.now b)
  replace G := hid (below_step G.out b)
  have lz16 := (show Below _ _ _ from b).size
  clear b 
  refine hK.out _ _ (fun _ => ⟨Pq.out.c0, Pq.out.c1, Pa.out.c0, Pa.out.c1⟩) ?_
  clear hK
  refine wpAnyT_take (i := 11) (oi := { dst := some 61, op := Op.binOp BinOp.neq 3 (Operand.tmp 58) (Operand.tmp 60) 3, type := 4, pos := "outright.go:280", after := #[{ on := 8, ground := Ground.data }, { on := 10, ground := Ground.data }, { on := 6, ground := Ground.guard }], guard := some (6, false) }) (v := (.bool false)) rfl (by kernel_rfl) (fun _ _ _ h => h) (Or.inl ⟨by rfl, ?_⟩) ⟨Pq.out.c0, Pq.out.c1, Pa.out.c0, Pa.out.c1⟩ ?_
  · intro w hSw
    (try dsimp only at hSw)
    go_simp
  simp only [Act.put, List.setIfInBounds_toArray, List.set_cons_zero, List.set_cons_succ]
  refine wpAnyT_one (i := 12) (o := { dst := some 62, op := Op.pick (Operand.tmp 56) (Operand.const (Value.bool true)) (Operand.tmp 61), type := 4, pos := "outright.go:280", after := #[{ on := 6, ground := Ground.data }, { on := 11, ground := Ground.data }], guard := none }) (by kernel_rfl) rfl (fun K hK => ?_)
  go_simp
  refine hK.out _ _ (fun h => absurd h (by decide)) ?_
  clear hK
  try simp only [Act.put]
  refine wpAnyT_done (by kernel_rfl) ?_ _
  have ca0 := Pa.out.c0
  have ca1 := Pa.out.c1
  go_wp2_with fail
  clear ca0 ca1
  refine (abs_z Za.out).mono ?_
  rintro e w17 ⟨r0, rfl, m0, b⟩
  obtain ⟨nb, xb, adb, qb, rfl, -, -, -, -, -⟩ := id m0
  replace Za := hid (Za.out.now b)
  replace Zq := hid (Zq.out.now b)
  replace Pa := hid (Pa.out.step b)
  replace Pq := hid (Pq.out.step b)
  replace HT := hid (HT.out.now b)
  replace HSg := hid (HSg.out.now b)
  replace HP := hid (HP.out.now b)
  replace G := hid (below_step G.out b)
  have lz18 := (show Below _ _ _ from b).size
  have Zb := hid m0
  clear b m0
  go_wp2_with fail
  refine (text_z Zb.out.zi (by decide) HSg.out).mono ?_
  rintro e w19 ⟨rfl, b⟩
  replace Za := hid (Za.out.now b)
  replace Zq := hid (Zq.out.now b)
  replace Zb := hid (Zb.out.now b)
  replace Pa := hid (Pa.out.step b)
  replace Pq := hid (Pq.out.step b)
  replace HT := hid (HT.out.now b)
  replace HSg := hid (HSg.out.now b)
  replace HP := hid (HP.out.now b)
  replace G := hid (below_step G.out b)
  have lz20 := (show Below _ _ _ from b).size
  clear b 
  have LEN : ((ztxt (A.natAbs : Int)).size : Int) = (D : Int) := by rw [HTX.out]
  have hx := HX.out
  have hxx := HXX.out
  have k1 : (X != (D : Int) - 1) = false := by rw [bne_eq_false_iff_eq]; omega
  clear hx hxx
  have hxx := HXX.out
  have hxn := HXN.out
  have hxD := HXD.out
  have k2 : ¬ X < (n : Int) := by omega
  have J1 : Hid (x - n + 1 ≤ 100000000) := by unfold Hid; omega
  have T1 : Hid (x - n + 1 ≤ D) := by unfold Hid; omega
  have E1 : Hid (X - (n : Int) + 1 = ((x - n + 1 : Nat) : Int)) := by unfold Hid; omega
  have wn1 : IntKind.i64.wrap (X - (n : Int)) = X - (n : Int) := wrap_is (by omega) (by omega)
  have wn2 : IntKind.i64.wrap (X - (n : Int) + 1) = X - (n : Int) + 1 := wrap_is (by omega) (by omega)
  clear hxx hxn hxD
  go_wp2_with fail
  refine (ten_fit HSg.out J1.out (HSM.out _ T1.out) E1.out).mono ?_
  rintro e w21 ⟨r0, rfl, m0, b⟩
  obtain ⟨nt, xt, adt, qt, rfl, -, -, -, -, -⟩ := id m0
  replace Za := hid (Za.out.now b)
  replace Zq := hid (Zq.out.now b)
  replace Zb := hid (Zb.out.now b)
  replace Pa := hid (Pa.out.step b)
  replace Pq := hid (Pq.out.step b)
  replace HT := hid (HT.out.now b)
  replace HSg := hid (HSg.out.now b)
  replace HP := hid (HP.out.now b)
  replace G := hid (below_step G.out b)
  have lz22 := (show Below _ _ _ from b).size
  have Zt := hid m0
  clear b m0
  obtain ⟨V23, hW⟩ : ∃ V23, w21.alloc (duo (.bool nt) (.slice adt xt.length qt)) = V23 := ⟨_, rfl⟩
  obtain ⟨kW, sz23⟩ := alloc1 w21 (duo (.bool nt) (.slice adt xt.length qt))
  rw [hW] at kW sz23
  replace Za := hid (Za.out.now kW)
  replace Zq := hid (Zq.out.now kW)
  replace Zb := hid (Zb.out.now kW)
  replace Zt := hid (Zt.out.now kW)
  replace Pa := hid (Pa.out.step kW)
  replace Pq := hid (Pq.out.step kW)
  replace HT := hid (HT.out.now kW)
  replace HSg := hid (HSg.out.now kW)
  replace HP := hid (HP.out.now kW)
  replace G := hid (below_step G.out kW)
  have lz24 := (show Below _ _ _ from kW).size
  have Pt : Hid (Duo V23 (w21.heap.size) (.bool nt) (.slice adt xt.length qt)) := by unfold Hid; rw [← hW]; exact duo_at (by simp)
  clear kW
  have HC1 : Hid (∀ w' v u l, Zi w' v ((A - sgd A Q * ((10 ^ (x - n + 1) : Nat) : Int)) + (A - sgd A Q * ((10 ^ (x - n + 1) : Nat) : Int))) l → Zi w' u ((10 ^ (x - n + 1) : Nat) : Int) (1048576 + 1) → Calls Tryz.prog 13 #[v, u] w' fun e w'' => e = .returned (.int .i64 (-1)) ∧ Below w'.heap.size w' w'') := fun w' v u l h h' => by
    have p := cmpAbs_z h h'
    rw [Int.natAbs_natCast] at p
    rw [show cmpI (((A - sgd A Q * ((10 ^ (x - n + 1) : Nat) : Int)) + (A - sgd A Q * ((10 ^ (x - n + 1) : Nat) : Int))).natAbs : Int) ((10 ^ (x - n + 1) : Nat) : Int) = (-1) from cmpI_lt (by exact_mod_cast HQ.out)] at p
    exact p
  have EW := hid hW
  clear hW
  go_wp2_with fail
  rw [EW.out]
  clear EW
  refine wp_region_tail (fun w' => w'.cell? ⟨w.heap.size, 0, none⟩ = some (.bool na) ∧ w'.cell? ⟨w.heap.size, 1, none⟩ = some (.slice ada xa.length ca) ∧ w'.cell? ⟨w7.heap.size, 0, none⟩ = some (.bool nq) ∧ w'.cell? ⟨w7.heap.size, 1, none⟩ = some (.slice adq xq.length qq) ∧ w'.cell? ⟨w21.heap.size, 0, none⟩ = some (.bool nt) ∧ w'.cell? ⟨w21.heap.size, 1, none⟩ = some (.slice adt xt.length qt)) 8 (by kernel_rfl) ?_
  obtain ⟨D25, hD⟩ : ∃ D25, V23.drew = D25 := ⟨_, rfl⟩
  have b : Below V23.heap.size V23 D25 := by rw [← hD]; exact (Below.refl _ _).drew
  rw [hD]
  clear hD
  replace Za := hid (Za.out.now b)
  replace Zq := hid (Zq.out.now b)
  replace Zb := hid (Zb.out.now b)
  replace Zt := hid (Zt.out.now b)
  replace Pa := hid (Pa.out.step b)
  replace Pq := hid (Pq.out.step b)
  replace Pt := hid (Pt.out.step b)
  replace HT := hid (HT.out.now b)
  replace HSg := hid (HSg.out.now b)
  replace HP := hid (HP.out.now b)
  replace G := hid (below_step G.out b)
  have lz26 := (show Below _ _ _ from b).size
  clear b
  refine wpAnyT_take (i := 0) (oi := { dst := some 94, op := Op.load 24 (Operand.tmp 2), type := 24, pos := "outright.go:291", after := #[], guard := none }) (v := (.agg #[(.bool na), (.slice ada xa.length ca)])) rfl (by kernel_rfl) (fun _ _ _ h => h) (Or.inl ⟨by rfl, ?_⟩) ⟨Pa.out.c0, Pa.out.c1, Pq.out.c0, Pq.out.c1, Pt.out.c0, Pt.out.c1⟩ ?_
  · intro w hSw
    (try dsimp only at hSw)
    go_simp
  simp only [Act.put, List.setIfInBounds_toArray, List.set_cons_zero, List.set_cons_succ]
  refine wpAnyT_take (i := 1) (oi := { dst := some 95, op := Op.load 24 (Operand.tmp 7), type := 24, pos := "outright.go:291", after := #[], guard := none }) (v := (.agg #[(.bool nq), (.slice adq xq.length qq)])) rfl (by kernel_rfl) (fun _ _ _ h => h) (Or.inl ⟨by rfl, ?_⟩) ⟨Pa.out.c0, Pa.out.c1, Pq.out.c0, Pq.out.c1, Pt.out.c0, Pt.out.c1⟩ ?_
  · intro w hSw
    (try dsimp only at hSw)
    go_simp
  simp only [Act.put, List.setIfInBounds_toArray, List.set_cons_zero, List.set_cons_succ]
  refine wpAnyT_take (i := 2) (oi := { dst := some 96, op := Op.load 24 (Operand.tmp 11), type := 24, pos := "outright.go:291", after := #[], guard := none }) (v := (.agg #[(.bool nt), (.slice adt xt.length qt)])) rfl (by kernel_rfl) (fun _ _ _ h => h) (Or.inl ⟨by rfl, ?_⟩) ⟨Pa.out.c0, Pa.out.c1, Pq.out.c0, Pq.out.c1, Pt.out.c0, Pt.out.c1⟩ ?_
  · intro w hSw
    (try dsimp only at hSw)
    go_simp
  simp only [Act.put, List.setIfInBounds_toArray, List.set_cons_zero, List.set_cons_succ]
  refine wpAnyT_take (i := 6) (oi := { dst := some 100, op := Op.load 24 (Operand.tmp 11), type := 24, pos := "outright.go:291", after := #[], guard := none }) (v := (.agg #[(.bool nt), (.slice adt xt.length qt)])) rfl (by kernel_rfl) (fun _ _ _ h => h) (Or.inl ⟨by rfl, ?_⟩) ⟨Pa.out.c0, Pa.out.c1, Pq.out.c0, Pq.out.c1, Pt.out.c0, Pt.out.c1⟩ ?_
  · intro w hSw
    (try dsimp only at hSw)
    go_simp
  simp only [Act.put, List.setIfInBounds_toArray, List.set_cons_zero, List.set_cons_succ]
  refine wpAnyT_one (i := 3) (o := { dst := some 97, op := Op.call { callee := Callee.value (Operand.func 11), args := #[Operand.tmp 95, Operand.tmp 96], argTypes := #[24, 24] }, type := 24, pos := "outright.go:291", after := #[{ on := 1, ground := Ground.data }, { on := 2, ground := Ground.data }], guard := none }) (by kernel_rfl) rfl (fun K hK => ?_)
  go_simp
  go_at_call 11
  refine (mul_z Zq.out.zi Zt.out.zi (by decide)).mono ?_
  rintro e w27 ⟨r0, rfl, m0, b⟩
  obtain ⟨nm2, xm2, adm2, qm2, rfl, -, -, -, -, -⟩ := id m0
  replace Za := hid (Za.out.now b)
  replace Zq := hid (Zq.out.now b)
  replace Zb := hid (Zb.out.now b)
  replace Zt := hid (Zt.out.now b)
  replace Pa := hid (Pa.out.step b)
  replace Pq := hid (Pq.out.step b)
  replace Pt := hid (Pt.out.step b)
  replace HT := hid (HT.out.now b)
  replace HSg := hid (HSg.out.now b)
  replace HP := hid (HP.out.now b)
  replace G := hid (below_step G.out b)
  have lz28 := (show Below _ _ _ from b).size
  have Zm2 := hid m0
  clear b m0
  refine hK.out _ _ (fun _ => ⟨Pa.out.c0, Pa.out.c1, Pq.out.c0, Pq.out.c1, Pt.out.c0, Pt.out.c1⟩) ?_
  clear hK
  refine wpAnyT_one (i := 4) (o := { dst := some 98, op := Op.call { callee := Callee.value (Operand.func 15), args := #[Operand.tmp 94, Operand.tmp 97], argTypes := #[24, 24] }, type := 24, pos := "outright.go:291", after := #[{ on := 0, ground := Ground.data }, { on := 3, ground := Ground.data }, { on := 3, ground := Ground.chain }], guard := none }) (by kernel_rfl) rfl (fun K hK => ?_)
  go_simp
  go_at_call 15
  refine (sub_z Za.out Zm2.out.zi (by decide) (by decide)).mono ?_
  rintro e w29 ⟨r0, rfl, m0, b⟩
  obtain ⟨ns, xs, ads, qs, rfl, -, -, -, -, -⟩ := id m0
  replace Za := hid (Za.out.now b)
  replace Zq := hid (Zq.out.now b)
  replace Zb := hid (Zb.out.now b)
  replace Zt := hid (Zt.out.now b)
  replace Zm2 := hid (Zm2.out.now b)
  replace Pa := hid (Pa.out.step b)
  replace Pq := hid (Pq.out.step b)
  replace Pt := hid (Pt.out.step b)
  replace HT := hid (HT.out.now b)
  replace HSg := hid (HSg.out.now b)
  replace HP := hid (HP.out.now b)
  replace G := hid (below_step G.out b)
  have lz30 := (show Below _ _ _ from b).size
  have Zs := hid m0
  clear b m0
  refine hK.out _ _ (fun _ => ⟨Pa.out.c0, Pa.out.c1, Pq.out.c0, Pq.out.c1, Pt.out.c0, Pt.out.c1⟩) ?_
  clear hK
  refine wpAnyT_one (i := 5) (o := { dst := some 99, op := Op.call { callee := Callee.value (Operand.func 14), args := #[Operand.tmp 98], argTypes := #[24] }, type := 24, pos := "outright.go:291", after := #[{ on := 4, ground := Ground.data }, { on := 4, ground := Ground.chain }], guard := none }) (by kernel_rfl) rfl (fun K hK => ?_)
  go_simp
  go_at_call 14
  refine (twice_z Zs.out.zi (by decide)).mono ?_
  rintro e w31 ⟨r0, rfl, m0, b⟩
  obtain ⟨nw2, xw2, adw2, qw2, rfl, -, -, -, -, -⟩ := id m0
  replace Za := hid (Za.out.now b)
  replace Zq := hid (Zq.out.now b)
  replace Zb := hid (Zb.out.now b)
  replace Zt := hid (Zt.out.now b)
  replace Zm2 := hid (Zm2.out.now b)
  replace Zs := hid (Zs.out.now b)
  replace Pa := hid (Pa.out.step b)
  replace Pq := hid (Pq.out.step b)
  replace Pt := hid (Pt.out.step b)
  replace HT := hid (HT.out.now b)
  replace HSg := hid (HSg.out.now b)
  replace HP := hid (HP.out.now b)
  replace G := hid (below_step G.out b)
  have lz32 := (show Below _ _ _ from b).size
  have Zw2 := hid m0
  clear b m0
  refine hK.out _ _ (fun _ => ⟨Pa.out.c0, Pa.out.c1, Pq.out.c0, Pq.out.c1, Pt.out.c0, Pt.out.c1⟩) ?_
  clear hK
  refine wpAnyT_one (i := 7) (o := { dst := some 101, op := Op.call { callee := Callee.value (Operand.func 13), args := #[Operand.tmp 99, Operand.tmp 100], argTypes := #[24, 24] }, type := 3, pos := "outright.go:291", after := #[{ on := 5, ground := Ground.data }, { on := 6, ground := Ground.data }, { on := 5, ground := Ground.chain }], guard := none }) (by kernel_rfl) rfl (fun K hK => ?_)
  go_simp
  go_at_call 13
  refine (HC1.out _ _ _ _ Zw2.out.zi Zt.out.zi).mono ?_
  rintro e w33 ⟨rfl, b⟩
  replace Za := hid (Za.out.now b)
  replace Zq := hid (Zq.out.now b)
  replace Zb := hid (Zb.out.now b)
  replace Zt := hid (Zt.out.now b)
  replace Zm2 := hid (Zm2.out.now b)
  replace Zs := hid (Zs.out.now b)
  replace Zw2 := hid (Zw2.out.now b)
  replace Pa := hid (Pa.out.step b)
  replace Pq := hid (Pq.out.step b)
  replace Pt := hid (Pt.out.step b)
  replace HT := hid (HT.out.now b)
  replace HSg := hid (HSg.out.now b)
  replace HP := hid (HP.out.now b)
  replace G := hid (below_step G.out b)
  have lz34 := (show Below _ _ _ from b).size
  clear b 
  refine hK.out _ _ (fun _ => ⟨Pa.out.c0, Pa.out.c1, Pq.out.c0, Pq.out.c1, Pt.out.c0, Pt.out.c1⟩) ?_
  clear hK
  refine wpAnyT_one (i := 8) (o := { dst := some 12, op := Op.assign (Operand.tmp 101), type := 3, pos := "outright.go:291", after := #[{ on := 7, ground := Ground.data }, { on := 7, ground := Ground.chain }, { on := 0, ground := Ground.phase }, { on := 1, ground := Ground.phase }, { on := 2, ground := Ground.phase }, { on := 3, ground := Ground.phase }, { on := 4, ground := Ground.phase }, { on := 5, ground := Ground.phase }, { on := 6, ground := Ground.phase }, { on := 7, ground := Ground.phase }], guard := none }) (by kernel_rfl) rfl (fun K hK => ?_)
  go_simp
  refine hK.out _ _ (fun h => absurd h (by decide)) ?_
  clear hK
  try simp only [Act.put]
  refine wpAnyT_done (by kernel_rfl) ?_ _
  clear Zm2
  clear Zs
  clear Zw2
  have hx := HX.out
  have hxx := HXX.out
  have k3 : (X == (D : Int)) = false := by rw [beq_eq_false_iff_ne]; omega
  clear hx hxx
  have k4 : (-1 : Int) < 0 := by decide
  go_wp2
  go_ret
  exact ⟨rfl, G.out⟩

set_option maxHeartbeats 6400000 in
set_option maxRecDepth 100000 in
theorem rounds_2e {w : World} {va : Value} {A : Int} (ha : Zi w va A 1048576) {n : Nat} (hT : Tab w) (hS : Sg w) (hP : Pw7 w) {D Q x : Nat} {ds : List UInt8} (h1 : 1 ≤ n) (h2 : n ≤ 40) (hA : A ≠ 0) (hD : (txtL 10 A.natAbs).length = D) (hr : rdL (txtL 10 A.natAbs) n = (ds, x)) (hdl : ds.length = n) (hg : Good 10 ds) (hQ : ofD 10 (dsL ds) = Q) (hlow : 10 ^ (n - 1) ≤ Q) (hD1 : 1 ≤ D) (hx : x = D - 1) (hxn : n ≤ x) (hq : ((A - sgd A Q * ((10 ^ (x - n + 1) : Nat) : Int)) + (A - sgd A Q * ((10 ^ (x - n + 1) : Nat) : Int))).natAbs = 10 ^ (x - n + 1)) (hev : Q % 2 = 0) :
    Calls Tryz.prog 3 #[va, .int .i64 (n : Int)] w fun e w' => e = .returned (.bool true) ∧ Below w.heap.size w w' := by
  obtain ⟨hsz, hsm⟩ := rounds_size ha hA
  rw [hD] at hsz hsm
  have HLD := hid (fun h => rounds_lead (N := A.natAbs) (n := n) (by omega) h1 h)
  have HLEN : Hid ((txtL 10 A.natAbs).length ≤ 67108865) := by unfold Hid; rw [hD]; exact hsz
  have hDs : D ≤ 67108865 := hsz
  have hxD : x ≤ D := by omega
  have hx8 : x ≤ 100000000 := by omega
  have HR := hid hr
  have HDL := hid hdl
  have HGd := hid hg
  have HQQ := hid hQ
  have HLOW := hid hlow
  have HSM := hid hsm
  have HQ := hid hq
  have QP : Hid (0 < Q) := by
    have := Nat.pow_pos (n := n - 1) (show 0 < 10 by decide)
    unfold Hid
    omega
  have HAn := hid hA
  have HTX : Hid ((ztxt (A.natAbs : Int)).size = D) := by
    unfold Hid ztxt
    rw [if_neg (by omega), Int.natAbs_natCast]
    exact (mk_size _).trans hD
  have n1 : ¬ (n : Int) < 1 := by omega
  have n2 : ¬ (40 : Int) < (n : Int) := by omega
  have q1 : ((0 : Int) == 0) = true := rfl
  have q2 : ((0 : Int) != 0) = false := rfl
  have HZ : Hid (∀ w' v, Zi w' v A 1048576 → _) := fun (w' : World) (v : Value) (h : Zi w' v A 1048576) => sign_z h
  have HZQ : Hid (∀ w' v, Zi w' v (sgd A Q) 3 → Calls Tryz.prog 6 #[v] w' fun e w'' => e = .returned (.int .i64 (cmpI A 0)) ∧ Below w'.heap.size w' w'') := fun w' v h => by
    have q := sign_z h
    rw [sgd_sign QP.out hA] at q
    exact q
  have q3 : (cmpI A 0 == 0) = false := by rw [beq_eq_false_iff_ne]; exact fun e => hA (cmpI_zero e)
  have q4 : (cmpI A 0 != cmpI A 0) = false := by simp
  generalize cmpI A 0 = CA at *
  have HX := hid hx
  have HXN := hid hxn
  obtain ⟨X, hX⟩ : ∃ X : Int, (x : Int) = X := ⟨_, rfl⟩
  have HXX := hid hX
  have HXD := hid hxD
  have HX8 := hid hx8
  clear hsz hsm hr hdl hg hQ hlow hq hA hD hx hX hxn hxD hx8
  have HEV := hid hev
  clear hev
  have HT := hid hT
  have HSg := hid hS
  have HP := hid hP
  clear hT hS hP
  have za0 := ha
  obtain ⟨na, xa, ada, ca, rfl, -, -, -⟩ := ha
  obtain ⟨W0, hW⟩ : ∃ W0, w.alloc (duo (.bool na) (.slice ada xa.length ca)) = W0 := ⟨_, rfl⟩
  obtain ⟨b0, sz0⟩ := alloc1 w (duo (.bool na) (.slice ada xa.length ca))
  rw [hW] at b0 sz0
  have Pa : Hid (Duo W0 (w.heap.size) (.bool na) (.slice ada xa.length ca)) := by unfold Hid; rw [← hW]; exact duo_at (by simp)
  have Za := hid (za0.now b0)
  clear za0
  have G := hid b0
  clear b0
  have EW := hid hW
  clear hW
  go_enter Tryz.func3, Tryz.ntmps3
  replace HT := hid (HT.out.now G.out)
  replace HSg := hid (HSg.out.now G.out)
  replace HP := hid (HP.out.now G.out)
  skip
  go_wp2_with fail
  rw [EW.out]
  clear EW
  refine (awake7 HT.out).mono ?_
  rintro e w1 ⟨rfl, b⟩
  replace Za := hid (Za.out.now b)
  replace Pa := hid (Pa.out.step b)
  replace HT := hid (HT.out.now b)
  replace HSg := hid (HSg.out.now b)
  replace HP := hid (HP.out.now b)
  replace G := hid (below_step G.out b)
  have lz2 := (show Below _ _ _ from b).size
  clear b 
  have ca0 := Pa.out.c0
  have ca1 := Pa.out.c1
  go_wp2_with fail
  clear ca0 ca1
  refine (sci_some Za.out (by decide) HAn.out h1 h2 HSg.out HP.out HLD.out HR.out HDL.out HX8.out HLEN.out).mono ?_
  rintro e w3 ⟨rfl, b⟩
  replace Za := hid (Za.out.now b)
  replace Pa := hid (Pa.out.step b)
  replace HT := hid (HT.out.now b)
  replace HSg := hid (HSg.out.now b)
  replace HP := hid (HP.out.now b)
  replace G := hid (below_step G.out b)
  have lz4 := (show Below _ _ _ from b).size
  clear b 
  have ca0 := Pa.out.c0
  have ca1 := Pa.out.c1
  go_wp2_with fail
  clear ca0 ca1
  refine (HZ.out _ _ Za.out).mono ?_
  rintro e w5 ⟨rfl, b⟩
  replace Za := hid (Za.out.now b)
  replace Pa := hid (Pa.out.step b)
  replace HT := hid (HT.out.now b)
  replace HSg := hid (HSg.out.now b)
  replace HP := hid (HP.out.now b)
  replace G := hid (below_step G.out b)
  have lz6 := (show Below _ _ _ from b).size
  clear b 
  go_wp2_with fail
  refine (written_any HSg.out h1 h2 HDL.out HGd.out HQQ.out HLOW.out HX8.out).mono ?_
  rintro e w7 ⟨r0, rfl, m0, b⟩
  obtain ⟨nq, xq, adq, qq, rfl, -, -, -, -, -⟩ := id m0
  replace Za := hid (Za.out.now b)
  replace Pa := hid (Pa.out.step b)
  replace HT := hid (HT.out.now b)
  replace HSg := hid (HSg.out.now b)
  replace HP := hid (HP.out.now b)
  replace G := hid (below_step G.out b)
  have lz8 := (show Below _ _ _ from b).size
  have Zq := hid m0
  clear b m0
  rw [HXX.out]
  obtain ⟨V9, hW⟩ : ∃ V9, w7.alloc (duo (.bool nq) (.slice adq xq.length qq)) = V9 := ⟨_, rfl⟩
  obtain ⟨kW, sz9⟩ := alloc1 w7 (duo (.bool nq) (.slice adq xq.length qq))
  rw [hW] at kW sz9
  replace Za := hid (Za.out.now kW)
  replace Zq := hid (Zq.out.now kW)
  replace Pa := hid (Pa.out.step kW)
  replace HT := hid (HT.out.now kW)
  replace HSg := hid (HSg.out.now kW)
  replace HP := hid (HP.out.now kW)
  replace G := hid (below_step G.out kW)
  have lz10 := (show Below _ _ _ from kW).size
  have Pq : Hid (Duo V9 (w7.heap.size) (.bool nq) (.slice adq xq.length qq)) := by unfold Hid; rw [← hW]; exact duo_at (by simp)
  clear kW
  have EW := hid hW
  clear hW
  go_wp2_with fail
  rw [EW.out]
  clear EW
  refine wp_region_tail (fun w' => w'.cell? ⟨w7.heap.size, 0, none⟩ = some (.bool nq) ∧ w'.cell? ⟨w7.heap.size, 1, none⟩ = some (.slice adq xq.length qq) ∧ w'.cell? ⟨w.heap.size, 0, none⟩ = some (.bool na) ∧ w'.cell? ⟨w.heap.size, 1, none⟩ = some (.slice ada xa.length ca)) 12 (by kernel_rfl) ?_
  obtain ⟨D11, hD⟩ : ∃ D11, V9.drew = D11 := ⟨_, rfl⟩
  have b : Below V9.heap.size V9 D11 := by rw [← hD]; exact (Below.refl _ _).drew
  rw [hD]
  clear hD
  replace Za := hid (Za.out.now b)
  replace Zq := hid (Zq.out.now b)
  replace Pa := hid (Pa.out.step b)
  replace Pq := hid (Pq.out.step b)
  replace HT := hid (HT.out.now b)
  replace HSg := hid (HSg.out.now b)
  replace HP := hid (HP.out.now b)
  replace G := hid (below_step G.out b)
  have lz12 := (show Below _ _ _ from b).size
  clear b
  refine wpAnyT_take (i := 0) (oi := { dst := some 50, op := Op.move (Operand.tmp 6), type := 26, pos := "outright.go:280", after := #[], guard := none }) (v := (.int .i64 0)) rfl (by kernel_rfl) (fun _ _ _ h => h) (Or.inl ⟨by rfl, ?_⟩) ⟨Pq.out.c0, Pq.out.c1, Pa.out.c0, Pa.out.c1⟩ ?_
  · intro w hSw
    (try dsimp only at hSw)
    go_simp
  simp only [Act.put, List.setIfInBounds_toArray, List.set_cons_zero, List.set_cons_succ]
  refine wpAnyT_take (i := 1) (oi := { dst := some 51, op := Op.binOp BinOp.neq 26 (Operand.tmp 50) (Operand.const (Value.int IntKind.i64 0)) 26, type := 4, pos := "outright.go:280", after := #[{ on := 0, ground := Ground.data }], guard := none }) (v := (.bool false)) rfl (by kernel_rfl) (fun _ _ _ h => h) (Or.inl ⟨by rfl, ?_⟩) ⟨Pq.out.c0, Pq.out.c1, Pa.out.c0, Pa.out.c1⟩ ?_
  · intro w hSw
    (try dsimp only at hSw)
    go_simp
  simp only [Act.put, List.setIfInBounds_toArray, List.set_cons_zero, List.set_cons_succ]
  refine wpAnyT_take (i := 2) (oi := { dst := some 52, op := Op.move (Operand.tmp 51), type := 4, pos := "outright.go:280", after := #[{ on := 1, ground := Ground.data }], guard := none }) (v := (.bool false)) rfl (by kernel_rfl) (fun _ _ _ h => h) (Or.inl ⟨by rfl, ?_⟩) ⟨Pq.out.c0, Pq.out.c1, Pa.out.c0, Pa.out.c1⟩ ?_
  · intro w hSw
    (try dsimp only at hSw)
    go_simp
  simp only [Act.put, List.setIfInBounds_toArray, List.set_cons_zero, List.set_cons_succ]
  refine wpAnyT_take (i := 3) (oi := { dst := some 53, op := Op.move (Operand.tmp 9), type := 4, pos := "outright.go:280", after := #[{ on := 2, ground := Ground.guard }], guard := some (2, false) }) (v := (.bool true)) rfl (by kernel_rfl) (fun _ _ _ h => h) (Or.inl ⟨by rfl, ?_⟩) ⟨Pq.out.c0, Pq.out.c1, Pa.out.c0, Pa.out.c1⟩ ?_
  · intro w hSw
    (try dsimp only at hSw)
    go_simp
  simp only [Act.put, List.setIfInBounds_toArray, List.set_cons_zero, List.set_cons_succ]
  refine wpAnyT_take (i := 4) (oi := { dst := some 54, op := Op.unOp UnOp.not 4 (Operand.tmp 53), type := 4, pos := "outright.go:280", after := #[{ on := 3, ground := Ground.data }, { on := 2, ground := Ground.guard }], guard := some (2, false) }) (v := (.bool false)) rfl (by kernel_rfl) (fun _ _ _ h => h) (Or.inl ⟨by rfl, ?_⟩) ⟨Pq.out.c0, Pq.out.c1, Pa.out.c0, Pa.out.c1⟩ ?_
  · intro w hSw
    (try dsimp only at hSw)
    go_simp
  simp only [Act.put, List.setIfInBounds_toArray, List.set_cons_zero, List.set_cons_succ]
  refine wpAnyT_take (i := 5) (oi := { dst := some 55, op := Op.pick (Operand.tmp 52) (Operand.const (Value.bool true)) (Operand.tmp 54), type := 4, pos := "outright.go:280", after := #[{ on := 2, ground := Ground.data }, { on := 4, ground := Ground.data }], guard := none }) (v := (.bool false)) rfl (by kernel_rfl) (fun _ _ _ h => h) (Or.inl ⟨by rfl, ?_⟩) ⟨Pq.out.c0, Pq.out.c1, Pa.out.c0, Pa.out.c1⟩ ?_
  · intro w hSw
    (try dsimp only at hSw)
    go_simp
  simp only [Act.put, List.setIfInBounds_toArray, List.set_cons_zero, List.set_cons_succ]
  refine wpAnyT_take (i := 6) (oi := { dst := some 56, op := Op.move (Operand.tmp 55), type := 4, pos := "outright.go:280", after := #[{ on := 5, ground := Ground.data }, { on := 2, ground := Ground.chain }], guard := none }) (v := (.bool false)) rfl (by kernel_rfl) (fun _ _ _ h => h) (Or.inl ⟨by rfl, ?_⟩) ⟨Pq.out.c0, Pq.out.c1, Pa.out.c0, Pa.out.c1⟩ ?_
  · intro w hSw
    (try dsimp only at hSw)
    go_simp
  simp only [Act.put, List.setIfInBounds_toArray, List.set_cons_zero, List.set_cons_succ]
  refine wpAnyT_take (i := 7) (oi := { dst := some 57, op := Op.load 24 (Operand.tmp 7), type := 24, pos := "outright.go:280", after := #[{ on := 6, ground := Ground.guard }], guard := some (6, false) }) (v := (.agg #[(.bool nq), (.slice adq xq.length qq)])) rfl (by kernel_rfl) (fun _ _ _ h => h) (Or.inl ⟨by rfl, ?_⟩) ⟨Pq.out.c0, Pq.out.c1, Pa.out.c0, Pa.out.c1⟩ ?_
  · intro w hSw
    (try dsimp only at hSw)
    go_simp
  simp only [Act.put, List.setIfInBounds_toArray, List.set_cons_zero, List.set_cons_succ]
  refine wpAnyT_take (i := 9) (oi := { dst := some 59, op := Op.load 24 (Operand.tmp 2), type := 24, pos := "outright.go:280", after := #[{ on := 6, ground := Ground.guard }], guard := some (6, false) }) (v := (.agg #[(.bool na), (.slice ada xa.length ca)])) rfl (by kernel_rfl) (fun _ _ _ h => h) (Or.inl ⟨by rfl, ?_⟩) ⟨Pq.out.c0, Pq.out.c1, Pa.out.c0, Pa.out.c1⟩ ?_
  · intro w hSw
    (try dsimp only at hSw)
    go_simp
  simp only [Act.put, List.setIfInBounds_toArray, List.set_cons_zero, List.set_cons_succ]
  refine wpAnyT_one (i := 8) (o := { dst := some 58, op := Op.call { callee := Callee.value (Operand.func 6), args := #[Operand.tmp 57], argTypes := #[24] }, type := 3, pos := "outright.go:280", after := #[{ on := 7, ground := Ground.data }, { on := 6, ground := Ground.chain }, { on := 6, ground := Ground.guard }], guard := some (6, false) }) (by kernel_rfl) rfl (fun K hK => ?_)
  go_simp
  go_at_call 6
  refine (HZQ.out _ _ Zq.out.zi).mono ?_
  rintro e w13 ⟨rfl, b⟩
  replace Za := hid (Za.out.now b)
  replace Zq := hid (Zq.out.now b)
  replace Pa := hid (Pa.out.step b)
  replace Pq := hid (Pq.out.step b)
  replace HT := hid (HT.out.now b)
  replace HSg := hid (HSg.out.now b)
  replace HP := hid (HP.out.now b)
  replace G := hid (below_step G.out b)
  have lz14 := (show Below _ _ _ from b).size
  clear b 
  refine hK.out _ _ (fun _ => ⟨Pq.out.c0, Pq.out.c1, Pa.out.c0, Pa.out.c1⟩) ?_
  clear hK
  refine wpAnyT_one (i := 10) (o := { dst := some 60, op := Op.call { callee := Callee.value (Operand.func 6), args := #[Operand.tmp 59], argTypes := #[24] }, type := 3, pos := "outright.go:280", after := #[{ on := 9, ground := Ground.data }, { on := 8, ground := Ground.chain }, { on := 6, ground := Ground.guard }], guard := some (6, false) }) (by kernel_rfl) rfl (fun K hK => ?_)
  go_simp
  go_at_call 6
  refine (HZ.out _ _ Za.out).mono ?_
  rintro e w15 ⟨rfl, b⟩
  replace Za := hid (Za.out.now b)
  replace Zq := hid (Zq.out.now b)
  replace Pa := hid (Pa.out.step b)
  replace Pq := hid (Pq.out.step b)
  replace HT := hid (HT.out.now b)
  replace HSg := hid (HSg.out.now b)
  replace HP := hid (HP.out.now b)
  replace G := hid (below_step G.out b)
  have lz16 := (show Below _ _ _ from b).size
  clear b 
  refine hK.out _ _ (fun _ => ⟨Pq.out.c0, Pq.out.c1, Pa.out.c0, Pa.out.c1⟩) ?_
  clear hK
  refine wpAnyT_take (i := 11) (oi := { dst := some 61, op := Op.binOp BinOp.neq 3 (Operand.tmp 58) (Operand.tmp 60) 3, type := 4, pos := "outright.go:280", after := #[{ on := 8, ground := Ground.data }, { on := 10, ground := Ground.data }, { on := 6, ground := Ground.guard }], guard := some (6, false) }) (v := (.bool false)) rfl (by kernel_rfl) (fun _ _ _ h => h) (Or.inl ⟨by rfl, ?_⟩) ⟨Pq.out.c0, Pq.out.c1, Pa.out.c0, Pa.out.c1⟩ ?_
  · intro w hSw
    (try dsimp only at hSw)
    go_simp
  simp only [Act.put, List.setIfInBounds_toArray, List.set_cons_zero, List.set_cons_succ]
  refine wpAnyT_one (i := 12) (o := { dst := some 62, op := Op.pick (Operand.tmp 56) (Operand.const (Value.bool true)) (Operand.tmp 61), type := 4, pos := "outright.go:280", after := #[{ on := 6, ground := Ground.data }, { on := 11, ground := Ground.data }], guard := none }) (by kernel_rfl) rfl (fun K hK => ?_)
  go_simp
  refine hK.out _ _ (fun h => absurd h (by decide)) ?_
  clear hK
  try simp only [Act.put]
  refine wpAnyT_done (by kernel_rfl) ?_ _
  have ca0 := Pa.out.c0
  have ca1 := Pa.out.c1
  go_wp2_with fail
  clear ca0 ca1
  refine (abs_z Za.out).mono ?_
  rintro e w17 ⟨r0, rfl, m0, b⟩
  obtain ⟨nb, xb, adb, qb, rfl, -, -, -, -, -⟩ := id m0
  replace Za := hid (Za.out.now b)
  replace Zq := hid (Zq.out.now b)
  replace Pa := hid (Pa.out.step b)
  replace Pq := hid (Pq.out.step b)
  replace HT := hid (HT.out.now b)
  replace HSg := hid (HSg.out.now b)
  replace HP := hid (HP.out.now b)
  replace G := hid (below_step G.out b)
  have lz18 := (show Below _ _ _ from b).size
  have Zb := hid m0
  clear b m0
  go_wp2_with fail
  refine (text_z Zb.out.zi (by decide) HSg.out).mono ?_
  rintro e w19 ⟨rfl, b⟩
  replace Za := hid (Za.out.now b)
  replace Zq := hid (Zq.out.now b)
  replace Zb := hid (Zb.out.now b)
  replace Pa := hid (Pa.out.step b)
  replace Pq := hid (Pq.out.step b)
  replace HT := hid (HT.out.now b)
  replace HSg := hid (HSg.out.now b)
  replace HP := hid (HP.out.now b)
  replace G := hid (below_step G.out b)
  have lz20 := (show Below _ _ _ from b).size
  clear b 
  have LEN : ((ztxt (A.natAbs : Int)).size : Int) = (D : Int) := by rw [HTX.out]
  have hx := HX.out
  have hxx := HXX.out
  have k1 : (X != (D : Int) - 1) = false := by rw [bne_eq_false_iff_eq]; omega
  clear hx hxx
  have hxx := HXX.out
  have hxn := HXN.out
  have hxD := HXD.out
  have k2 : ¬ X < (n : Int) := by omega
  have J1 : Hid (x - n + 1 ≤ 100000000) := by unfold Hid; omega
  have T1 : Hid (x - n + 1 ≤ D) := by unfold Hid; omega
  have E1 : Hid (X - (n : Int) + 1 = ((x - n + 1 : Nat) : Int)) := by unfold Hid; omega
  have wn1 : IntKind.i64.wrap (X - (n : Int)) = X - (n : Int) := wrap_is (by omega) (by omega)
  have wn2 : IntKind.i64.wrap (X - (n : Int) + 1) = X - (n : Int) + 1 := wrap_is (by omega) (by omega)
  clear hxx hxn hxD
  go_wp2_with fail
  refine (ten_fit HSg.out J1.out (HSM.out _ T1.out) E1.out).mono ?_
  rintro e w21 ⟨r0, rfl, m0, b⟩
  obtain ⟨nt, xt, adt, qt, rfl, -, -, -, -, -⟩ := id m0
  replace Za := hid (Za.out.now b)
  replace Zq := hid (Zq.out.now b)
  replace Zb := hid (Zb.out.now b)
  replace Pa := hid (Pa.out.step b)
  replace Pq := hid (Pq.out.step b)
  replace HT := hid (HT.out.now b)
  replace HSg := hid (HSg.out.now b)
  replace HP := hid (HP.out.now b)
  replace G := hid (below_step G.out b)
  have lz22 := (show Below _ _ _ from b).size
  have Zt := hid m0
  clear b m0
  obtain ⟨V23, hW⟩ : ∃ V23, w21.alloc (duo (.bool nt) (.slice adt xt.length qt)) = V23 := ⟨_, rfl⟩
  obtain ⟨kW, sz23⟩ := alloc1 w21 (duo (.bool nt) (.slice adt xt.length qt))
  rw [hW] at kW sz23
  replace Za := hid (Za.out.now kW)
  replace Zq := hid (Zq.out.now kW)
  replace Zb := hid (Zb.out.now kW)
  replace Zt := hid (Zt.out.now kW)
  replace Pa := hid (Pa.out.step kW)
  replace Pq := hid (Pq.out.step kW)
  replace HT := hid (HT.out.now kW)
  replace HSg := hid (HSg.out.now kW)
  replace HP := hid (HP.out.now kW)
  replace G := hid (below_step G.out kW)
  have lz24 := (show Below _ _ _ from kW).size
  have Pt : Hid (Duo V23 (w21.heap.size) (.bool nt) (.slice adt xt.length qt)) := by unfold Hid; rw [← hW]; exact duo_at (by simp)
  clear kW
  have HC1 : Hid (∀ w' v u l, Zi w' v ((A - sgd A Q * ((10 ^ (x - n + 1) : Nat) : Int)) + (A - sgd A Q * ((10 ^ (x - n + 1) : Nat) : Int))) l → Zi w' u ((10 ^ (x - n + 1) : Nat) : Int) (1048576 + 1) → Calls Tryz.prog 13 #[v, u] w' fun e w'' => e = .returned (.int .i64 0) ∧ Below w'.heap.size w' w'') := fun w' v u l h h' => by
    have p := cmpAbs_z h h'
    rw [Int.natAbs_natCast] at p
    rw [show cmpI (((A - sgd A Q * ((10 ^ (x - n + 1) : Nat) : Int)) + (A - sgd A Q * ((10 ^ (x - n + 1) : Nat) : Int))).natAbs : Int) ((10 ^ (x - n + 1) : Nat) : Int) = 0 from by rw [HQ.out, cmpI_self]] at p
    exact p
  have EW := hid hW
  clear hW
  go_wp2_with fail
  rw [EW.out]
  clear EW
  refine wp_region_tail (fun w' => w'.cell? ⟨w.heap.size, 0, none⟩ = some (.bool na) ∧ w'.cell? ⟨w.heap.size, 1, none⟩ = some (.slice ada xa.length ca) ∧ w'.cell? ⟨w7.heap.size, 0, none⟩ = some (.bool nq) ∧ w'.cell? ⟨w7.heap.size, 1, none⟩ = some (.slice adq xq.length qq) ∧ w'.cell? ⟨w21.heap.size, 0, none⟩ = some (.bool nt) ∧ w'.cell? ⟨w21.heap.size, 1, none⟩ = some (.slice adt xt.length qt)) 8 (by kernel_rfl) ?_
  obtain ⟨D25, hD⟩ : ∃ D25, V23.drew = D25 := ⟨_, rfl⟩
  have b : Below V23.heap.size V23 D25 := by rw [← hD]; exact (Below.refl _ _).drew
  rw [hD]
  clear hD
  replace Za := hid (Za.out.now b)
  replace Zq := hid (Zq.out.now b)
  replace Zb := hid (Zb.out.now b)
  replace Zt := hid (Zt.out.now b)
  replace Pa := hid (Pa.out.step b)
  replace Pq := hid (Pq.out.step b)
  replace Pt := hid (Pt.out.step b)
  replace HT := hid (HT.out.now b)
  replace HSg := hid (HSg.out.now b)
  replace HP := hid (HP.out.now b)
  replace G := hid (below_step G.out b)
  have lz26 := (show Below _ _ _ from b).size
  clear b
  refine wpAnyT_take (i := 0) (oi := { dst := some 94, op := Op.load 24 (Operand.tmp 2), type := 24, pos := "outright.go:291", after := #[], guard := none }) (v := (.agg #[(.bool na), (.slice ada xa.length ca)])) rfl (by kernel_rfl) (fun _ _ _ h => h) (Or.inl ⟨by rfl, ?_⟩) ⟨Pa.out.c0, Pa.out.c1, Pq.out.c0, Pq.out.c1, Pt.out.c0, Pt.out.c1⟩ ?_
  · intro w hSw
    (try dsimp only at hSw)
    go_simp
  simp only [Act.put, List.setIfInBounds_toArray, List.set_cons_zero, List.set_cons_succ]
  refine wpAnyT_take (i := 1) (oi := { dst := some 95, op := Op.load 24 (Operand.tmp 7), type := 24, pos := "outright.go:291", after := #[], guard := none }) (v := (.agg #[(.bool nq), (.slice adq xq.length qq)])) rfl (by kernel_rfl) (fun _ _ _ h => h) (Or.inl ⟨by rfl, ?_⟩) ⟨Pa.out.c0, Pa.out.c1, Pq.out.c0, Pq.out.c1, Pt.out.c0, Pt.out.c1⟩ ?_
  · intro w hSw
    (try dsimp only at hSw)
    go_simp
  simp only [Act.put, List.setIfInBounds_toArray, List.set_cons_zero, List.set_cons_succ]
  refine wpAnyT_take (i := 2) (oi := { dst := some 96, op := Op.load 24 (Operand.tmp 11), type := 24, pos := "outright.go:291", after := #[], guard := none }) (v := (.agg #[(.bool nt), (.slice adt xt.length qt)])) rfl (by kernel_rfl) (fun _ _ _ h => h) (Or.inl ⟨by rfl, ?_⟩) ⟨Pa.out.c0, Pa.out.c1, Pq.out.c0, Pq.out.c1, Pt.out.c0, Pt.out.c1⟩ ?_
  · intro w hSw
    (try dsimp only at hSw)
    go_simp
  simp only [Act.put, List.setIfInBounds_toArray, List.set_cons_zero, List.set_cons_succ]
  refine wpAnyT_take (i := 6) (oi := { dst := some 100, op := Op.load 24 (Operand.tmp 11), type := 24, pos := "outright.go:291", after := #[], guard := none }) (v := (.agg #[(.bool nt), (.slice adt xt.length qt)])) rfl (by kernel_rfl) (fun _ _ _ h => h) (Or.inl ⟨by rfl, ?_⟩) ⟨Pa.out.c0, Pa.out.c1, Pq.out.c0, Pq.out.c1, Pt.out.c0, Pt.out.c1⟩ ?_
  · intro w hSw
    (try dsimp only at hSw)
    go_simp
  simp only [Act.put, List.setIfInBounds_toArray, List.set_cons_zero, List.set_cons_succ]
  refine wpAnyT_one (i := 3) (o := { dst := some 97, op := Op.call { callee := Callee.value (Operand.func 11), args := #[Operand.tmp 95, Operand.tmp 96], argTypes := #[24, 24] }, type := 24, pos := "outright.go:291", after := #[{ on := 1, ground := Ground.data }, { on := 2, ground := Ground.data }], guard := none }) (by kernel_rfl) rfl (fun K hK => ?_)
  go_simp
  go_at_call 11
  refine (mul_z Zq.out.zi Zt.out.zi (by decide)).mono ?_
  rintro e w27 ⟨r0, rfl, m0, b⟩
  obtain ⟨nm2, xm2, adm2, qm2, rfl, -, -, -, -, -⟩ := id m0
  replace Za := hid (Za.out.now b)
  replace Zq := hid (Zq.out.now b)
  replace Zb := hid (Zb.out.now b)
  replace Zt := hid (Zt.out.now b)
  replace Pa := hid (Pa.out.step b)
  replace Pq := hid (Pq.out.step b)
  replace Pt := hid (Pt.out.step b)
  replace HT := hid (HT.out.now b)
  replace HSg := hid (HSg.out.now b)
  replace HP := hid (HP.out.now b)
  replace G := hid (below_step G.out b)
  have lz28 := (show Below _ _ _ from b).size
  have Zm2 := hid m0
  clear b m0
  refine hK.out _ _ (fun _ => ⟨Pa.out.c0, Pa.out.c1, Pq.out.c0, Pq.out.c1, Pt.out.c0, Pt.out.c1⟩) ?_
  clear hK
  refine wpAnyT_one (i := 4) (o := { dst := some 98, op := Op.call { callee := Callee.value (Operand.func 15), args := #[Operand.tmp 94, Operand.tmp 97], argTypes := #[24, 24] }, type := 24, pos := "outright.go:291", after := #[{ on := 0, ground := Ground.data }, { on := 3, ground := Ground.data }, { on := 3, ground := Ground.chain }], guard := none }) (by kernel_rfl) rfl (fun K hK => ?_)
  go_simp
  go_at_call 15
  refine (sub_z Za.out Zm2.out.zi (by decide) (by decide)).mono ?_
  rintro e w29 ⟨r0, rfl, m0, b⟩
  obtain ⟨ns, xs, ads, qs, rfl, -, -, -, -, -⟩ := id m0
  replace Za := hid (Za.out.now b)
  replace Zq := hid (Zq.out.now b)
  replace Zb := hid (Zb.out.now b)
  replace Zt := hid (Zt.out.now b)
  replace Zm2 := hid (Zm2.out.now b)
  replace Pa := hid (Pa.out.step b)
  replace Pq := hid (Pq.out.step b)
  replace Pt := hid (Pt.out.step b)
  replace HT := hid (HT.out.now b)
  replace HSg := hid (HSg.out.now b)
  replace HP := hid (HP.out.now b)
  replace G := hid (below_step G.out b)
  have lz30 := (show Below _ _ _ from b).size
  have Zs := hid m0
  clear b m0
  refine hK.out _ _ (fun _ => ⟨Pa.out.c0, Pa.out.c1, Pq.out.c0, Pq.out.c1, Pt.out.c0, Pt.out.c1⟩) ?_
  clear hK
  refine wpAnyT_one (i := 5) (o := { dst := some 99, op := Op.call { callee := Callee.value (Operand.func 14), args := #[Operand.tmp 98], argTypes := #[24] }, type := 24, pos := "outright.go:291", after := #[{ on := 4, ground := Ground.data }, { on := 4, ground := Ground.chain }], guard := none }) (by kernel_rfl) rfl (fun K hK => ?_)
  go_simp
  go_at_call 14
  refine (twice_z Zs.out.zi (by decide)).mono ?_
  rintro e w31 ⟨r0, rfl, m0, b⟩
  obtain ⟨nw2, xw2, adw2, qw2, rfl, -, -, -, -, -⟩ := id m0
  replace Za := hid (Za.out.now b)
  replace Zq := hid (Zq.out.now b)
  replace Zb := hid (Zb.out.now b)
  replace Zt := hid (Zt.out.now b)
  replace Zm2 := hid (Zm2.out.now b)
  replace Zs := hid (Zs.out.now b)
  replace Pa := hid (Pa.out.step b)
  replace Pq := hid (Pq.out.step b)
  replace Pt := hid (Pt.out.step b)
  replace HT := hid (HT.out.now b)
  replace HSg := hid (HSg.out.now b)
  replace HP := hid (HP.out.now b)
  replace G := hid (below_step G.out b)
  have lz32 := (show Below _ _ _ from b).size
  have Zw2 := hid m0
  clear b m0
  refine hK.out _ _ (fun _ => ⟨Pa.out.c0, Pa.out.c1, Pq.out.c0, Pq.out.c1, Pt.out.c0, Pt.out.c1⟩) ?_
  clear hK
  refine wpAnyT_one (i := 7) (o := { dst := some 101, op := Op.call { callee := Callee.value (Operand.func 13), args := #[Operand.tmp 99, Operand.tmp 100], argTypes := #[24, 24] }, type := 3, pos := "outright.go:291", after := #[{ on := 5, ground := Ground.data }, { on := 6, ground := Ground.data }, { on := 5, ground := Ground.chain }], guard := none }) (by kernel_rfl) rfl (fun K hK => ?_)
  go_simp
  go_at_call 13
  refine (HC1.out _ _ _ _ Zw2.out.zi Zt.out.zi).mono ?_
  rintro e w33 ⟨rfl, b⟩
  replace Za := hid (Za.out.now b)
  replace Zq := hid (Zq.out.now b)
  replace Zb := hid (Zb.out.now b)
  replace Zt := hid (Zt.out.now b)
  replace Zm2 := hid (Zm2.out.now b)
  replace Zs := hid (Zs.out.now b)
  replace Zw2 := hid (Zw2.out.now b)
  replace Pa := hid (Pa.out.step b)
  replace Pq := hid (Pq.out.step b)
  replace Pt := hid (Pt.out.step b)
  replace HT := hid (HT.out.now b)
  replace HSg := hid (HSg.out.now b)
  replace HP := hid (HP.out.now b)
  replace G := hid (below_step G.out b)
  have lz34 := (show Below _ _ _ from b).size
  clear b 
  refine hK.out _ _ (fun _ => ⟨Pa.out.c0, Pa.out.c1, Pq.out.c0, Pq.out.c1, Pt.out.c0, Pt.out.c1⟩) ?_
  clear hK
  refine wpAnyT_one (i := 8) (o := { dst := some 12, op := Op.assign (Operand.tmp 101), type := 3, pos := "outright.go:291", after := #[{ on := 7, ground := Ground.data }, { on := 7, ground := Ground.chain }, { on := 0, ground := Ground.phase }, { on := 1, ground := Ground.phase }, { on := 2, ground := Ground.phase }, { on := 3, ground := Ground.phase }, { on := 4, ground := Ground.phase }, { on := 5, ground := Ground.phase }, { on := 6, ground := Ground.phase }, { on := 7, ground := Ground.phase }], guard := none }) (by kernel_rfl) rfl (fun K hK => ?_)
  go_simp
  refine hK.out _ _ (fun h => absurd h (by decide)) ?_
  clear hK
  try simp only [Act.put]
  refine wpAnyT_done (by kernel_rfl) ?_ _
  clear Zm2
  clear Zs
  clear Zw2
  have hx := HX.out
  have hxx := HXX.out
  have k3 : (X == (D : Int)) = false := by rw [beq_eq_false_iff_ne]; omega
  clear hx hxx
  obtain ⟨bq, oq, xw, lq0, eaq, cw, xw0, xw2⟩ := word0 Zq.out.zi (by unfold sgd; have := QP.out; split <;> omega)
  rw [sgd_abs, HEV.out] at xw2
  have lq : (0 : Int) < (xq.length : Int) := by omega
  subst eaq
  have xt : xw.tmod 2 = 0 := by rw [Int.tmod_eq_emod_of_nonneg xw0]; exact xw2
  have k4 : ¬ (0 : Int) < 0 := by decide
  have cq0 := Pq.out.c0
  have cq1 := Pq.out.c1
  go_wp2
  go_ret
  exact ⟨rfl, G.out⟩

set_option maxHeartbeats 6400000 in
set_option maxRecDepth 100000 in
theorem rounds_3 {w : World} {va : Value} {A : Int} (ha : Zi w va A 1048576) {n : Nat} (hT : Tab w) (hS : Sg w) (hP : Pw7 w) {D Q x : Nat} {ds : List UInt8} (h1 : 1 ≤ n) (h2 : n ≤ 40) (hA : A ≠ 0) (hD : (txtL 10 A.natAbs).length = D) (hr : rdL (txtL 10 A.natAbs) n = (ds, x)) (hdl : ds.length = n) (hg : Good 10 ds) (hQ : ofD 10 (dsL ds) = Q) (hlow : 10 ^ (n - 1) ≤ Q) (hD1 : 1 ≤ D) (hx : x = D) (hxn : n < x) (hQ1 : Q = 10 ^ (n - 1)) (hq : ((A - sgd A Q * ((10 ^ (x - n + 1) : Nat) : Int)) + (A - sgd A Q * ((10 ^ (x - n + 1) : Nat) : Int))).natAbs ≤ 10 ^ (x - n)) :
    Calls Tryz.prog 3 #[va, .int .i64 (n : Int)] w fun e w' => e = .returned (.bool true) ∧ Below w.heap.size w w' := by
  obtain ⟨hsz, hsm⟩ := rounds_size ha hA
  rw [hD] at hsz hsm
  have HLD := hid (fun h => rounds_lead (N := A.natAbs) (n := n) (by omega) h1 h)
  have HLEN : Hid ((txtL 10 A.natAbs).length ≤ 67108865) := by unfold Hid; rw [hD]; exact hsz
  have hDs : D ≤ 67108865 := hsz
  have hxD : x ≤ D := by omega
  have hx8 : x ≤ 100000000 := by omega
  have HR := hid hr
  have HDL := hid hdl
  have HGd := hid hg
  have HQQ := hid hQ
  have HLOW := hid hlow
  have HSM := hid hsm
  have HQ := hid hq
  have QP : Hid (0 < Q) := by
    have := Nat.pow_pos (n := n - 1) (show 0 < 10 by decide)
    unfold Hid
    omega
  have HAn := hid hA
  have HTX : Hid ((ztxt (A.natAbs : Int)).size = D) := by
    unfold Hid ztxt
    rw [if_neg (by omega), Int.natAbs_natCast]
    exact (mk_size _).trans hD
  have n1 : ¬ (n : Int) < 1 := by omega
  have n2 : ¬ (40 : Int) < (n : Int) := by omega
  have q1 : ((0 : Int) == 0) = true := rfl
  have q2 : ((0 : Int) != 0) = false := rfl
  have HZ : Hid (∀ w' v, Zi w' v A 1048576 → _) := fun (w' : World) (v : Value) (h : Zi w' v A 1048576) => sign_z h
  have HZQ : Hid (∀ w' v, Zi w' v (sgd A Q) 3 → Calls Tryz.prog 6 #[v] w' fun e w'' => e = .returned (.int .i64 (cmpI A 0)) ∧ Below w'.heap.size w' w'') := fun w' v h => by
    have q := sign_z h
    rw [sgd_sign QP.out hA] at q
    exact q
  have q3 : (cmpI A 0 == 0) = false := by rw [beq_eq_false_iff_ne]; exact fun e => hA (cmpI_zero e)
  have q4 : (cmpI A 0 != cmpI A 0) = false := by simp
  generalize cmpI A 0 = CA at *
  have HX := hid hx
  have HXN := hid hxn
  obtain ⟨X, hX⟩ : ∃ X : Int, (x : Int) = X := ⟨_, rfl⟩
  have HXX := hid hX
  have HXD := hid hxD
  have HX8 := hid hx8
  clear hsz hsm hr hdl hg hQ hlow hq hA hD hx hX hxn hxD hx8
  have HQ1 := hid hQ1
  clear hQ1
  have HT := hid hT
  have HSg := hid hS
  have HP := hid hP
  clear hT hS hP
  have za0 := ha
  obtain ⟨na, xa, ada, ca, rfl, -, -, -⟩ := ha
  obtain ⟨W0, hW⟩ : ∃ W0, w.alloc (duo (.bool na) (.slice ada xa.length ca)) = W0 := ⟨_, rfl⟩
  obtain ⟨b0, sz0⟩ := alloc1 w (duo (.bool na) (.slice ada xa.length ca))
  rw [hW] at b0 sz0
  have Pa : Hid (Duo W0 (w.heap.size) (.bool na) (.slice ada xa.length ca)) := by unfold Hid; rw [← hW]; exact duo_at (by simp)
  have Za := hid (za0.now b0)
  clear za0
  have G := hid b0
  clear b0
  have EW := hid hW
  clear hW
  go_enter Tryz.func3, Tryz.ntmps3
  replace HT := hid (HT.out.now G.out)
  replace HSg := hid (HSg.out.now G.out)
  replace HP := hid (HP.out.now G.out)
  skip
  go_wp2_with fail
  rw [EW.out]
  clear EW
  refine (awake7 HT.out).mono ?_
  rintro e w1 ⟨rfl, b⟩
  replace Za := hid (Za.out.now b)
  replace Pa := hid (Pa.out.step b)
  replace HT := hid (HT.out.now b)
  replace HSg := hid (HSg.out.now b)
  replace HP := hid (HP.out.now b)
  replace G := hid (below_step G.out b)
  have lz2 := (show Below _ _ _ from b).size
  clear b 
  have ca0 := Pa.out.c0
  have ca1 := Pa.out.c1
  go_wp2_with fail
  clear ca0 ca1
  refine (sci_some Za.out (by decide) HAn.out h1 h2 HSg.out HP.out HLD.out HR.out HDL.out HX8.out HLEN.out).mono ?_
  rintro e w3 ⟨rfl, b⟩
  replace Za := hid (Za.out.now b)
  replace Pa := hid (Pa.out.step b)
  replace HT := hid (HT.out.now b)
  replace HSg := hid (HSg.out.now b)
  replace HP := hid (HP.out.now b)
  replace G := hid (below_step G.out b)
  have lz4 := (show Below _ _ _ from b).size
  clear b 
  have ca0 := Pa.out.c0
  have ca1 := Pa.out.c1
  go_wp2_with fail
  clear ca0 ca1
  refine (HZ.out _ _ Za.out).mono ?_
  rintro e w5 ⟨rfl, b⟩
  replace Za := hid (Za.out.now b)
  replace Pa := hid (Pa.out.step b)
  replace HT := hid (HT.out.now b)
  replace HSg := hid (HSg.out.now b)
  replace HP := hid (HP.out.now b)
  replace G := hid (below_step G.out b)
  have lz6 := (show Below _ _ _ from b).size
  clear b 
  go_wp2_with fail
  refine (written_any HSg.out h1 h2 HDL.out HGd.out HQQ.out HLOW.out HX8.out).mono ?_
  rintro e w7 ⟨r0, rfl, m0, b⟩
  obtain ⟨nq, xq, adq, qq, rfl, -, -, -, -, -⟩ := id m0
  replace Za := hid (Za.out.now b)
  replace Pa := hid (Pa.out.step b)
  replace HT := hid (HT.out.now b)
  replace HSg := hid (HSg.out.now b)
  replace HP := hid (HP.out.now b)
  replace G := hid (below_step G.out b)
  have lz8 := (show Below _ _ _ from b).size
  have Zq := hid m0
  clear b m0
  rw [HXX.out]
  obtain ⟨V9, hW⟩ : ∃ V9, w7.alloc (duo (.bool nq) (.slice adq xq.length qq)) = V9 := ⟨_, rfl⟩
  obtain ⟨kW, sz9⟩ := alloc1 w7 (duo (.bool nq) (.slice adq xq.length qq))
  rw [hW] at kW sz9
  replace Za := hid (Za.out.now kW)
  replace Zq := hid (Zq.out.now kW)
  replace Pa := hid (Pa.out.step kW)
  replace HT := hid (HT.out.now kW)
  replace HSg := hid (HSg.out.now kW)
  replace HP := hid (HP.out.now kW)
  replace G := hid (below_step G.out kW)
  have lz10 := (show Below _ _ _ from kW).size
  have Pq : Hid (Duo V9 (w7.heap.size) (.bool nq) (.slice adq xq.length qq)) := by unfold Hid; rw [← hW]; exact duo_at (by simp)
  clear kW
  have EW := hid hW
  clear hW
  go_wp2_with fail
  rw [EW.out]
  clear EW
  refine wp_region_tail (fun w' => w'.cell? ⟨w7.heap.size, 0, none⟩ = some (.bool nq) ∧ w'.cell? ⟨w7.heap.size, 1, none⟩ = some (.slice adq xq.length qq) ∧ w'.cell? ⟨w.heap.size, 0, none⟩ = some (.bool na) ∧ w'.cell? ⟨w.heap.size, 1, none⟩ = some (.slice ada xa.length ca)) 12 (by kernel_rfl) ?_
  obtain ⟨D11, hD⟩ : ∃ D11, V9.drew = D11 := ⟨_, rfl⟩
  have b : Below V9.heap.size V9 D11 := by rw [← hD]; exact (Below.refl _ _).drew
  rw [hD]
  clear hD
  replace Za := hid (Za.out.now b)
  replace Zq := hid (Zq.out.now b)
  replace Pa := hid (Pa.out.step b)
  replace Pq := hid (Pq.out.step b)
  replace HT := hid (HT.out.now b)
  replace HSg := hid (HSg.out.now b)
  replace HP := hid (HP.out.now b)
  replace G := hid (below_step G.out b)
  have lz12 := (show Below _ _ _ from b).size
  clear b
  refine wpAnyT_take (i := 0) (oi := { dst := some 50, op := Op.move (Operand.tmp 6), type := 26, pos := "outright.go:280", after := #[], guard := none }) (v := (.int .i64 0)) rfl (by kernel_rfl) (fun _ _ _ h => h) (Or.inl ⟨by rfl, ?_⟩) ⟨Pq.out.c0, Pq.out.c1, Pa.out.c0, Pa.out.c1⟩ ?_
  · intro w hSw
    (try dsimp only at hSw)
    go_simp
  simp only [Act.put, List.setIfInBounds_toArray, List.set_cons_zero, List.set_cons_succ]
  refine wpAnyT_take (i := 1) (oi := { dst := some 51, op := Op.binOp BinOp.neq 26 (Operand.tmp 50) (Operand.const (Value.int IntKind.i64 0)) 26, type := 4, pos := "outright.go:280", after := #[{ on := 0, ground := Ground.data }], guard := none }) (v := (.bool false)) rfl (by kernel_rfl) (fun _ _ _ h => h) (Or.inl ⟨by rfl, ?_⟩) ⟨Pq.out.c0, Pq.out.c1, Pa.out.c0, Pa.out.c1⟩ ?_
  · intro w hSw
    (try dsimp only at hSw)
    go_simp
  simp only [Act.put, List.setIfInBounds_toArray, List.set_cons_zero, List.set_cons_succ]
  refine wpAnyT_take (i := 2) (oi := { dst := some 52, op := Op.move (Operand.tmp 51), type := 4, pos := "outright.go:280", after := #[{ on := 1, ground := Ground.data }], guard := none }) (v := (.bool false)) rfl (by kernel_rfl) (fun _ _ _ h => h) (Or.inl ⟨by rfl, ?_⟩) ⟨Pq.out.c0, Pq.out.c1, Pa.out.c0, Pa.out.c1⟩ ?_
  · intro w hSw
    (try dsimp only at hSw)
    go_simp
  simp only [Act.put, List.setIfInBounds_toArray, List.set_cons_zero, List.set_cons_succ]
  refine wpAnyT_take (i := 3) (oi := { dst := some 53, op := Op.move (Operand.tmp 9), type := 4, pos := "outright.go:280", after := #[{ on := 2, ground := Ground.guard }], guard := some (2, false) }) (v := (.bool true)) rfl (by kernel_rfl) (fun _ _ _ h => h) (Or.inl ⟨by rfl, ?_⟩) ⟨Pq.out.c0, Pq.out.c1, Pa.out.c0, Pa.out.c1⟩ ?_
  · intro w hSw
    (try dsimp only at hSw)
    go_simp
  simp only [Act.put, List.setIfInBounds_toArray, List.set_cons_zero, List.set_cons_succ]
  refine wpAnyT_take (i := 4) (oi := { dst := some 54, op := Op.unOp UnOp.not 4 (Operand.tmp 53), type := 4, pos := "outright.go:280", after := #[{ on := 3, ground := Ground.data }, { on := 2, ground := Ground.guard }], guard := some (2, false) }) (v := (.bool false)) rfl (by kernel_rfl) (fun _ _ _ h => h) (Or.inl ⟨by rfl, ?_⟩) ⟨Pq.out.c0, Pq.out.c1, Pa.out.c0, Pa.out.c1⟩ ?_
  · intro w hSw
    (try dsimp only at hSw)
    go_simp
  simp only [Act.put, List.setIfInBounds_toArray, List.set_cons_zero, List.set_cons_succ]
  refine wpAnyT_take (i := 5) (oi := { dst := some 55, op := Op.pick (Operand.tmp 52) (Operand.const (Value.bool true)) (Operand.tmp 54), type := 4, pos := "outright.go:280", after := #[{ on := 2, ground := Ground.data }, { on := 4, ground := Ground.data }], guard := none }) (v := (.bool false)) rfl (by kernel_rfl) (fun _ _ _ h => h) (Or.inl ⟨by rfl, ?_⟩) ⟨Pq.out.c0, Pq.out.c1, Pa.out.c0, Pa.out.c1⟩ ?_
  · intro w hSw
    (try dsimp only at hSw)
    go_simp
  simp only [Act.put, List.setIfInBounds_toArray, List.set_cons_zero, List.set_cons_succ]
  refine wpAnyT_take (i := 6) (oi := { dst := some 56, op := Op.move (Operand.tmp 55), type := 4, pos := "outright.go:280", after := #[{ on := 5, ground := Ground.data }, { on := 2, ground := Ground.chain }], guard := none }) (v := (.bool false)) rfl (by kernel_rfl) (fun _ _ _ h => h) (Or.inl ⟨by rfl, ?_⟩) ⟨Pq.out.c0, Pq.out.c1, Pa.out.c0, Pa.out.c1⟩ ?_
  · intro w hSw
    (try dsimp only at hSw)
    go_simp
  simp only [Act.put, List.setIfInBounds_toArray, List.set_cons_zero, List.set_cons_succ]
  refine wpAnyT_take (i := 7) (oi := { dst := some 57, op := Op.load 24 (Operand.tmp 7), type := 24, pos := "outright.go:280", after := #[{ on := 6, ground := Ground.guard }], guard := some (6, false) }) (v := (.agg #[(.bool nq), (.slice adq xq.length qq)])) rfl (by kernel_rfl) (fun _ _ _ h => h) (Or.inl ⟨by rfl, ?_⟩) ⟨Pq.out.c0, Pq.out.c1, Pa.out.c0, Pa.out.c1⟩ ?_
  · intro w hSw
    (try dsimp only at hSw)
    go_simp
  simp only [Act.put, List.setIfInBounds_toArray, List.set_cons_zero, List.set_cons_succ]
  refine wpAnyT_take (i := 9) (oi := { dst := some 59, op := Op.load 24 (Operand.tmp 2), type := 24, pos := "outright.go:280", after := #[{ on := 6, ground := Ground.guard }], guard := some (6, false) }) (v := (.agg #[(.bool na), (.slice ada xa.length ca)])) rfl (by kernel_rfl) (fun _ _ _ h => h) (Or.inl ⟨by rfl, ?_⟩) ⟨Pq.out.c0, Pq.out.c1, Pa.out.c0, Pa.out.c1⟩ ?_
  · intro w hSw
    (try dsimp only at hSw)
    go_simp
  simp only [Act.put, List.setIfInBounds_toArray, List.set_cons_zero, List.set_cons_succ]
  refine wpAnyT_one (i := 8) (o := { dst := some 58, op := Op.call { callee := Callee.value (Operand.func 6), args := #[Operand.tmp 57], argTypes := #[24] }, type := 3, pos := "outright.go:280", after := #[{ on := 7, ground := Ground.data }, { on := 6, ground := Ground.chain }, { on := 6, ground := Ground.guard }], guard := some (6, false) }) (by kernel_rfl) rfl (fun K hK => ?_)
  go_simp
  go_at_call 6
  refine (HZQ.out _ _ Zq.out.zi).mono ?_
  rintro e w13 ⟨rfl, b⟩
  replace Za := hid (Za.out.now b)
  replace Zq := hid (Zq.out.now b)
  replace Pa := hid (Pa.out.step b)
  replace Pq := hid (Pq.out.step b)
  replace HT := hid (HT.out.now b)
  replace HSg := hid (HSg.out.now b)
  replace HP := hid (HP.out.now b)
  replace G := hid (below_step G.out b)
  have lz14 := (show Below _ _ _ from b).size
  clear b 
  refine hK.out _ _ (fun _ => ⟨Pq.out.c0, Pq.out.c1, Pa.out.c0, Pa.out.c1⟩) ?_
  clear hK
  refine wpAnyT_one (i := 10) (o := { dst := some 60, op := Op.call { callee := Callee.value (Operand.func 6), args := #[Operand.tmp 59], argTypes := #[24] }, type := 3, pos := "outright.go:280", after := #[{ on := 9, ground := Ground.data }, { on := 8, ground := Ground.chain }, { on := 6, ground := Ground.guard }], guard := some (6, false) }) (by kernel_rfl) rfl (fun K hK => ?_)
  go_simp
  go_at_call 6
  refine (HZ.out _ _ Za.out).mono ?_
  rintro e w15 ⟨rfl, b⟩
  replace Za := hid (Za.out.now b)
  replace Zq := hid (Zq.out.now b)
  replace Pa := hid (Pa.out.step b)
  replace Pq := hid (Pq.out.step b)
  replace HT := hid (HT.out.now b)
  replace HSg := hid (HSg.out.now b)
  replace HP := hid (HP.out.now b)
  replace G := hid (below_step G.out b)
  have lz16 := (show Below _ _ _ from b).size
  clear b 
  refine hK.out _ _ (fun _ => ⟨Pq.out.c0, Pq.out.c1, Pa.out.c0, Pa.out.c1⟩) ?_
  clear hK
  refine wpAnyT_take (i := 11) (oi := { dst := some 61, op := Op.binOp BinOp.neq 3 (Operand.tmp 58) (Operand.tmp 60) 3, type := 4, pos := "outright.go:280", after := #[{ on := 8, ground := Ground.data }, { on := 10, ground := Ground.data }, { on := 6, ground := Ground.guard }], guard := some (6, false) }) (v := (.bool false)) rfl (by kernel_rfl) (fun _ _ _ h => h) (Or.inl ⟨by rfl, ?_⟩) ⟨Pq.out.c0, Pq.out.c1, Pa.out.c0, Pa.out.c1⟩ ?_
  · intro w hSw
    (try dsimp only at hSw)
    go_simp
  simp only [Act.put, List.setIfInBounds_toArray, List.set_cons_zero, List.set_cons_succ]
  refine wpAnyT_one (i := 12) (o := { dst := some 62, op := Op.pick (Operand.tmp 56) (Operand.const (Value.bool true)) (Operand.tmp 61), type := 4, pos := "outright.go:280", after := #[{ on := 6, ground := Ground.data }, { on := 11, ground := Ground.data }], guard := none }) (by kernel_rfl) rfl (fun K hK => ?_)
  go_simp
  refine hK.out _ _ (fun h => absurd h (by decide)) ?_
  clear hK
  try simp only [Act.put]
  refine wpAnyT_done (by kernel_rfl) ?_ _
  have ca0 := Pa.out.c0
  have ca1 := Pa.out.c1
  go_wp2_with fail
  clear ca0 ca1
  refine (abs_z Za.out).mono ?_
  rintro e w17 ⟨r0, rfl, m0, b⟩
  obtain ⟨nb, xb, adb, qb, rfl, -, -, -, -, -⟩ := id m0
  replace Za := hid (Za.out.now b)
  replace Zq := hid (Zq.out.now b)
  replace Pa := hid (Pa.out.step b)
  replace Pq := hid (Pq.out.step b)
  replace HT := hid (HT.out.now b)
  replace HSg := hid (HSg.out.now b)
  replace HP := hid (HP.out.now b)
  replace G := hid (below_step G.out b)
  have lz18 := (show Below _ _ _ from b).size
  have Zb := hid m0
  clear b m0
  go_wp2_with fail
  refine (text_z Zb.out.zi (by decide) HSg.out).mono ?_
  rintro e w19 ⟨rfl, b⟩
  replace Za := hid (Za.out.now b)
  replace Zq := hid (Zq.out.now b)
  replace Zb := hid (Zb.out.now b)
  replace Pa := hid (Pa.out.step b)
  replace Pq := hid (Pq.out.step b)
  replace HT := hid (HT.out.now b)
  replace HSg := hid (HSg.out.now b)
  replace HP := hid (HP.out.now b)
  replace G := hid (below_step G.out b)
  have lz20 := (show Below _ _ _ from b).size
  clear b 
  have LEN : ((ztxt (A.natAbs : Int)).size : Int) = (D : Int) := by rw [HTX.out]
  have hx := HX.out
  have hxx := HXX.out
  have k1 : (X != (D : Int) - 1) = true := by simp; omega
  have k1b : (X != (D : Int)) = false := by rw [bne_eq_false_iff_eq]; omega
  clear hx hxx
  have hxx := HXX.out
  have hxn := HXN.out
  have hxD := HXD.out
  have k2 : ¬ X < (n : Int) := by omega
  have J1 : Hid (x - n + 1 ≤ 100000000) := by unfold Hid; omega
  have T1 : Hid (x - n + 1 ≤ D) := by unfold Hid; omega
  have E1 : Hid (X - (n : Int) + 1 = ((x - n + 1 : Nat) : Int)) := by unfold Hid; omega
  have wn1 : IntKind.i64.wrap (X - (n : Int)) = X - (n : Int) := wrap_is (by omega) (by omega)
  have wn2 : IntKind.i64.wrap (X - (n : Int) + 1) = X - (n : Int) + 1 := wrap_is (by omega) (by omega)
  clear hxx hxn hxD
  go_wp2_with fail
  refine (ten_fit HSg.out J1.out (HSM.out _ T1.out) E1.out).mono ?_
  rintro e w21 ⟨r0, rfl, m0, b⟩
  obtain ⟨nt, xt, adt, qt, rfl, -, -, -, -, -⟩ := id m0
  replace Za := hid (Za.out.now b)
  replace Zq := hid (Zq.out.now b)
  replace Zb := hid (Zb.out.now b)
  replace Pa := hid (Pa.out.step b)
  replace Pq := hid (Pq.out.step b)
  replace HT := hid (HT.out.now b)
  replace HSg := hid (HSg.out.now b)
  replace HP := hid (HP.out.now b)
  replace G := hid (below_step G.out b)
  have lz22 := (show Below _ _ _ from b).size
  have Zt := hid m0
  clear b m0
  obtain ⟨V23, hW⟩ : ∃ V23, w21.alloc (duo (.bool nt) (.slice adt xt.length qt)) = V23 := ⟨_, rfl⟩
  obtain ⟨kW, sz23⟩ := alloc1 w21 (duo (.bool nt) (.slice adt xt.length qt))
  rw [hW] at kW sz23
  replace Za := hid (Za.out.now kW)
  replace Zq := hid (Zq.out.now kW)
  replace Zb := hid (Zb.out.now kW)
  replace Zt := hid (Zt.out.now kW)
  replace Pa := hid (Pa.out.step kW)
  replace Pq := hid (Pq.out.step kW)
  replace HT := hid (HT.out.now kW)
  replace HSg := hid (HSg.out.now kW)
  replace HP := hid (HP.out.now kW)
  replace G := hid (below_step G.out kW)
  have lz24 := (show Below _ _ _ from kW).size
  have Pt : Hid (Duo V23 (w21.heap.size) (.bool nt) (.slice adt xt.length qt)) := by unfold Hid; rw [← hW]; exact duo_at (by simp)
  clear kW
  have HC1 : Hid (∀ w' v u l, Zi w' v ((A - sgd A Q * ((10 ^ (x - n + 1) : Nat) : Int)) + (A - sgd A Q * ((10 ^ (x - n + 1) : Nat) : Int))) l → Zi w' u ((10 ^ (x - n + 1) : Nat) : Int) (1048576 + 1) → _) := fun (w' : World) (v u : Value) (l : Nat) (h : Zi w' v ((A - sgd A Q * ((10 ^ (x - n + 1) : Nat) : Int)) + (A - sgd A Q * ((10 ^ (x - n + 1) : Nat) : Int))) l) (h' : Zi w' u ((10 ^ (x - n + 1) : Nat) : Int) (1048576 + 1)) => cmpAbs_z h h'
  generalize cmpI (((A - sgd A Q * ((10 ^ (x - n + 1) : Nat) : Int)) + (A - sgd A Q * ((10 ^ (x - n + 1) : Nat) : Int))).natAbs : Int) (((10 ^ (x - n + 1) : Nat) : Int).natAbs : Int) = C1 at HC1
  have EW := hid hW
  clear hW
  go_wp2_with fail
  rw [EW.out]
  clear EW
  refine wp_region_tail (fun w' => w'.cell? ⟨w.heap.size, 0, none⟩ = some (.bool na) ∧ w'.cell? ⟨w.heap.size, 1, none⟩ = some (.slice ada xa.length ca) ∧ w'.cell? ⟨w7.heap.size, 0, none⟩ = some (.bool nq) ∧ w'.cell? ⟨w7.heap.size, 1, none⟩ = some (.slice adq xq.length qq) ∧ w'.cell? ⟨w21.heap.size, 0, none⟩ = some (.bool nt) ∧ w'.cell? ⟨w21.heap.size, 1, none⟩ = some (.slice adt xt.length qt)) 8 (by kernel_rfl) ?_
  obtain ⟨D25, hD⟩ : ∃ D25, V23.drew = D25 := ⟨_, rfl⟩
  have b : Below V23.heap.size V23 D25 := by rw [← hD]; exact (Below.refl _ _).drew
  rw [hD]
  clear hD
  replace Za := hid (Za.out.now b)
  replace Zq := hid (Zq.out.now b)
  replace Zb := hid (Zb.out.now b)
  replace Zt := hid (Zt.out.now b)
  replace Pa := hid (Pa.out.step b)
  replace Pq := hid (Pq.out.step b)
  replace Pt := hid (Pt.out.step b)
  replace HT := hid (HT.out.now b)
  replace HSg := hid (HSg.out.now b)
  replace HP := hid (HP.out.now b)
  replace G := hid (below_step G.out b)
  have lz26 := (show Below _ _ _ from b).size
  clear b
  refine wpAnyT_take (i := 0) (oi := { dst := some 94, op := Op.load 24 (Operand.tmp 2), type := 24, pos := "outright.go:291", after := #[], guard := none }) (v := (.agg #[(.bool na), (.slice ada xa.length ca)])) rfl (by kernel_rfl) (fun _ _ _ h => h) (Or.inl ⟨by rfl, ?_⟩) ⟨Pa.out.c0, Pa.out.c1, Pq.out.c0, Pq.out.c1, Pt.out.c0, Pt.out.c1⟩ ?_
  · intro w hSw
    (try dsimp only at hSw)
    go_simp
  simp only [Act.put, List.setIfInBounds_toArray, List.set_cons_zero, List.set_cons_succ]
  refine wpAnyT_take (i := 1) (oi := { dst := some 95, op := Op.load 24 (Operand.tmp 7), type := 24, pos := "outright.go:291", after := #[], guard := none }) (v := (.agg #[(.bool nq), (.slice adq xq.length qq)])) rfl (by kernel_rfl) (fun _ _ _ h => h) (Or.inl ⟨by rfl, ?_⟩) ⟨Pa.out.c0, Pa.out.c1, Pq.out.c0, Pq.out.c1, Pt.out.c0, Pt.out.c1⟩ ?_
  · intro w hSw
    (try dsimp only at hSw)
    go_simp
  simp only [Act.put, List.setIfInBounds_toArray, List.set_cons_zero, List.set_cons_succ]
  refine wpAnyT_take (i := 2) (oi := { dst := some 96, op := Op.load 24 (Operand.tmp 11), type := 24, pos := "outright.go:291", after := #[], guard := none }) (v := (.agg #[(.bool nt), (.slice adt xt.length qt)])) rfl (by kernel_rfl) (fun _ _ _ h => h) (Or.inl ⟨by rfl, ?_⟩) ⟨Pa.out.c0, Pa.out.c1, Pq.out.c0, Pq.out.c1, Pt.out.c0, Pt.out.c1⟩ ?_
  · intro w hSw
    (try dsimp only at hSw)
    go_simp
  simp only [Act.put, List.setIfInBounds_toArray, List.set_cons_zero, List.set_cons_succ]
  refine wpAnyT_take (i := 6) (oi := { dst := some 100, op := Op.load 24 (Operand.tmp 11), type := 24, pos := "outright.go:291", after := #[], guard := none }) (v := (.agg #[(.bool nt), (.slice adt xt.length qt)])) rfl (by kernel_rfl) (fun _ _ _ h => h) (Or.inl ⟨by rfl, ?_⟩) ⟨Pa.out.c0, Pa.out.c1, Pq.out.c0, Pq.out.c1, Pt.out.c0, Pt.out.c1⟩ ?_
  · intro w hSw
    (try dsimp only at hSw)
    go_simp
  simp only [Act.put, List.setIfInBounds_toArray, List.set_cons_zero, List.set_cons_succ]
  refine wpAnyT_one (i := 3) (o := { dst := some 97, op := Op.call { callee := Callee.value (Operand.func 11), args := #[Operand.tmp 95, Operand.tmp 96], argTypes := #[24, 24] }, type := 24, pos := "outright.go:291", after := #[{ on := 1, ground := Ground.data }, { on := 2, ground := Ground.data }], guard := none }) (by kernel_rfl) rfl (fun K hK => ?_)
  go_simp
  go_at_call 11
  refine (mul_z Zq.out.zi Zt.out.zi (by decide)).mono ?_
  rintro e w27 ⟨r0, rfl, m0, b⟩
  obtain ⟨nm2, xm2, adm2, qm2, rfl, -, -, -, -, -⟩ := id m0
  replace Za := hid (Za.out.now b)
  replace Zq := hid (Zq.out.now b)
  replace Zb := hid (Zb.out.now b)
  replace Zt := hid (Zt.out.now b)
  replace Pa := hid (Pa.out.step b)
  replace Pq := hid (Pq.out.step b)
  replace Pt := hid (Pt.out.step b)
  replace HT := hid (HT.out.now b)
  replace HSg := hid (HSg.out.now b)
  replace HP := hid (HP.out.now b)
  replace G := hid (below_step G.out b)
  have lz28 := (show Below _ _ _ from b).size
  have Zm2 := hid m0
  clear b m0
  refine hK.out _ _ (fun _ => ⟨Pa.out.c0, Pa.out.c1, Pq.out.c0, Pq.out.c1, Pt.out.c0, Pt.out.c1⟩) ?_
  clear hK
  refine wpAnyT_one (i := 4) (o := { dst := some 98, op := Op.call { callee := Callee.value (Operand.func 15), args := #[Operand.tmp 94, Operand.tmp 97], argTypes := #[24, 24] }, type := 24, pos := "outright.go:291", after := #[{ on := 0, ground := Ground.data }, { on := 3, ground := Ground.data }, { on := 3, ground := Ground.chain }], guard := none }) (by kernel_rfl) rfl (fun K hK => ?_)
  go_simp
  go_at_call 15
  refine (sub_z Za.out Zm2.out.zi (by decide) (by decide)).mono ?_
  rintro e w29 ⟨r0, rfl, m0, b⟩
  obtain ⟨ns, xs, ads, qs, rfl, -, -, -, -, -⟩ := id m0
  replace Za := hid (Za.out.now b)
  replace Zq := hid (Zq.out.now b)
  replace Zb := hid (Zb.out.now b)
  replace Zt := hid (Zt.out.now b)
  replace Zm2 := hid (Zm2.out.now b)
  replace Pa := hid (Pa.out.step b)
  replace Pq := hid (Pq.out.step b)
  replace Pt := hid (Pt.out.step b)
  replace HT := hid (HT.out.now b)
  replace HSg := hid (HSg.out.now b)
  replace HP := hid (HP.out.now b)
  replace G := hid (below_step G.out b)
  have lz30 := (show Below _ _ _ from b).size
  have Zs := hid m0
  clear b m0
  refine hK.out _ _ (fun _ => ⟨Pa.out.c0, Pa.out.c1, Pq.out.c0, Pq.out.c1, Pt.out.c0, Pt.out.c1⟩) ?_
  clear hK
  refine wpAnyT_one (i := 5) (o := { dst := some 99, op := Op.call { callee := Callee.value (Operand.func 14), args := #[Operand.tmp 98], argTypes := #[24] }, type := 24, pos := "outright.go:291", after := #[{ on := 4, ground := Ground.data }, { on := 4, ground := Ground.chain }], guard := none }) (by kernel_rfl) rfl (fun K hK => ?_)
  go_simp
  go_at_call 14
  refine (twice_z Zs.out.zi (by decide)).mono ?_
  rintro e w31 ⟨r0, rfl, m0, b⟩
  obtain ⟨nw2, xw2, adw2, qw2, rfl, -, -, -, -, -⟩ := id m0
  replace Za := hid (Za.out.now b)
  replace Zq := hid (Zq.out.now b)
  replace Zb := hid (Zb.out.now b)
  replace Zt := hid (Zt.out.now b)
  replace Zm2 := hid (Zm2.out.now b)
  replace Zs := hid (Zs.out.now b)
  replace Pa := hid (Pa.out.step b)
  replace Pq := hid (Pq.out.step b)
  replace Pt := hid (Pt.out.step b)
  replace HT := hid (HT.out.now b)
  replace HSg := hid (HSg.out.now b)
  replace HP := hid (HP.out.now b)
  replace G := hid (below_step G.out b)
  have lz32 := (show Below _ _ _ from b).size
  have Zw2 := hid m0
  clear b m0
  refine hK.out _ _ (fun _ => ⟨Pa.out.c0, Pa.out.c1, Pq.out.c0, Pq.out.c1, Pt.out.c0, Pt.out.c1⟩) ?_
  clear hK
  refine wpAnyT_one (i := 7) (o := { dst := some 101, op := Op.call { callee := Callee.value (Operand.func 13), args := #[Operand.tmp 99, Operand.tmp 100], argTypes := #[24, 24] }, type := 3, pos := "outright.go:291", after := #[{ on := 5, ground := Ground.data }, { on := 6, ground := Ground.data }, { on := 5, ground := Ground.chain }], guard := none }) (by kernel_rfl) rfl (fun K hK => ?_)
  go_simp
  go_at_call 13
  refine (HC1.out _ _ _ _ Zw2.out.zi Zt.out.zi).mono ?_
  rintro e w33 ⟨rfl, b⟩
  replace Za := hid (Za.out.now b)
  replace Zq := hid (Zq.out.now b)
  replace Zb := hid (Zb.out.now b)
  replace Zt := hid (Zt.out.now b)
  replace Zm2 := hid (Zm2.out.now b)
  replace Zs := hid (Zs.out.now b)
  replace Zw2 := hid (Zw2.out.now b)
  replace Pa := hid (Pa.out.step b)
  replace Pq := hid (Pq.out.step b)
  replace Pt := hid (Pt.out.step b)
  replace HT := hid (HT.out.now b)
  replace HSg := hid (HSg.out.now b)
  replace HP := hid (HP.out.now b)
  replace G := hid (below_step G.out b)
  have lz34 := (show Below _ _ _ from b).size
  clear b 
  refine hK.out _ _ (fun _ => ⟨Pa.out.c0, Pa.out.c1, Pq.out.c0, Pq.out.c1, Pt.out.c0, Pt.out.c1⟩) ?_
  clear hK
  refine wpAnyT_one (i := 8) (o := { dst := some 12, op := Op.assign (Operand.tmp 101), type := 3, pos := "outright.go:291", after := #[{ on := 7, ground := Ground.data }, { on := 7, ground := Ground.chain }, { on := 0, ground := Ground.phase }, { on := 1, ground := Ground.phase }, { on := 2, ground := Ground.phase }, { on := 3, ground := Ground.phase }, { on := 4, ground := Ground.phase }, { on := 5, ground := Ground.phase }, { on := 6, ground := Ground.phase }, { on := 7, ground := Ground.phase }], guard := none }) (by kernel_rfl) rfl (fun K hK => ?_)
  go_simp
  refine hK.out _ _ (fun h => absurd h (by decide)) ?_
  clear hK
  try simp only [Act.put]
  refine wpAnyT_done (by kernel_rfl) ?_ _
  clear Zm2
  clear Zs
  clear Zw2
  have hx := HX.out
  have hxx := HXX.out
  have hxn := HXN.out
  have hxD := HXD.out
  have k3 : (X == (D : Int)) = true := by rw [beq_iff_eq]; omega
  have J2 : Hid (x - n ≤ 100000000) := by unfold Hid; omega
  have T2 : Hid (x - n ≤ D) := by unfold Hid; omega
  have E2 : Hid (X - (n : Int) = ((x - n : Nat) : Int)) := by unfold Hid; omega
  have T3 := hid (ten_small (j := n - 1) (by omega))
  have E3 : Hid ((n : Int) - 1 = ((n - 1 : Nat) : Int)) := by unfold Hid; omega
  have wn3 : IntKind.i64.wrap ((n : Int) - 1) = (n : Int) - 1 := wrap_is (by omega) (by omega)
  clear hx hxx hxn hxD
  have c2 : cmpI (((A - sgd A Q * ((10 ^ (x - n + 1) : Nat) : Int)) + (A - sgd A Q * ((10 ^ (x - n + 1) : Nat) : Int))).natAbs : Int) (((10 ^ (x - n) : Nat) : Int).natAbs : Int) ≤ 0 := by
    rw [Int.natAbs_natCast]
    have h : (((A - sgd A Q * ((10 ^ (x - n + 1) : Nat) : Int)) + (A - sgd A Q * ((10 ^ (x - n + 1) : Nat) : Int))).natAbs : Int) ≤ ((10 ^ (x - n) : Nat) : Int) := by exact_mod_cast HQ.out
    rcases cmp_cases (((A - sgd A Q * ((10 ^ (x - n + 1) : Nat) : Int)) + (A - sgd A Q * ((10 ^ (x - n + 1) : Nat) : Int))).natAbs : Int) ((10 ^ (x - n) : Nat) : Int) with ⟨_, e⟩ | ⟨_, e⟩ | ⟨_, e⟩ <;> omega
  have HC2 : Hid (∀ w' v u l, Zi w' v ((A - sgd A Q * ((10 ^ (x - n + 1) : Nat) : Int)) + (A - sgd A Q * ((10 ^ (x - n + 1) : Nat) : Int))) l → Zi w' u ((10 ^ (x - n) : Nat) : Int) (1048576 + 1) → _) := fun (w' : World) (v u : Value) (l : Nat) (h : Zi w' v ((A - sgd A Q * ((10 ^ (x - n + 1) : Nat) : Int)) + (A - sgd A Q * ((10 ^ (x - n + 1) : Nat) : Int))) l) (h' : Zi w' u ((10 ^ (x - n) : Nat) : Int) (1048576 + 1)) => cmpAbs_z h h'
  generalize cmpI (((A - sgd A Q * ((10 ^ (x - n + 1) : Nat) : Int)) + (A - sgd A Q * ((10 ^ (x - n + 1) : Nat) : Int))).natAbs : Int) (((10 ^ (x - n) : Nat) : Int).natAbs : Int) = C2 at *
  have HC3 : Hid (∀ w' v u, Zi w' v (sgd A Q) 3 → Zi w' u ((10 ^ (n - 1) : Nat) : Int) 3 → Calls Tryz.prog 13 #[v, u] w' fun e w'' => e = .returned (.int .i64 0) ∧ Below w'.heap.size w' w'') := fun w' v u h h' => by
    have p := cmpAbs_z h h'
    rw [Int.natAbs_natCast, sgd_abs, HQ1.out, cmpI_self] at p
    exact p
  go_wp2_with fail
  refine (ten_fit HSg.out J2.out (HSM.out _ T2.out) E2.out).mono ?_
  rintro e w35 ⟨r0, rfl, m0, b⟩
  obtain ⟨nu, xu, adu, qu, rfl, -, -, -, -, -⟩ := id m0
  replace Za := hid (Za.out.now b)
  replace Zq := hid (Zq.out.now b)
  replace Zb := hid (Zb.out.now b)
  replace Zt := hid (Zt.out.now b)
  replace Pa := hid (Pa.out.step b)
  replace Pq := hid (Pq.out.step b)
  replace Pt := hid (Pt.out.step b)
  replace HT := hid (HT.out.now b)
  replace HSg := hid (HSg.out.now b)
  replace HP := hid (HP.out.now b)
  replace G := hid (below_step G.out b)
  have lz36 := (show Below _ _ _ from b).size
  have Zu := hid m0
  clear b m0
  obtain ⟨V37, hW⟩ : ∃ V37, w35.alloc (duo (.bool nu) (.slice adu xu.length qu)) = V37 := ⟨_, rfl⟩
  obtain ⟨kW, sz37⟩ := alloc1 w35 (duo (.bool nu) (.slice adu xu.length qu))
  rw [hW] at kW sz37
  replace Za := hid (Za.out.now kW)
  replace Zq := hid (Zq.out.now kW)
  replace Zb := hid (Zb.out.now kW)
  replace Zt := hid (Zt.out.now kW)
  replace Zu := hid (Zu.out.now kW)
  replace Pa := hid (Pa.out.step kW)
  replace Pq := hid (Pq.out.step kW)
  replace Pt := hid (Pt.out.step kW)
  replace HT := hid (HT.out.now kW)
  replace HSg := hid (HSg.out.now kW)
  replace HP := hid (HP.out.now kW)
  replace G := hid (below_step G.out kW)
  have lz38 := (show Below _ _ _ from kW).size
  have Pu : Hid (Duo V37 (w35.heap.size) (.bool nu) (.slice adu xu.length qu)) := by unfold Hid; rw [← hW]; exact duo_at (by simp)
  clear kW
  have EW := hid hW
  clear hW
  go_wp2_with fail
  rw [EW.out]
  clear EW
  refine wp_region_tail (fun w' => w'.cell? ⟨w.heap.size, 0, none⟩ = some (.bool na) ∧ w'.cell? ⟨w.heap.size, 1, none⟩ = some (.slice ada xa.length ca) ∧ w'.cell? ⟨w7.heap.size, 0, none⟩ = some (.bool nq) ∧ w'.cell? ⟨w7.heap.size, 1, none⟩ = some (.slice adq xq.length qq) ∧ w'.cell? ⟨w21.heap.size, 0, none⟩ = some (.bool nt) ∧ w'.cell? ⟨w21.heap.size, 1, none⟩ = some (.slice adt xt.length qt) ∧ w'.cell? ⟨w35.heap.size, 0, none⟩ = some (.bool nu) ∧ w'.cell? ⟨w35.heap.size, 1, none⟩ = some (.slice adu xu.length qu)) 8 (by kernel_rfl) ?_
  obtain ⟨D39, hD⟩ : ∃ D39, V37.drew = D39 := ⟨_, rfl⟩
  have b : Below V37.heap.size V37 D39 := by rw [← hD]; exact (Below.refl _ _).drew
  rw [hD]
  clear hD
  replace Za := hid (Za.out.now b)
  replace Zq := hid (Zq.out.now b)
  replace Zb := hid (Zb.out.now b)
  replace Zt := hid (Zt.out.now b)
  replace Zu := hid (Zu.out.now b)
  replace Pa := hid (Pa.out.step b)
  replace Pq := hid (Pq.out.step b)
  replace Pt := hid (Pt.out.step b)
  replace Pu := hid (Pu.out.step b)
  replace HT := hid (HT.out.now b)
  replace HSg := hid (HSg.out.now b)
  replace HP := hid (HP.out.now b)
  replace G := hid (below_step G.out b)
  have lz40 := (show Below _ _ _ from b).size
  clear b
  refine wpAnyT_take (i := 0) (oi := { dst := some 109, op := Op.load 24 (Operand.tmp 2), type := 24, pos := "outright.go:294", after := #[], guard := none }) (v := (.agg #[(.bool na), (.slice ada xa.length ca)])) rfl (by kernel_rfl) (fun _ _ _ h => h) (Or.inl ⟨by rfl, ?_⟩) ⟨Pa.out.c0, Pa.out.c1, Pq.out.c0, Pq.out.c1, Pt.out.c0, Pt.out.c1, Pu.out.c0, Pu.out.c1⟩ ?_
  · intro w hSw
    (try dsimp only at hSw)
    go_simp
  simp only [Act.put, List.setIfInBounds_toArray, List.set_cons_zero, List.set_cons_succ]
  refine wpAnyT_take (i := 1) (oi := { dst := some 110, op := Op.load 24 (Operand.tmp 7), type := 24, pos := "outright.go:294", after := #[], guard := none }) (v := (.agg #[(.bool nq), (.slice adq xq.length qq)])) rfl (by kernel_rfl) (fun _ _ _ h => h) (Or.inl ⟨by rfl, ?_⟩) ⟨Pa.out.c0, Pa.out.c1, Pq.out.c0, Pq.out.c1, Pt.out.c0, Pt.out.c1, Pu.out.c0, Pu.out.c1⟩ ?_
  · intro w hSw
    (try dsimp only at hSw)
    go_simp
  simp only [Act.put, List.setIfInBounds_toArray, List.set_cons_zero, List.set_cons_succ]
  refine wpAnyT_take (i := 2) (oi := { dst := some 111, op := Op.load 24 (Operand.tmp 11), type := 24, pos := "outright.go:294", after := #[], guard := none }) (v := (.agg #[(.bool nt), (.slice adt xt.length qt)])) rfl (by kernel_rfl) (fun _ _ _ h => h) (Or.inl ⟨by rfl, ?_⟩) ⟨Pa.out.c0, Pa.out.c1, Pq.out.c0, Pq.out.c1, Pt.out.c0, Pt.out.c1, Pu.out.c0, Pu.out.c1⟩ ?_
  · intro w hSw
    (try dsimp only at hSw)
    go_simp
  simp only [Act.put, List.setIfInBounds_toArray, List.set_cons_zero, List.set_cons_succ]
  refine wpAnyT_take (i := 6) (oi := { dst := some 115, op := Op.load 24 (Operand.tmp 13), type := 24, pos := "outright.go:294", after := #[], guard := none }) (v := (.agg #[(.bool nu), (.slice adu xu.length qu)])) rfl (by kernel_rfl) (fun _ _ _ h => h) (Or.inl ⟨by rfl, ?_⟩) ⟨Pa.out.c0, Pa.out.c1, Pq.out.c0, Pq.out.c1, Pt.out.c0, Pt.out.c1, Pu.out.c0, Pu.out.c1⟩ ?_
  · intro w hSw
    (try dsimp only at hSw)
    go_simp
  simp only [Act.put, List.setIfInBounds_toArray, List.set_cons_zero, List.set_cons_succ]
  refine wpAnyT_one (i := 3) (o := { dst := some 112, op := Op.call { callee := Callee.value (Operand.func 11), args := #[Operand.tmp 110, Operand.tmp 111], argTypes := #[24, 24] }, type := 24, pos := "outright.go:294", after := #[{ on := 1, ground := Ground.data }, { on := 2, ground := Ground.data }], guard := none }) (by kernel_rfl) rfl (fun K hK => ?_)
  go_simp
  go_at_call 11
  refine (mul_z Zq.out.zi Zt.out.zi (by decide)).mono ?_
  rintro e w41 ⟨r0, rfl, m0, b⟩
  obtain ⟨nm2, xm2, adm2, qm2, rfl, -, -, -, -, -⟩ := id m0
  replace Za := hid (Za.out.now b)
  replace Zq := hid (Zq.out.now b)
  replace Zb := hid (Zb.out.now b)
  replace Zt := hid (Zt.out.now b)
  replace Zu := hid (Zu.out.now b)
  replace Pa := hid (Pa.out.step b)
  replace Pq := hid (Pq.out.step b)
  replace Pt := hid (Pt.out.step b)
  replace Pu := hid (Pu.out.step b)
  replace HT := hid (HT.out.now b)
  replace HSg := hid (HSg.out.now b)
  replace HP := hid (HP.out.now b)
  replace G := hid (below_step G.out b)
  have lz42 := (show Below _ _ _ from b).size
  have Zm2 := hid m0
  clear b m0
  refine hK.out _ _ (fun _ => ⟨Pa.out.c0, Pa.out.c1, Pq.out.c0, Pq.out.c1, Pt.out.c0, Pt.out.c1, Pu.out.c0, Pu.out.c1⟩) ?_
  clear hK
  refine wpAnyT_one (i := 4) (o := { dst := some 113, op := Op.call { callee := Callee.value (Operand.func 15), args := #[Operand.tmp 109, Operand.tmp 112], argTypes := #[24, 24] }, type := 24, pos := "outright.go:294", after := #[{ on := 0, ground := Ground.data }, { on := 3, ground := Ground.data }, { on := 3, ground := Ground.chain }], guard := none }) (by kernel_rfl) rfl (fun K hK => ?_)
  go_simp
  go_at_call 15
  refine (sub_z Za.out Zm2.out.zi (by decide) (by decide)).mono ?_
  rintro e w43 ⟨r0, rfl, m0, b⟩
  obtain ⟨ns, xs, ads, qs, rfl, -, -, -, -, -⟩ := id m0
  replace Za := hid (Za.out.now b)
  replace Zq := hid (Zq.out.now b)
  replace Zb := hid (Zb.out.now b)
  replace Zt := hid (Zt.out.now b)
  replace Zu := hid (Zu.out.now b)
  replace Zm2 := hid (Zm2.out.now b)
  replace Pa := hid (Pa.out.step b)
  replace Pq := hid (Pq.out.step b)
  replace Pt := hid (Pt.out.step b)
  replace Pu := hid (Pu.out.step b)
  replace HT := hid (HT.out.now b)
  replace HSg := hid (HSg.out.now b)
  replace HP := hid (HP.out.now b)
  replace G := hid (below_step G.out b)
  have lz44 := (show Below _ _ _ from b).size
  have Zs := hid m0
  clear b m0
  refine hK.out _ _ (fun _ => ⟨Pa.out.c0, Pa.out.c1, Pq.out.c0, Pq.out.c1, Pt.out.c0, Pt.out.c1, Pu.out.c0, Pu.out.c1⟩) ?_
  clear hK
  refine wpAnyT_one (i := 5) (o := { dst := some 114, op := Op.call { callee := Callee.value (Operand.func 14), args := #[Operand.tmp 113], argTypes := #[24] }, type := 24, pos := "outright.go:294", after := #[{ on := 4, ground := Ground.data }, { on := 4, ground := Ground.chain }], guard := none }) (by kernel_rfl) rfl (fun K hK => ?_)
  go_simp
  go_at_call 14
  refine (twice_z Zs.out.zi (by decide)).mono ?_
  rintro e w45 ⟨r0, rfl, m0, b⟩
  obtain ⟨nw2, xw2, adw2, qw2, rfl, -, -, -, -, -⟩ := id m0
  replace Za := hid (Za.out.now b)
  replace Zq := hid (Zq.out.now b)
  replace Zb := hid (Zb.out.now b)
  replace Zt := hid (Zt.out.now b)
  replace Zu := hid (Zu.out.now b)
  replace Zm2 := hid (Zm2.out.now b)
  replace Zs := hid (Zs.out.now b)
  replace Pa := hid (Pa.out.step b)
  replace Pq := hid (Pq.out.step b)
  replace Pt := hid (Pt.out.step b)
  replace Pu := hid (Pu.out.step b)
  replace HT := hid (HT.out.now b)
  replace HSg := hid (HSg.out.now b)
  replace HP := hid (HP.out.now b)
  replace G := hid (below_step G.out b)
  have lz46 := (show Below _ _ _ from b).size
  have Zw2 := hid m0
  clear b m0
  refine hK.out _ _ (fun _ => ⟨Pa.out.c0, Pa.out.c1, Pq.out.c0, Pq.out.c1, Pt.out.c0, Pt.out.c1, Pu.out.c0, Pu.out.c1⟩) ?_
  clear hK
  refine wpAnyT_one (i := 7) (o := { dst := some 116, op := Op.call { callee := Callee.value (Operand.func 13), args := #[Operand.tmp 114, Operand.tmp 115], argTypes := #[24, 24] }, type := 3, pos := "outright.go:294", after := #[{ on := 5, ground := Ground.data }, { on := 6, ground := Ground.data }, { on := 5, ground := Ground.chain }], guard := none }) (by kernel_rfl) rfl (fun K hK => ?_)
  go_simp
  go_at_call 13
  refine (HC2.out _ _ _ _ Zw2.out.zi Zu.out.zi).mono ?_
  rintro e w47 ⟨rfl, b⟩
  replace Za := hid (Za.out.now b)
  replace Zq := hid (Zq.out.now b)
  replace Zb := hid (Zb.out.now b)
  replace Zt := hid (Zt.out.now b)
  replace Zu := hid (Zu.out.now b)
  replace Zm2 := hid (Zm2.out.now b)
  replace Zs := hid (Zs.out.now b)
  replace Zw2 := hid (Zw2.out.now b)
  replace Pa := hid (Pa.out.step b)
  replace Pq := hid (Pq.out.step b)
  replace Pt := hid (Pt.out.step b)
  replace Pu := hid (Pu.out.step b)
  replace HT := hid (HT.out.now b)
  replace HSg := hid (HSg.out.now b)
  replace HP := hid (HP.out.now b)
  replace G := hid (below_step G.out b)
  have lz48 := (show Below _ _ _ from b).size
  clear b 
  refine hK.out _ _ (fun _ => ⟨Pa.out.c0, Pa.out.c1, Pq.out.c0, Pq.out.c1, Pt.out.c0, Pt.out.c1, Pu.out.c0, Pu.out.c1⟩) ?_
  clear hK
  refine wpAnyT_one (i := 8) (o := { dst := some 12, op := Op.assign (Operand.tmp 116), type := 3, pos := "outright.go:294", after := #[{ on := 7, ground := Ground.data }, { on := 7, ground := Ground.chain }, { on := 0, ground := Ground.phase }, { on := 1, ground := Ground.phase }, { on := 2, ground := Ground.phase }, { on := 3, ground := Ground.phase }, { on := 4, ground := Ground.phase }, { on := 5, ground := Ground.phase }, { on := 6, ground := Ground.phase }, { on := 7, ground := Ground.phase }], guard := none }) (by kernel_rfl) rfl (fun K hK => ?_)
  go_simp
  refine hK.out _ _ (fun h => absurd h (by decide)) ?_
  clear hK
  try simp only [Act.put]
  refine wpAnyT_done (by kernel_rfl) ?_ _
  clear Zm2
  clear Zs
  clear Zw2
  go_wp2_with fail
  refine wp_region_tail (fun w' => w'.cell? ⟨w7.heap.size, 0, none⟩ = some (.bool nq) ∧ w'.cell? ⟨w7.heap.size, 1, none⟩ = some (.slice adq xq.length qq)) 10 (by kernel_rfl) ?_
  obtain ⟨D49, hD⟩ : ∃ D49, w47.drew = D49 := ⟨_, rfl⟩
  have b : Below w47.heap.size w47 D49 := by rw [← hD]; exact (Below.refl _ _).drew
  rw [hD]
  clear hD
  replace Za := hid (Za.out.now b)
  replace Zq := hid (Zq.out.now b)
  replace Zb := hid (Zb.out.now b)
  replace Zt := hid (Zt.out.now b)
  replace Zu := hid (Zu.out.now b)
  replace Pa := hid (Pa.out.step b)
  replace Pq := hid (Pq.out.step b)
  replace Pt := hid (Pt.out.step b)
  replace Pu := hid (Pu.out.step b)
  replace HT := hid (HT.out.now b)
  replace HSg := hid (HSg.out.now b)
  replace HP := hid (HP.out.now b)
  replace G := hid (below_step G.out b)
  have lz50 := (show Below _ _ _ from b).size
  clear b
  refine wpAnyT_take (i := 0) (oi := { dst := some 117, op := Op.move (Operand.tmp 12), type := 3, pos := "outright.go:295", after := #[], guard := none }) (v := (.int .i64 C2)) rfl (by kernel_rfl) (fun _ _ _ h => h) (Or.inl ⟨by rfl, ?_⟩) ⟨Pq.out.c0, Pq.out.c1⟩ ?_
  · intro w hSw
    (try dsimp only at hSw)
    go_simp
  simp only [Act.put, List.setIfInBounds_toArray, List.set_cons_zero, List.set_cons_succ]
  refine wpAnyT_take (i := 1) (oi := { dst := some 118, op := Op.binOp BinOp.leq 3 (Operand.tmp 117) (Operand.const (Value.int IntKind.i64 0)) 3, type := 4, pos := "outright.go:295", after := #[{ on := 0, ground := Ground.data }], guard := none }) (v := (.bool true)) rfl (by kernel_rfl) (fun _ _ _ h => h) (Or.inl ⟨by rfl, ?_⟩) ⟨Pq.out.c0, Pq.out.c1⟩ ?_
  · intro w hSw
    (try dsimp only at hSw)
    go_simp
  simp only [Act.put, List.setIfInBounds_toArray, List.set_cons_zero, List.set_cons_succ]
  refine wpAnyT_take (i := 2) (oi := { dst := some 119, op := Op.move (Operand.tmp 118), type := 4, pos := "outright.go:295", after := #[{ on := 1, ground := Ground.data }], guard := none }) (v := (.bool true)) rfl (by kernel_rfl) (fun _ _ _ h => h) (Or.inl ⟨by rfl, ?_⟩) ⟨Pq.out.c0, Pq.out.c1⟩ ?_
  · intro w hSw
    (try dsimp only at hSw)
    go_simp
  simp only [Act.put, List.setIfInBounds_toArray, List.set_cons_zero, List.set_cons_succ]
  refine wpAnyT_take (i := 3) (oi := { dst := some 120, op := Op.load 24 (Operand.tmp 7), type := 24, pos := "outright.go:295", after := #[{ on := 2, ground := Ground.guard }], guard := some (2, true) }) (v := (.agg #[(.bool nq), (.slice adq xq.length qq)])) rfl (by kernel_rfl) (fun _ _ _ h => h) (Or.inl ⟨by rfl, ?_⟩) ⟨Pq.out.c0, Pq.out.c1⟩ ?_
  · intro w hSw
    (try dsimp only at hSw)
    go_simp
  simp only [Act.put, List.setIfInBounds_toArray, List.set_cons_zero, List.set_cons_succ]
  refine wpAnyT_take (i := 4) (oi := { dst := some 121, op := Op.move (Operand.tmp 1), type := 3, pos := "outright.go:295", after := #[{ on := 2, ground := Ground.guard }], guard := some (2, true) }) (v := (.int .i64 (n : Int))) rfl (by kernel_rfl) (fun _ _ _ h => h) (Or.inl ⟨by rfl, ?_⟩) ⟨Pq.out.c0, Pq.out.c1⟩ ?_
  · intro w hSw
    (try dsimp only at hSw)
    go_simp
  simp only [Act.put, List.setIfInBounds_toArray, List.set_cons_zero, List.set_cons_succ]
  refine wpAnyT_take (i := 5) (oi := { dst := some 122, op := Op.binOp BinOp.sub 3 (Operand.tmp 121) (Operand.const (Value.int IntKind.i64 1)) 3, type := 3, pos := "outright.go:295", after := #[{ on := 4, ground := Ground.data }, { on := 2, ground := Ground.guard }], guard := some (2, true) }) (v := (.int .i64 ((n : Int) - 1))) rfl (by kernel_rfl) (fun _ _ _ h => h) (Or.inl ⟨by rfl, ?_⟩) ⟨Pq.out.c0, Pq.out.c1⟩ ?_
  · intro w hSw
    (try dsimp only at hSw)
    go_simp
  simp only [Act.put, List.setIfInBounds_toArray, List.set_cons_zero, List.set_cons_succ]
  refine wpAnyT_one (i := 6) (o := { dst := some 123, op := Op.call { callee := Callee.value (Operand.func 12), args := #[Operand.tmp 122], argTypes := #[3] }, type := 24, pos := "outright.go:295", after := #[{ on := 5, ground := Ground.data }, { on := 2, ground := Ground.chain }, { on := 2, ground := Ground.guard }], guard := some (2, true) }) (by kernel_rfl) rfl (fun K hK => ?_)
  go_simp
  go_at_call 12
  refine (ten_fit HSg.out (by omega) T3.out E3.out).mono ?_
  rintro e w51 ⟨r0, rfl, m0, b⟩
  obtain ⟨nv, xv, adv, qv, rfl, -, -, -, -, -⟩ := id m0
  replace Za := hid (Za.out.now b)
  replace Zq := hid (Zq.out.now b)
  replace Zb := hid (Zb.out.now b)
  replace Zt := hid (Zt.out.now b)
  replace Zu := hid (Zu.out.now b)
  replace Pa := hid (Pa.out.step b)
  replace Pq := hid (Pq.out.step b)
  replace Pt := hid (Pt.out.step b)
  replace Pu := hid (Pu.out.step b)
  replace HT := hid (HT.out.now b)
  replace HSg := hid (HSg.out.now b)
  replace HP := hid (HP.out.now b)
  replace G := hid (below_step G.out b)
  have lz52 := (show Below _ _ _ from b).size
  have Zv := hid m0
  clear b m0
  refine hK.out _ _ (fun _ => ⟨Pq.out.c0, Pq.out.c1⟩) ?_
  clear hK
  refine wpAnyT_one (i := 7) (o := { dst := some 124, op := Op.call { callee := Callee.value (Operand.func 13), args := #[Operand.tmp 120, Operand.tmp 123], argTypes := #[24, 24] }, type := 3, pos := "outright.go:295", after := #[{ on := 3, ground := Ground.data }, { on := 6, ground := Ground.data }, { on := 6, ground := Ground.chain }, { on := 2, ground := Ground.guard }], guard := some (2, true) }) (by kernel_rfl) rfl (fun K hK => ?_)
  go_simp
  go_at_call 13
  refine (HC3.out _ _ _ Zq.out.zi Zv.out.zi).mono ?_
  rintro e w53 ⟨rfl, b⟩
  replace Za := hid (Za.out.now b)
  replace Zq := hid (Zq.out.now b)
  replace Zb := hid (Zb.out.now b)
  replace Zt := hid (Zt.out.now b)
  replace Zu := hid (Zu.out.now b)
  replace Zv := hid (Zv.out.now b)
  replace Pa := hid (Pa.out.step b)
  replace Pq := hid (Pq.out.step b)
  replace Pt := hid (Pt.out.step b)
  replace Pu := hid (Pu.out.step b)
  replace HT := hid (HT.out.now b)
  replace HSg := hid (HSg.out.now b)
  replace HP := hid (HP.out.now b)
  replace G := hid (below_step G.out b)
  have lz54 := (show Below _ _ _ from b).size
  clear b 
  refine hK.out _ _ (fun _ => ⟨Pq.out.c0, Pq.out.c1⟩) ?_
  clear hK
  refine wpAnyT_take (i := 8) (oi := { dst := some 125, op := Op.binOp BinOp.eql 3 (Operand.tmp 124) (Operand.const (Value.int IntKind.i64 0)) 3, type := 4, pos := "outright.go:295", after := #[{ on := 7, ground := Ground.data }, { on := 2, ground := Ground.guard }], guard := some (2, true) }) (v := (.bool true)) rfl (by kernel_rfl) (fun _ _ _ h => h) (Or.inl ⟨by rfl, ?_⟩) ⟨Pq.out.c0, Pq.out.c1⟩ ?_
  · intro w hSw
    (try dsimp only at hSw)
    go_simp
  simp only [Act.put, List.setIfInBounds_toArray, List.set_cons_zero, List.set_cons_succ]
  refine wpAnyT_take (i := 9) (oi := { dst := some 126, op := Op.pick (Operand.tmp 119) (Operand.tmp 125) (Operand.const (Value.bool false)), type := 4, pos := "outright.go:295", after := #[{ on := 2, ground := Ground.data }, { on := 8, ground := Ground.data }], guard := none }) (v := (.bool true)) rfl (by kernel_rfl) (fun _ _ _ h => h) (Or.inl ⟨by rfl, ?_⟩) ⟨Pq.out.c0, Pq.out.c1⟩ ?_
  · intro w hSw
    (try dsimp only at hSw)
    go_simp
  simp only [Act.put, List.setIfInBounds_toArray, List.set_cons_zero, List.set_cons_succ]
  refine wpAnyT_one (i := 10) (o := { dst := some 4, op := Op.assign (Operand.tmp 126), type := 4, pos := "outright.go:295", after := #[{ on := 9, ground := Ground.data }, { on := 7, ground := Ground.chain }, { on := 0, ground := Ground.phase }, { on := 1, ground := Ground.phase }, { on := 2, ground := Ground.phase }, { on := 3, ground := Ground.phase }, { on := 4, ground := Ground.phase }, { on := 5, ground := Ground.phase }, { on := 6, ground := Ground.phase }, { on := 7, ground := Ground.phase }, { on := 8, ground := Ground.phase }, { on := 9, ground := Ground.phase }], guard := none }) (by kernel_rfl) rfl (fun K hK => ?_)
  go_simp
  refine hK.out _ _ (fun h => absurd h (by decide)) ?_
  clear hK
  try simp only [Act.put]
  refine wpAnyT_done (by kernel_rfl) ?_ _
  go_wp2
  go_ret
  exact ⟨rfl, G.out⟩

theorem approxRounds_any {w : World} {va : Value} {A n : Int} (ha : Zi w va A 1048576) (hT : Tab w) (hS : Sg w) (hP : Pw7 w) :
    Calls Tryz.prog 3 #[va, .int .i64 n] w fun e w' => e = .returned (.bool true) ∧ Below w.heap.size w w' := by
  by_cases h1 : n < 1
  · exact rounds_low ha hT hS hP h1
  by_cases h2 : 40 < n
  · exact rounds_high ha hT hS hP h2
  obtain ⟨m, rfl⟩ := Int.eq_ofNat_of_zero_le (show 0 ≤ n by omega)
  by_cases hA : A = 0
  · exact rounds_zero ha hT hS hP (by omega) (by omega) hA
  obtain ⟨D, Q, ds, x, e1, e2, e3, e4, e5, e6, e7, h⟩ := rounds_pure (n := m) hA (by omega)
  rcases h with ⟨a, b, c⟩ | ⟨a, b, c | ⟨c, d⟩⟩ | ⟨a, b, c, d⟩
  · exact rounds_1 ha hT hS hP (by omega) (by omega) hA e1 e2 e3 e4 e5 e6 e7 a b c
  · exact rounds_2 ha hT hS hP (by omega) (by omega) hA e1 e2 e3 e4 e5 e6 e7 a b c
  · exact rounds_2e ha hT hS hP (by omega) (by omega) hA e1 e2 e3 e4 e5 e6 e7 a b c d
  · exact rounds_3 ha hT hS hP (by omega) (by omega) hA e1 e2 e3 e4 e5 e6 e7 a b c d
end Go.Proofs.YtdhmbalkclbhpaaGreatDoor
