/-
  Rounds70: ApproxRounds where nothing is rounded.
-/
import Derived.Test.YtdhmbalkclbhpaaGreatDoorQLess6ToFl7
import Derived.Test.YtdhmbalkclbhpaaGreatDoorQWw7ToAwake5
import Derived.Test.YtdhmbalkclbhpaaGreatDoorQWv7
import Derived.Test.YtdhmbalkclbhpaaGreatDoorQTailToZMet
namespace Go.Proofs.YtdhmbalkclbhpaaGreatDoor
open Go.RowKit
set_option linter.unusedVariables false

set_option maxHeartbeats 6400000 in
set_option maxRecDepth 100000 in
theorem rounds_low {w : World} {va : Value} {A : Int} (ha : Zi w va A 1048576) {n : Int} (hT : Tab w) (hS : Sg w) (hP : Pw7 w) (hn : n < 1) :
    Calls Tryz.prog 3 #[va, .int .i64 n] w fun e w' => e = .returned (.bool true) ∧ Below w.heap.size w w' := by
  have q1 : ((3 : Int) == 3) = true := rfl
  have HT := hid hT
  have HSg := hid hS
  have HP := hid hP
  clear hT hS hP
  have za0 := ha
  obtain ⟨na, xa, ada, ca, rfl, -, -, -⟩ := ha
  obtain ⟨W0, hW⟩ : ∃ W0, w.alloc (duo (.bool na) (.slice ada xa.length ca)) = W0 := ⟨_, rfl⟩
  obtain ⟨b0, sz0⟩ := alloc1 w (duo (.bool na) (.slice ada xa.length ca))
  rw [hW] at b0 sz0
  have Pa : Hid (Duo W0 (w.heap.size) (.bool na) (.slice ada xa.length ca)) := by unfold Hid; rw [← hW]; exact duo_at (by simp)
  have Za := hid (za0.now b0)
  clear za0
  have G := hid b0
  clear b0
  have EW := hid hW
  clear hW
  go_enter Tryz.func3, Tryz.ntmps3
  replace HT := hid (HT.out.now G.out)
  replace HSg := hid (HSg.out.now G.out)
  replace HP := hid (HP.out.now G.out)
  skip
  go_wp2_with fail
  rw [EW.out]
  clear EW
  refine (awake7 HT.out).mono ?_
  rintro e w1 ⟨rfl, b⟩
  replace Za := hid (Za.out.now b)
  replace Pa := hid (Pa.out.step b)
  replace HT := hid (HT.out.now b)
  replace HSg := hid (HSg.out.now b)
  replace HP := hid (HP.out.now b)
  replace G := hid (below_step G.out b)
  have lz2 := (show Below _ _ _ from b).size
  clear b 
  have ca0 := Pa.out.c0
  have ca1 := Pa.out.c1
  go_wp2_with fail
  clear ca0 ca1
  refine (sci_bad Za.out (.inl hn)).mono ?_
  rintro e w3 ⟨rfl, b⟩
  replace Za := hid (Za.out.now b)
  replace Pa := hid (Pa.out.step b)
  replace HT := hid (HT.out.now b)
  replace HSg := hid (HSg.out.now b)
  replace HP := hid (HP.out.now b)
  replace G := hid (below_step G.out b)
  have lz4 := (show Below _ _ _ from b).size
  clear b 
  go_wp2
  go_ret
  exact ⟨rfl, G.out⟩

set_option maxHeartbeats 6400000 in
set_option maxRecDepth 100000 in
theorem rounds_high {w : World} {va : Value} {A : Int} (ha : Zi w va A 1048576) {n : Int} (hT : Tab w) (hS : Sg w) (hP : Pw7 w) (hn : 40 < n) :
    Calls Tryz.prog 3 #[va, .int .i64 n] w fun e w' => e = .returned (.bool true) ∧ Below w.heap.size w w' := by
  have q1 : ((3 : Int) == 3) = true := rfl
  have hn2 : ¬ n < 1 := by omega
  have HT := hid hT
  have HSg := hid hS
  have HP := hid hP
  clear hT hS hP
  have za0 := ha
  obtain ⟨na, xa, ada, ca, rfl, -, -, -⟩ := ha
  obtain ⟨W0, hW⟩ : ∃ W0, w.alloc (duo (.bool na) (.slice ada xa.length ca)) = W0 := ⟨_, rfl⟩
  obtain ⟨b0, sz0⟩ := alloc1 w (duo (.bool na) (.slice ada xa.length ca))
  rw [hW] at b0 sz0
  have Pa : Hid (Duo W0 (w.heap.size) (.bool na) (.slice ada xa.length ca)) := by unfold Hid; rw [← hW]; exact duo_at (by simp)
  have Za := hid (za0.now b0)
  clear za0
  have G := hid b0
  clear b0
  have EW := hid hW
  clear hW
  go_enter Tryz.func3, Tryz.ntmps3
  replace HT := hid (HT.out.now G.out)
  replace HSg := hid (HSg.out.now G.out)
  replace HP := hid (HP.out.now G.out)
  skip
  go_wp2_with fail
  rw [EW.out]
  clear EW
  refine (awake7 HT.out).mono ?_
  rintro e w1 ⟨rfl, b⟩
  replace Za := hid (Za.out.now b)
  replace Pa := hid (Pa.out.step b)
  replace HT := hid (HT.out.now b)
  replace HSg := hid (HSg.out.now b)
  replace HP := hid (HP.out.now b)
  replace G := hid (below_step G.out b)
  have lz2 := (show Below _ _ _ from b).size
  clear b 
  have ca0 := Pa.out.c0
  have ca1 := Pa.out.c1
  go_wp2_with fail
  clear ca0 ca1
  refine (sci_bad Za.out (.inr hn)).mono ?_
  rintro e w3 ⟨rfl, b⟩
  replace Za := hid (Za.out.now b)
  replace Pa := hid (Pa.out.step b)
  replace HT := hid (HT.out.now b)
  replace HSg := hid (HSg.out.now b)
  replace HP := hid (HP.out.now b)
  replace G := hid (below_step G.out b)
  have lz4 := (show Below _ _ _ from b).size
  clear b 
  go_wp2
  go_ret
  exact ⟨rfl, G.out⟩

set_option maxHeartbeats 6400000 in
set_option maxRecDepth 100000 in
theorem rounds_zero {w : World} {va : Value} {A : Int} (ha : Zi w va A 1048576) {n : Nat} (hT : Tab w) (hS : Sg w) (hP : Pw7 w) (h1 : 1 ≤ n) (h2 : n ≤ 40) (hA : A = 0) :
    Calls Tryz.prog 3 #[va, .int .i64 (n : Int)] w fun e w' => e = .returned (.bool true) ∧ Below w.heap.size w w' := by
  subst hA
  have n1 : ¬ (n : Int) < 1 := by omega
  have n2 : ¬ (40 : Int) < (n : Int) := by omega
  have q1 : ((0 : Int) == 0) = true := rfl
  have HZ : Hid (∀ w' v, Zi w' v 0 1048576 → Calls Tryz.prog 6 #[v] w' fun e w'' => e = .returned (.int .i64 0) ∧ Below w'.heap.size w' w'') := fun w' v h => by
    have q := sign_z h
    rw [cmpI_self] at q
    exact q
  have HT := hid hT
  have HSg := hid hS
  have HP := hid hP
  clear hT hS hP
  have za0 := ha
  obtain ⟨na, xa, ada, ca, rfl, -, -, -⟩ := ha
  obtain ⟨W0, hW⟩ : ∃ W0, w.alloc (duo (.bool na) (.slice ada xa.length ca)) = W0 := ⟨_, rfl⟩
  obtain ⟨b0, sz0⟩ := alloc1 w (duo (.bool na) (.slice ada xa.length ca))
  rw [hW] at b0 sz0
  have Pa : Hid (Duo W0 (w.heap.size) (.bool na) (.slice ada xa.length ca)) := by unfold Hid; rw [← hW]; exact duo_at (by simp)
  have Za := hid (za0.now b0)
  clear za0
  have G := hid b0
  clear b0
  have EW := hid hW
  clear hW
  go_enter Tryz.func3, Tryz.ntmps3
  replace HT := hid (HT.out.now G.out)
  replace HSg := hid (HSg.out.now G.out)
  replace HP := hid (HP.out.now G.out)
  skip
  go_wp2_with fail
  rw [EW.out]
  clear EW
  refine (awake7 HT.out).mono ?_
  rintro e w1 ⟨rfl, b⟩
  replace Za := hid (Za.out.now b)
  replace Pa := hid (Pa.out.step b)
  replace HT := hid (HT.out.now b)
  replace HSg := hid (HSg.out.now b)
  replace HP := hid (HP.out.now b)
  replace G := hid (below_step G.out b)
  have lz2 := (show Below _ _ _ from b).size
  clear b 
  have ca0 := Pa.out.c0
  have ca1 := Pa.out.c1
  go_wp2_with fail
  clear ca0 ca1
  refine (sci_zero Za.out h1 h2).mono ?_
  rintro e w3 ⟨rfl, b⟩
  replace Za := hid (Za.out.now b)
  replace Pa := hid (Pa.out.step b)
  replace HT := hid (HT.out.now b)
  replace HSg := hid (HSg.out.now b)
  replace HP := hid (HP.out.now b)
  replace G := hid (below_step G.out b)
  have lz4 := (show Below _ _ _ from b).size
  clear b 
  have ca0 := Pa.out.c0
  have ca1 := Pa.out.c1
  go_wp2_with fail
  clear ca0 ca1
  refine (HZ.out _ _ Za.out).mono ?_
  rintro e w5 ⟨rfl, b⟩
  replace Za := hid (Za.out.now b)
  replace Pa := hid (Pa.out.step b)
  replace HT := hid (HT.out.now b)
  replace HSg := hid (HSg.out.now b)
  replace HP := hid (HP.out.now b)
  replace G := hid (below_step G.out b)
  have lz6 := (show Below _ _ _ from b).size
  clear b 
  go_wp2
  go_ret
  exact ⟨rfl, G.out⟩

set_option maxHeartbeats 6400000 in
set_option maxRecDepth 100000 in
theorem rounds_1 {w : World} {va : Value} {A : Int} (ha : Zi w va A 1048576) {n : Nat} (hT : Tab w) (hS : Sg w) (hP : Pw7 w) {D Q x : Nat} {ds : List UInt8} (h1 : 1 ≤ n) (h2 : n ≤ 40) (hA : A ≠ 0) (hD : (txtL 10 A.natAbs).length = D) (hr : rdL (txtL 10 A.natAbs) n = (ds, x)) (hdl : ds.length = n) (hg : Good 10 ds) (hQ : ofD 10 (dsL ds) = Q) (hlow : 10 ^ (n - 1) ≤ Q) (hD1 : 1 ≤ D) (hx : x = D - 1) (hxn : x < n) (hq : sgd A Q = A * ((10 ^ (n - 1 - x) : Nat) : Int)) :
    Calls Tryz.prog 3 #[va, .int .i64 (n : Int)] w fun e w' => e = .returned (.bool true) ∧ Below w.heap.size w w' := by
  obtain ⟨hsz, hsm⟩ := rounds_size ha hA
  rw [hD] at hsz hsm
  have HLD := hid (fun h => rounds_lead (N := A.natAbs) (n := n) (by omega) h1 h)
  have HLEN : Hid ((txtL 10 A.natAbs).length ≤ 67108865) := by unfold Hid; rw [hD]; exact hsz
  have hDs : D ≤ 67108865 := hsz
  have hxD : x ≤ D := by omega
  have hx8 : x ≤ 100000000 := by omega
  have HR := hid hr
  have HDL := hid hdl
  have HGd := hid hg
  have HQQ := hid hQ
  have HLOW := hid hlow
  have HSM := hid hsm
  have HQ := hid hq
  have QP : Hid (0 < Q) := by
    have := Nat.pow_pos (n := n - 1) (show 0 < 10 by decide)
    unfold Hid
    omega
  have HAn := hid hA
  have HTX : Hid ((ztxt (A.natAbs : Int)).size = D) := by
    unfold Hid ztxt
    rw [if_neg (by omega), Int.natAbs_natCast]
    exact (mk_size _).trans hD
  have n1 : ¬ (n : Int) < 1 := by omega
  have n2 : ¬ (40 : Int) < (n : Int) := by omega
  have q1 : ((0 : Int) == 0) = true := rfl
  have q2 : ((0 : Int) != 0) = false := rfl
  have HZ : Hid (∀ w' v, Zi w' v A 1048576 → _) := fun (w' : World) (v : Value) (h : Zi w' v A 1048576) => sign_z h
  have HZQ : Hid (∀ w' v, Zi w' v (sgd A Q) 3 → Calls Tryz.prog 6 #[v] w' fun e w'' => e = .returned (.int .i64 (cmpI A 0)) ∧ Below w'.heap.size w' w'') := fun w' v h => by
    have q := sign_z h
    rw [sgd_sign QP.out hA] at q
    exact q
  have q3 : (cmpI A 0 == 0) = false := by rw [beq_eq_false_iff_ne]; exact fun e => hA (cmpI_zero e)
  have q4 : (cmpI A 0 != cmpI A 0) = false := by simp
  generalize cmpI A 0 = CA at *
  have HX := hid hx
  have HXN := hid hxn
  obtain ⟨X, hX⟩ : ∃ X : Int, (x : Int) = X := ⟨_, rfl⟩
  have HXX := hid hX
  have HXD := hid hxD
  have HX8 := hid hx8
  clear hsz hsm hr hdl hg hQ hlow hq hA hD hx hX hxn hxD hx8
  have HT := hid hT
  have HSg := hid hS
  have HP := hid hP
  clear hT hS hP
  have za0 := ha
  obtain ⟨na, xa, ada, ca, rfl, -, -, -⟩ := ha
  obtain ⟨W0, hW⟩ : ∃ W0, w.alloc (duo (.bool na) (.slice ada xa.length ca)) = W0 := ⟨_, rfl⟩
  obtain ⟨b0, sz0⟩ := alloc1 w (duo (.bool na) (.slice ada xa.length ca))
  rw [hW] at b0 sz0
  have Pa : Hid (Duo W0 (w.heap.size) (.bool na) (.slice ada xa.length ca)) := by unfold Hid; rw [← hW]; exact duo_at (by simp)
  have Za := hid (za0.now b0)
  clear za0
  have G := hid b0
  clear b0
  have EW := hid hW
  clear hW
  go_enter Tryz.func3, Tryz.ntmps3
  replace HT := hid (HT.out.now G.out)
  replace HSg := hid (HSg.out.now G.out)
  replace HP := hid (HP.out.now G.out)
  skip
  go_wp2_with fail
  rw [EW.out]
  clear EW
  refine (awake7 HT.out).mono ?_
  rintro e w1 ⟨rfl, b⟩
  replace Za := hid (Za.out.now b)
  replace Pa := hid (Pa.out.step b)
  replace HT := hid (HT.out.now b)
  replace HSg := hid (HSg.out.now b)
  replace HP := hid (HP.out.now b)
  replace G := hid (below_step G.out b)
  have lz2 := (show Below _ _ _ from b).size
  clear b 
  have ca0 := Pa.out.c0
  have ca1 := Pa.out.c1
  go_wp2_with fail
  clear ca0 ca1
  refine (sci_some Za.out (by decide) HAn.out h1 h2 HSg.out HP.out HLD.out HR.out HDL.out HX8.out HLEN.out).mono ?_
  rintro e w3 ⟨rfl, b⟩
  replace Za := hid (Za.out.now b)
  replace Pa := hid (Pa.out.step b)
  replace HT := hid (HT.out.now b)
  replace HSg := hid (HSg.out.now b)
  replace HP := hid (HP.out.now b)
  replace G := hid (below_step G.out b)
  have lz4 := (show Below _ _ _ from b).size
  clear b 
  have ca0 := Pa.out.c0
  have ca1 := Pa.out.c1
  go_wp2_with fail
  clear ca0 ca1
  refine (HZ.out _ _ Za.out).mono ?_
  rintro e w5 ⟨rfl, b⟩
  replace Za := hid (Za.out.now b)
  replace Pa := hid (Pa.out.step b)
  replace HT := hid (HT.out.now b)
  replace HSg := hid (HSg.out.now b)
  replace HP := hid (HP.out.now b)
  replace G := hid (below_step G.out b)
  have lz6 := (show Below _ _ _ from b).size
  clear b 
  go_wp2_with fail
  refine (written_any HSg.out h1 h2 HDL.out HGd.out HQQ.out HLOW.out HX8.out).mono ?_
  rintro e w7 ⟨r0, rfl, m0, b⟩
  obtain ⟨nq, xq, adq, qq, rfl, -, -, -, -, -⟩ := id m0
  replace Za := hid (Za.out.now b)
  replace Pa := hid (Pa.out.step b)
  replace HT := hid (HT.out.now b)
  replace HSg := hid (HSg.out.now b)
  replace HP := hid (HP.out.now b)
  replace G := hid (below_step G.out b)
  have lz8 := (show Below _ _ _ from b).size
  have Zq := hid m0
  clear b m0
  rw [HXX.out]
  obtain ⟨V9, hW⟩ : ∃ V9, w7.alloc (duo (.bool nq) (.slice adq xq.length qq)) = V9 := ⟨_, rfl⟩
  obtain ⟨kW, sz9⟩ := alloc1 w7 (duo (.bool nq) (.slice adq xq.length qq))
  rw [hW] at kW sz9
  replace Za := hid (Za.out.now kW)
  replace Zq := hid (Zq.out.now kW)
  replace Pa := hid (Pa.out.step kW)
  replace HT := hid (HT.out.now kW)
  replace HSg := hid (HSg.out.now kW)
  replace HP := hid (HP.out.now kW)
  replace G := hid (below_step G.out kW)
  have lz10 := (show Below _ _ _ from kW).size
  have Pq : Hid (Duo V9 (w7.heap.size) (.bool nq) (.slice adq xq.length qq)) := by unfold Hid; rw [← hW]; exact duo_at (by simp)
  clear kW
  have EW := hid hW
  clear hW
  go_wp2_with fail
  rw [EW.out]
  clear EW
  refine wp_region_tail (fun w' => w'.cell? ⟨w7.heap.size, 0, none⟩ = some (.bool nq) ∧ w'.cell? ⟨w7.heap.size, 1, none⟩ = some (.slice adq xq.length qq) ∧ w'.cell? ⟨w.heap.size, 0, none⟩ = some (.bool na) ∧ w'.cell? ⟨w.heap.size, 1, none⟩ = some (.slice ada xa.length ca)) 12 (by kernel_rfl) ?_
  obtain ⟨D11, hD⟩ : ∃ D11, V9.drew = D11 := ⟨_, rfl⟩
  have b : Below V9.heap.size V9 D11 := by rw [← hD]; exact (Below.refl _ _).drew
  rw [hD]
  clear hD
  replace Za := hid (Za.out.now b)
  replace Zq := hid (Zq.out.now b)
  replace Pa := hid (Pa.out.step b)
  replace Pq := hid (Pq.out.step b)
  replace HT := hid (HT.out.now b)
  replace HSg := hid (HSg.out.now b)
  replace HP := hid (HP.out.now b)
  replace G := hid (below_step G.out b)
  have lz12 := (show Below _ _ _ from b).size
  clear b
  refine wpAnyT_take (i := 0) (oi := { dst := some 50, op := Op.move (Operand.tmp 6), type := 26, pos := "outright.go:280", after := #[], guard := none }) (v := (.int .i64 0)) rfl (by kernel_rfl) (fun _ _ _ h => h) (Or.inl ⟨by rfl, ?_⟩) ⟨Pq.out.c0, Pq.out.c1, Pa.out.c0, Pa.out.c1⟩ ?_
  · intro w hSw
    (try dsimp only at hSw)
    go_simp
  simp only [Act.put, List.setIfInBounds_toArray, List.set_cons_zero, List.set_cons_succ]
  refine wpAnyT_take (i := 1) (oi := { dst := some 51, op := Op.binOp BinOp.neq 26 (Operand.tmp 50) (Operand.const (Value.int IntKind.i64 0)) 26, type := 4, pos := "outright.go:280", after := #[{ on := 0, ground := Ground.data }], guard := none }) (v := (.bool false)) rfl (by kernel_rfl) (fun _ _ _ h => h) (Or.inl ⟨by rfl, ?_⟩) ⟨Pq.out.c0, Pq.out.c1, Pa.out.c0, Pa.out.c1⟩ ?_
  · intro w hSw
    (try dsimp only at hSw)
    go_simp
  simp only [Act.put, List.setIfInBounds_toArray, List.set_cons_zero, List.set_cons_succ]
  refine wpAnyT_take (i := 2) (oi := { dst := some 52, op := Op.move (Operand.tmp 51), type := 4, pos := "outright.go:280", after := #[{ on := 1, ground := Ground.data }], guard := none }) (v := (.bool false)) rfl (by kernel_rfl) (fun _ _ _ h => h) (Or.inl ⟨by rfl, ?_⟩) ⟨Pq.out.c0, Pq.out.c1, Pa.out.c0, Pa.out.c1⟩ ?_
  · intro w hSw
    (try dsimp only at hSw)
    go_simp
  simp only [Act.put, List.setIfInBounds_toArray, List.set_cons_zero, List.set_cons_succ]
  refine wpAnyT_take (i := 3) (oi := { dst := some 53, op := Op.move (Operand.tmp 9), type := 4, pos := "outright.go:280", after := #[{ on := 2, ground := Ground.guard }], guard := some (2, false) }) (v := (.bool true)) rfl (by kernel_rfl) (fun _ _ _ h => h) (Or.inl ⟨by rfl, ?_⟩) ⟨Pq.out.c0, Pq.out.c1, Pa.out.c0, Pa.out.c1⟩ ?_
  · intro w hSw
    (try dsimp only at hSw)
    go_simp
  simp only [Act.put, List.setIfInBounds_toArray, List.set_cons_zero, List.set_cons_succ]
  refine wpAnyT_take (i := 4) (oi := { dst := some 54, op := Op.unOp UnOp.not 4 (Operand.tmp 53), type := 4, pos := "outright.go:280", after := #[{ on := 3, ground := Ground.data }, { on := 2, ground := Ground.guard }], guard := some (2, false) }) (v := (.bool false)) rfl (by kernel_rfl) (fun _ _ _ h => h) (Or.inl ⟨by rfl, ?_⟩) ⟨Pq.out.c0, Pq.out.c1, Pa.out.c0, Pa.out.c1⟩ ?_
  · intro w hSw
    (try dsimp only at hSw)
    go_simp
  simp only [Act.put, List.setIfInBounds_toArray, List.set_cons_zero, List.set_cons_succ]
  refine wpAnyT_take (i := 5) (oi := { dst := some 55, op := Op.pick (Operand.tmp 52) (Operand.const (Value.bool true)) (Operand.tmp 54), type := 4, pos := "outright.go:280", after := #[{ on := 2, ground := Ground.data }, { on := 4, ground := Ground.data }], guard := none }) (v := (.bool false)) rfl (by kernel_rfl) (fun _ _ _ h => h) (Or.inl ⟨by rfl, ?_⟩) ⟨Pq.out.c0, Pq.out.c1, Pa.out.c0, Pa.out.c1⟩ ?_
  · intro w hSw
    (try dsimp only at hSw)
    go_simp
  simp only [Act.put, List.setIfInBounds_toArray, List.set_cons_zero, List.set_cons_succ]
  refine wpAnyT_take (i := 6) (oi := { dst := some 56, op := Op.move (Operand.tmp 55), type := 4, pos := "outright.go:280", after := #[{ on := 5, ground := Ground.data }, { on := 2, ground := Ground.chain }], guard := none }) (v := (.bool false)) rfl (by kernel_rfl) (fun _ _ _ h => h) (Or.inl ⟨by rfl, ?_⟩) ⟨Pq.out.c0, Pq.out.c1, Pa.out.c0, Pa.out.c1⟩ ?_
  · intro w hSw
    (try dsimp only at hSw)
    go_simp
  simp only [Act.put, List.setIfInBounds_toArray, List.set_cons_zero, List.set_cons_succ]
  refine wpAnyT_take (i := 7) (oi := { dst := some 57, op := Op.load 24 (Operand.tmp 7), type := 24, pos := "outright.go:280", after := #[{ on := 6, ground := Ground.guard }], guard := some (6, false) }) (v := (.agg #[(.bool nq), (.slice adq xq.length qq)])) rfl (by kernel_rfl) (fun _ _ _ h => h) (Or.inl ⟨by rfl, ?_⟩) ⟨Pq.out.c0, Pq.out.c1, Pa.out.c0, Pa.out.c1⟩ ?_
  · intro w hSw
    (try dsimp only at hSw)
    go_simp
  simp only [Act.put, List.setIfInBounds_toArray, List.set_cons_zero, List.set_cons_succ]
  refine wpAnyT_take (i := 9) (oi := { dst := some 59, op := Op.load 24 (Operand.tmp 2), type := 24, pos := "outright.go:280", after := #[{ on := 6, ground := Ground.guard }], guard := some (6, false) }) (v := (.agg #[(.bool na), (.slice ada xa.length ca)])) rfl (by kernel_rfl) (fun _ _ _ h => h) (Or.inl ⟨by rfl, ?_⟩) ⟨Pq.out.c0, Pq.out.c1, Pa.out.c0, Pa.out.c1⟩ ?_
  · intro w hSw
    (try dsimp only at hSw)
    go_simp
  simp only [Act.put, List.setIfInBounds_toArray, List.set_cons_zero, List.set_cons_succ]
  refine wpAnyT_one (i := 8) (o := { dst := some 58, op := Op.call { callee := Callee.value (Operand.func 6), args := #[Operand.tmp 57], argTypes := #[24] }, type := 3, pos := "outright.go:280", after := #[{ on := 7, ground := Ground.data }, { on := 6, ground := Ground.chain }, { on := 6, ground := Ground.guard }], guard := some (6, false) }) (by kernel_rfl) rfl (fun K hK => ?_)
  go_simp
  go_at_call 6
  refine (HZQ.out _ _ Zq.out.zi).mono ?_
  rintro e w13 ⟨rfl, b⟩
  replace Za := hid (Za.out.now b)
  replace Zq := hid (Zq.out.now b)
  replace Pa := hid (Pa.out.step b)
  replace Pq := hid (Pq.out.step b)
  replace HT := hid (HT.out.now b)
  replace HSg := hid (HSg.out.now b)
  replace HP := hid (HP.out.now b)
  replace G := hid (below_step G.out b)
  have lz14 := (show Below _ _ _ from b).size
  clear b 
  refine hK.out _ _ (fun _ => ⟨Pq.out.c0, Pq.out.c1, Pa.out.c0, Pa.out.c1⟩) ?_
  clear hK
  refine wpAnyT_one (i := 10) (o := { dst := some 60, op := Op.call { callee := Callee.value (Operand.func 6), args := #[Operand.tmp 59], argTypes := #[24] }, type := 3, pos := "outright.go:280", after := #[{ on := 9, ground := Ground.data }, { on := 8, ground := Ground.chain }, { on := 6, ground := Ground.guard }], guard := some (6, false) }) (by kernel_rfl) rfl (fun K hK => ?_)
  go_simp
  go_at_call 6
  refine (HZ.out _ _ Za.out).mono ?_
  rintro e w15 ⟨rfl, b⟩
  replace Za := hid (Za.out.now b)
  replace Zq := hid (Zq.out.now b)
  replace Pa := hid (Pa.out.step b)
  replace Pq := hid (Pq.out.step b)
  replace HT := hid (HT.out.now b)
  replace HSg := hid (HSg.out.now b)
  replace HP := hid (HP.out.now b)
  replace G := hid (below_step G.out b)
  have lz16 := (show Below _ _ _ from b).size
  clear b 
  refine hK.out _ _ (fun _ => ⟨Pq.out.c0, Pq.out.c1, Pa.out.c0, Pa.out.c1⟩) ?_
  clear hK
  refine wpAnyT_take (i := 11) (oi := { dst := some 61, op := Op.binOp BinOp.neq 3 (Operand.tmp 58) (Operand.tmp 60) 3, type := 4, pos := "outright.go:280", after := #[{ on := 8, ground := Ground.data }, { on := 10, ground := Ground.data }, { on := 6, ground := Ground.guard }], guard := some (6, false) }) (v := (.bool false)) rfl (by kernel_rfl) (fun _ _ _ h => h) (Or.inl ⟨by rfl, ?_⟩) ⟨Pq.out.c0, Pq.out.c1, Pa.out.c0, Pa.out.c1⟩ ?_
  · intro w hSw
    (try dsimp only at hSw)
    go_simp
  simp only [Act.put, List.setIfInBounds_toArray, List.set_cons_zero, List.set_cons_succ]
  refine wpAnyT_one (i := 12) (o := { dst := some 62, op := Op.pick (Operand.tmp 56) (Operand.const (Value.bool true)) (Operand.tmp 61), type := 4, pos := "outright.go:280", after := #[{ on := 6, ground := Ground.data }, { on := 11, ground := Ground.data }], guard := none }) (by kernel_rfl) rfl (fun K hK => ?_)
  go_simp
  refine hK.out _ _ (fun h => absurd h (by decide)) ?_
  clear hK
  try simp only [Act.put]
  refine wpAnyT_done (by kernel_rfl) ?_ _
  have ca0 := Pa.out.c0
  have ca1 := Pa.out.c1
  go_wp2_with fail
  clear ca0 ca1
  refine (abs_z Za.out).mono ?_
  rintro e w17 ⟨r0, rfl, m0, b⟩
  obtain ⟨nb, xb, adb, qb, rfl, -, -, -, -, -⟩ := id m0
  replace Za := hid (Za.out.now b)
  replace Zq := hid (Zq.out.now b)
  replace Pa := hid (Pa.out.step b)
  replace Pq := hid (Pq.out.step b)
  replace HT := hid (HT.out.now b)
  replace HSg := hid (HSg.out.now b)
  replace HP := hid (HP.out.now b)
  replace G := hid (below_step G.out b)
  have lz18 := (show Below _ _ _ from b).size
  have Zb := hid m0
  clear b m0
  go_wp2_with fail
  refine (text_z Zb.out.zi (by decide) HSg.out).mono ?_
  rintro e w19 ⟨rfl, b⟩
  replace Za := hid (Za.out.now b)
  replace Zq := hid (Zq.out.now b)
  replace Zb := hid (Zb.out.now b)
  replace Pa := hid (Pa.out.step b)
  replace Pq := hid (Pq.out.step b)
  replace HT := hid (HT.out.now b)
  replace HSg := hid (HSg.out.now b)
  replace HP := hid (HP.out.now b)
  replace G := hid (below_step G.out b)
  have lz20 := (show Below _ _ _ from b).size
  clear b 
  have LEN : ((ztxt (A.natAbs : Int)).size : Int) = (D : Int) := by rw [HTX.out]
  have hx := HX.out
  have hxx := HXX.out
  have hxn := HXN.out
  have hxD := HXD.out
  have k1 : (X != (D : Int) - 1) = false := by rw [bne_eq_false_iff_eq]; omega
  have k2 : X < (n : Int) := by omega
  have J1 : Hid (n - 1 - x ≤ 100000000) := by unfold Hid; omega
  have HCQ : Hid (∀ w' v u, Zi w' v (sgd A Q) 3 → Zi w' u (A * ((10 ^ (n - 1 - x) : Nat) : Int)) (1048576 + 3) → Calls Tryz.prog 10 #[v, u] w' fun e w'' => e = .returned (.int .i64 0) ∧ Below w'.heap.size w' w'') := fun w' v u h h' => by
    have p := cmp_z h h'
    rw [HQ.out, cmpI_self] at p
    exact p
  have T1 := hid (ten_small (j := n - 1 - x) (by omega))
  have E1 : Hid ((n : Int) - 1 - X = ((n - 1 - x : Nat) : Int)) := by unfold Hid; omega
  have wn1 : IntKind.i64.wrap ((n : Int) - 1) = (n : Int) - 1 := wrap_is (by omega) (by omega)
  have wn2 : IntKind.i64.wrap ((n : Int) - 1 - X) = (n : Int) - 1 - X := wrap_is (by omega) (by omega)
  clear hx hxx hxn hxD
  go_wp2_with fail
  refine wp_region_tail (fun w' => w'.cell? ⟨w7.heap.size, 0, none⟩ = some (.bool nq) ∧ w'.cell? ⟨w7.heap.size, 1, none⟩ = some (.slice adq xq.length qq) ∧ w'.cell? ⟨w.heap.size, 0, none⟩ = some (.bool na) ∧ w'.cell? ⟨w.heap.size, 1, none⟩ = some (.slice ada xa.length ca)) 10 (by kernel_rfl) ?_
  obtain ⟨D21, hD⟩ : ∃ D21, w19.drew = D21 := ⟨_, rfl⟩
  have b : Below w19.heap.size w19 D21 := by rw [← hD]; exact (Below.refl _ _).drew
  rw [hD]
  clear hD
  replace Za := hid (Za.out.now b)
  replace Zq := hid (Zq.out.now b)
  replace Zb := hid (Zb.out.now b)
  replace Pa := hid (Pa.out.step b)
  replace Pq := hid (Pq.out.step b)
  replace HT := hid (HT.out.now b)
  replace HSg := hid (HSg.out.now b)
  replace HP := hid (HP.out.now b)
  replace G := hid (below_step G.out b)
  have lz22 := (show Below _ _ _ from b).size
  clear b
  refine wpAnyT_take (i := 0) (oi := { dst := some 79, op := Op.load 24 (Operand.tmp 7), type := 24, pos := "outright.go:288", after := #[], guard := none }) (v := (.agg #[(.bool nq), (.slice adq xq.length qq)])) rfl (by kernel_rfl) (fun _ _ _ h => h) (Or.inl ⟨by rfl, ?_⟩) ⟨Pq.out.c0, Pq.out.c1, Pa.out.c0, Pa.out.c1⟩ ?_
  · intro w hSw
    (try dsimp only at hSw)
    go_simp
  simp only [Act.put, List.setIfInBounds_toArray, List.set_cons_zero, List.set_cons_succ]
  refine wpAnyT_take (i := 1) (oi := { dst := some 80, op := Op.load 24 (Operand.tmp 2), type := 24, pos := "outright.go:288", after := #[], guard := none }) (v := (.agg #[(.bool na), (.slice ada xa.length ca)])) rfl (by kernel_rfl) (fun _ _ _ h => h) (Or.inl ⟨by rfl, ?_⟩) ⟨Pq.out.c0, Pq.out.c1, Pa.out.c0, Pa.out.c1⟩ ?_
  · intro w hSw
    (try dsimp only at hSw)
    go_simp
  simp only [Act.put, List.setIfInBounds_toArray, List.set_cons_zero, List.set_cons_succ]
  refine wpAnyT_take (i := 2) (oi := { dst := some 81, op := Op.move (Operand.tmp 1), type := 3, pos := "outright.go:288", after := #[], guard := none }) (v := (.int .i64 (n : Int))) rfl (by kernel_rfl) (fun _ _ _ h => h) (Or.inl ⟨by rfl, ?_⟩) ⟨Pq.out.c0, Pq.out.c1, Pa.out.c0, Pa.out.c1⟩ ?_
  · intro w hSw
    (try dsimp only at hSw)
    go_simp
  simp only [Act.put, List.setIfInBounds_toArray, List.set_cons_zero, List.set_cons_succ]
  refine wpAnyT_take (i := 3) (oi := { dst := some 82, op := Op.binOp BinOp.sub 3 (Operand.tmp 81) (Operand.const (Value.int IntKind.i64 1)) 3, type := 3, pos := "outright.go:288", after := #[{ on := 2, ground := Ground.data }], guard := none }) (v := (.int .i64 ((n : Int) - 1))) rfl (by kernel_rfl) (fun _ _ _ h => h) (Or.inl ⟨by rfl, ?_⟩) ⟨Pq.out.c0, Pq.out.c1, Pa.out.c0, Pa.out.c1⟩ ?_
  · intro w hSw
    (try dsimp only at hSw)
    go_simp
  simp only [Act.put, List.setIfInBounds_toArray, List.set_cons_zero, List.set_cons_succ]
  refine wpAnyT_take (i := 4) (oi := { dst := some 83, op := Op.move (Operand.tmp 8), type := 3, pos := "outright.go:288", after := #[], guard := none }) (v := (.int .i64 X)) rfl (by kernel_rfl) (fun _ _ _ h => h) (Or.inl ⟨by rfl, ?_⟩) ⟨Pq.out.c0, Pq.out.c1, Pa.out.c0, Pa.out.c1⟩ ?_
  · intro w hSw
    (try dsimp only at hSw)
    go_simp
  simp only [Act.put, List.setIfInBounds_toArray, List.set_cons_zero, List.set_cons_succ]
  refine wpAnyT_take (i := 5) (oi := { dst := some 84, op := Op.binOp BinOp.sub 3 (Operand.tmp 82) (Operand.tmp 83) 3, type := 3, pos := "outright.go:288", after := #[{ on := 3, ground := Ground.data }, { on := 4, ground := Ground.data }], guard := none }) (v := (.int .i64 ((n : Int) - 1 - X))) rfl (by kernel_rfl) (fun _ _ _ h => h) (Or.inl ⟨by rfl, ?_⟩) ⟨Pq.out.c0, Pq.out.c1, Pa.out.c0, Pa.out.c1⟩ ?_
  · intro w hSw
    (try dsimp only at hSw)
    go_simp
  simp only [Act.put, List.setIfInBounds_toArray, List.set_cons_zero, List.set_cons_succ]
  refine wpAnyT_one (i := 6) (o := { dst := some 85, op := Op.call { callee := Callee.value (Operand.func 12), args := #[Operand.tmp 84], argTypes := #[3] }, type := 24, pos := "outright.go:288", after := #[{ on := 5, ground := Ground.data }], guard := none }) (by kernel_rfl) rfl (fun K hK => ?_)
  go_simp
  go_at_call 12
  refine (ten_fit HSg.out J1.out T1.out E1.out).mono ?_
  rintro e w23 ⟨r0, rfl, m0, b⟩
  obtain ⟨nt, xt, adt, qt, rfl, -, -, -, -, -⟩ := id m0
  replace Za := hid (Za.out.now b)
  replace Zq := hid (Zq.out.now b)
  replace Zb := hid (Zb.out.now b)
  replace Pa := hid (Pa.out.step b)
  replace Pq := hid (Pq.out.step b)
  replace HT := hid (HT.out.now b)
  replace HSg := hid (HSg.out.now b)
  replace HP := hid (HP.out.now b)
  replace G := hid (below_step G.out b)
  have lz24 := (show Below _ _ _ from b).size
  have Zt := hid m0
  clear b m0
  refine hK.out _ _ (fun _ => ⟨Pq.out.c0, Pq.out.c1, Pa.out.c0, Pa.out.c1⟩) ?_
  clear hK
  refine wpAnyT_one (i := 7) (o := { dst := some 86, op := Op.call { callee := Callee.value (Operand.func 11), args := #[Operand.tmp 80, Operand.tmp 85], argTypes := #[24, 24] }, type := 24, pos := "outright.go:288", after := #[{ on := 1, ground := Ground.data }, { on := 6, ground := Ground.data }, { on := 6, ground := Ground.chain }], guard := none }) (by kernel_rfl) rfl (fun K hK => ?_)
  go_simp
  go_at_call 11
  refine (mul_z Za.out Zt.out.zi (by decide)).mono ?_
  rintro e w25 ⟨r0, rfl, m0, b⟩
  obtain ⟨nm2, xm2, adm2, qm2, rfl, -, -, -, -, -⟩ := id m0
  replace Za := hid (Za.out.now b)
  replace Zq := hid (Zq.out.now b)
  replace Zb := hid (Zb.out.now b)
  replace Zt := hid (Zt.out.now b)
  replace Pa := hid (Pa.out.step b)
  replace Pq := hid (Pq.out.step b)
  replace HT := hid (HT.out.now b)
  replace HSg := hid (HSg.out.now b)
  replace HP := hid (HP.out.now b)
  replace G := hid (below_step G.out b)
  have lz26 := (show Below _ _ _ from b).size
  have Zm2 := hid m0
  clear b m0
  refine hK.out _ _ (fun _ => ⟨Pq.out.c0, Pq.out.c1, Pa.out.c0, Pa.out.c1⟩) ?_
  clear hK
  refine wpAnyT_one (i := 8) (o := { dst := some 87, op := Op.call { callee := Callee.value (Operand.func 10), args := #[Operand.tmp 79, Operand.tmp 86], argTypes := #[24, 24] }, type := 3, pos := "outright.go:288", after := #[{ on := 0, ground := Ground.data }, { on := 7, ground := Ground.data }, { on := 7, ground := Ground.chain }], guard := none }) (by kernel_rfl) rfl (fun K hK => ?_)
  go_simp
  go_at_call 10
  refine (HCQ.out _ _ _ Zq.out.zi Zm2.out.zi).mono ?_
  rintro e w27 ⟨rfl, b⟩
  replace Za := hid (Za.out.now b)
  replace Zq := hid (Zq.out.now b)
  replace Zb := hid (Zb.out.now b)
  replace Zt := hid (Zt.out.now b)
  replace Zm2 := hid (Zm2.out.now b)
  replace Pa := hid (Pa.out.step b)
  replace Pq := hid (Pq.out.step b)
  replace HT := hid (HT.out.now b)
  replace HSg := hid (HSg.out.now b)
  replace HP := hid (HP.out.now b)
  replace G := hid (below_step G.out b)
  have lz28 := (show Below _ _ _ from b).size
  clear b 
  refine hK.out _ _ (fun _ => ⟨Pq.out.c0, Pq.out.c1, Pa.out.c0, Pa.out.c1⟩) ?_
  clear hK
  refine wpAnyT_take (i := 9) (oi := { dst := some 88, op := Op.binOp BinOp.eql 3 (Operand.tmp 87) (Operand.const (Value.int IntKind.i64 0)) 3, type := 4, pos := "outright.go:288", after := #[{ on := 8, ground := Ground.data }], guard := none }) (v := (.bool true)) rfl (by kernel_rfl) (fun _ _ _ h => h) (Or.inl ⟨by rfl, ?_⟩) ⟨Pq.out.c0, Pq.out.c1, Pa.out.c0, Pa.out.c1⟩ ?_
  · intro w hSw
    (try dsimp only at hSw)
    go_simp
  simp only [Act.put, List.setIfInBounds_toArray, List.set_cons_zero, List.set_cons_succ]
  refine wpAnyT_one (i := 10) (o := { dst := some 4, op := Op.assign (Operand.tmp 88), type := 4, pos := "outright.go:288", after := #[{ on := 9, ground := Ground.data }, { on := 8, ground := Ground.chain }, { on := 0, ground := Ground.phase }, { on := 1, ground := Ground.phase }, { on := 2, ground := Ground.phase }, { on := 3, ground := Ground.phase }, { on := 4, ground := Ground.phase }, { on := 5, ground := Ground.phase }, { on := 6, ground := Ground.phase }, { on := 7, ground := Ground.phase }, { on := 8, ground := Ground.phase }, { on := 9, ground := Ground.phase }], guard := none }) (by kernel_rfl) rfl (fun K hK => ?_)
  go_simp
  refine hK.out _ _ (fun h => absurd h (by decide)) ?_
  clear hK
  try simp only [Act.put]
  refine wpAnyT_done (by kernel_rfl) ?_ _
  go_wp2
  go_ret
  exact ⟨rfl, G.out⟩

end Go.Proofs.YtdhmbalkclbhpaaGreatDoor
