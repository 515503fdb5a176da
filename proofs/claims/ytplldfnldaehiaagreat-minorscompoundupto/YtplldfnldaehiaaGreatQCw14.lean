import Derived.Test.YtplldfnldaehiaaGreatQCv14ToCu14
import Derived.Test.YtplldfnldaehiaaGreatQSz14ToLike11
import Derived.Test.YtplldfnldaehiaaGreatQTurn9ToChkN9
set_option maxRecDepth 100000
set_option maxHeartbeats 6400000
set_option linter.unusedVariables false
set_option linter.unusedSimpArgs false
namespace Go.Proofs.YtplldfnldaehiaaGreat
open Go.RowKit
def CoL (W : World) (cm cn gk : Nat) (s7 s89 : Value) (wx : World) : Prop := ∃ t : Nat, s89 = .int .i64 (t : Int) ∧ s7 = .int .i64 ((t * cn : Nat) : Int) ∧ t ≤ cm ∧ gk = cm - t ∧ Below W.heap.size W wx
def CiL (W : World) (tc cn gk : Nat) (s7 s98 : Value) (wx : World) : Prop := ∃ u : Nat, s98 = .int .i64 (u : Int) ∧ s7 = .int .i64 ((tc + u : Nat) : Int) ∧ u ≤ cn ∧ gk = cn - u ∧ Below W.heap.size W wx
theorem sts_get14 {n k t cm : Nat} (hc : cho n k = cm) (ht : t < cm) : (sts14 n k)[t]? = some ((sts14 n k).getD t []) := by
 have hl : (sts14 n k).length = cm := by rw [← hc]; exact lx_len n n k
 simp [show t < (sts14 n k).length by omega]
theorem sts_len14 {n k cm : Nat} (hc : cho n k = cm) : (sts14 n k).length = cm := by rw [← hc]; exact lx_len n n k
theorem sts_ok14 {n k t cm : Nat} (hc : cho n k = cm) (ht : t < cm) : ((sts14 n k).getD t []).length = k ∧ ∀ x ∈ (sts14 n k).getD t [], x < n := by
 have h := sts_mem (n := n) (k := k) (t := t) (by rw [sts_len14 hc]; exact ht)
 exact ⟨h.1, h.2.2⟩
theorem mcp_yes {w : World} {va : Value} {r c k kk : Nat} {xs : List Int} (ha : Mx w va r c xs kk) (hkk : 64 * kk + 7 ≤ 4000000000) (hxl : xs.length = r * c) (hsd : Snd (r : Int) (c : Int) (r * c)) (hkr : k ≤ r) (hkc : k ≤ c) (hc1 : cho r k ≤ 64) (hc2 : cho c k ≤ 64) :
  Calls Tryz.prog 3 #[va, .int .i64 (k : Int)] w (Tru w) := by
 have HS := hid hsd
 have M0 := ha
 obtain ⟨aa, qa, rfl, hr64, hc64⟩ := ha.form
 obtain ⟨la, hla⟩ : ∃ la, r * c = la := ⟨_, rfl⟩
 rw [hla] at M0 ⊢
 have ELA := hid hla
 have HSD : Hid (Snd (r : Int) (c : Int) la) := by unfold Hid; rw [← hla]; exact hsd
 clear hla hsd
 rw [show matv r c (.slice aa la qa) = .agg #[.int .i64 (r : Int), .int .i64 (c : Int), .slice aa la qa] from rfl] at M0 ⊢
 have q1d : decide ((k : Int) < 0) = false := decide_eq_false (by omega)
 have q2d : decide ((r : Int) < (k : Int)) = false := decide_eq_false (by omega)
 have q3d : decide ((c : Int) < (k : Int)) = false := decide_eq_false (by omega)
 obtain ⟨cm, hcm⟩ : ∃ cm, cho r k = cm := ⟨_, rfl⟩
 obtain ⟨cn, hcn⟩ : ∃ cn, cho c k = cn := ⟨_, rfl⟩
 have ECM := hid hcm
 have ECN := hid hcn
 clear hcm hcn
 have HXL := hid hxl
 clear hxl
 obtain ⟨lC, hlC⟩ : ∃ lC, cm * cn = lC := ⟨_, rfl⟩
 have ELC := hid hlC
 have hcm64 : cm ≤ 64 := by rw [← ECM.out]; exact hc1
 have hcn64 : cn ≤ 64 := by rw [← ECN.out]; exact hc2
 have HLC : Hid (lC ≤ 4096) := by unfold Hid; rw [← hlC]; exact Nat.mul_le_mul hcm64 hcn64
 clear hlC
 have hk64 : k ≤ 64 := by omega
 have q4d : decide ((64 : Int) < (cm : Int)) = false := decide_eq_false (by omega)
 have q5d : decide ((64 : Int) < (cn : Int)) = false := decide_eq_false (by omega)
 obtain ⟨W0, hV⟩ : ∃ W0, w.alloc (.cells #[.int .i64 (r : Int), .int .i64 (c : Int), .slice aa la qa] 24) = W0 := ⟨_, rfl⟩
 obtain ⟨b0, sz0⟩ := alo1 w (.cells #[.int .i64 (r : Int), .int .i64 (c : Int), .slice aa la qa] 24)
 rw [hV] at b0 sz0
 have PA : Hid (Cel W0 w.heap.size 24 [.int .i64 (r : Int), .int .i64 (c : Int), .slice aa la qa]) := by
  unfold Hid; rw [← hV]
  exact Cel.new w 24 [.int .i64 (r : Int), .int .i64 (c : Int), .slice aa la qa]
 have G := hid b0
 have MA := hid (M0.now b0)
 clear ha M0 HS
 clear b0 sz0
 have EV := hid hV
 clear hV
 go_enter Tryz.func3, Tryz.ntmps3
 go_wp2_with fail
 rw [EV.out]
 clear EV
 refine (awake14 _).mono ?_
 rintro e w1 ⟨rfl, b⟩
 replace PA := hid (PA.out.step b)
 replace MA := hid (MA.out.now b)
 replace G := hid (below_step G.out b)
 clear b
 have cA0 := PA.out.at (i := 0) rfl
 have cA1 := PA.out.at (i := 1) rfl
 have cA2 := PA.out.at (i := 2) rfl
 go_wp2_with fail
 clear cA0 cA1 cA2
 refine (com_yes MA.out hkk hkr hkc hc1 hc2).mono ?_
 rintro e w2 ⟨vC, rfl, m, b⟩
 replace PA := hid (PA.out.step b)
 replace MA := hid (MA.out.now b)
 replace G := hid (below_step G.out b)
 rw [ECM.out, ECN.out] at m
 obtain ⟨aC, qC, rfl, -, -⟩ := m.mx.form
 rw [ELC.out] at m ⊢
 have MC := hid m
 clear m
 clear b
 obtain ⟨V3, hV⟩ : ∃ V3, w2.alloc (.cells #[.int .i64 ((cm : Int)), .int .i64 ((cn : Int)), .slice aC lC qC] 24) = V3 := ⟨_, rfl⟩
 obtain ⟨b, sz3⟩ := alo1 w2 (.cells #[.int .i64 ((cm : Int)), .int .i64 ((cn : Int)), .slice aC lC qC] 24)
 rw [hV] at b sz3
 replace PA := hid (PA.out.step b)
 replace MA := hid (MA.out.now b)
 replace MC := hid (MC.out.now b)
 replace G := hid (below_step G.out b)
 clear b sz3
 have PC : Hid (Cel V3 w2.heap.size 24 [.int .i64 ((cm : Int)), .int .i64 ((cn : Int)), .slice aC lC qC]) := by unfold Hid; rw [← hV]; exact Cel.new w2 _ _
 have cA0 := PA.out.at (i := 0) rfl
 have cA1 := PA.out.at (i := 1) rfl
 have cA2 := PA.out.at (i := 2) rfl
 rw [← hV] at cA0 cA1 cA2
 have EV : Hid (w2.alloc (.cells #[.int .i64 ((cm : Int)), .int .i64 ((cn : Int)), .slice aC lC qC] 24) = V3) := hV
 clear hV
 go_wp2_with fail
 rw [EV.out]
 clear EV
 clear cA0 cA1 cA2
 obtain ⟨bC, hbC⟩ : ∃ bC, w2.heap.size = bC := ⟨_, rfl⟩
 rw [hbC] at PC ⊢
 clear hbC
 refine (rcheck11).mono ?_
 rintro e w4 ⟨rfl, b⟩
 replace PA := hid (PA.out.step b)
 replace MA := hid (MA.out.now b)
 replace MC := hid (MC.out.now b)
 replace PC := hid (PC.out.step b)
 replace G := hid (below_step G.out b)
 rw [if_pos HSD.out]
 clear b
 have cA0 := PA.out.at (i := 0) rfl
 have cA1 := PA.out.at (i := 1) rfl
 go_wp2_with fail
 clear cA0 cA1
 refine (size_any hr64 hkr).mono ?_
 rintro e w5 ⟨rfl, b⟩
 replace PA := hid (PA.out.step b)
 replace MA := hid (MA.out.now b)
 replace MC := hid (MC.out.now b)
 replace PC := hid (PC.out.step b)
 replace G := hid (below_step G.out b)
 rw [ECM.out]
 clear b
 have cA0 := PA.out.at (i := 0) rfl
 have cA1 := PA.out.at (i := 1) rfl
 go_wp2_with fail
 clear cA0 cA1
 refine (size_any hc64 hkc).mono ?_
 rintro e w6 ⟨rfl, b⟩
 replace PA := hid (PA.out.step b)
 replace MA := hid (MA.out.now b)
 replace MC := hid (MC.out.now b)
 replace PC := hid (PC.out.step b)
 replace G := hid (below_step G.out b)
 rw [ECN.out]
 clear b
 have cA0 := PA.out.at (i := 0) rfl
 have cA1 := PA.out.at (i := 1) rfl
 have cC0 := PC.out.at (i := 0) rfl
 have cC1 := PC.out.at (i := 1) rfl
 have cC2 := PC.out.at (i := 2) rfl
 go_wp2_with fail
 have KB : Hid (∀ w', Below w6.heap.size w6 w' → w'.cell? ⟨w.heap.size, 0, none⟩ = some (.int .i64 (r : Int)) ∧ w'.cell? ⟨w.heap.size, 1, none⟩ = some (.int .i64 (c : Int)) ∧ w'.cell? ⟨bC, 0, none⟩ = some (.int .i64 (cm : Int)) ∧ w'.cell? ⟨bC, 1, none⟩ = some (.int .i64 (cn : Int)) ∧ w'.cell? ⟨bC, 2, none⟩ = some (.slice aC lC qC)) := fun w' h => ⟨cnow h cA0, cnow h cA1, cnow h cC0, cnow h cC1, cnow h cC2⟩
 refine wp_region_tail (fun w' => w'.cell? ⟨w.heap.size, 0, none⟩ = some (.int .i64 (r : Int)) ∧ w'.cell? ⟨w.heap.size, 1, none⟩ = some (.int .i64 (c : Int)) ∧ w'.cell? ⟨bC, 0, none⟩ = some (.int .i64 (cm : Int)) ∧ w'.cell? ⟨bC, 1, none⟩ = some (.int .i64 (cn : Int)) ∧ w'.cell? ⟨bC, 2, none⟩ = some (.slice aC lC qC)) 24 (by kernel_rfl) ?_
 obtain ⟨D61, hD⟩ : ∃ D61, w6.drew = D61 := ⟨_, rfl⟩
 have GB : Hid (Below w6.heap.size w6 D61) := by unfold Hid; rw [← hD]; exact (Below.refl _ _).drew
 rw [hD]
 clear hD
 refine wpAnyT_take (i := 0) (oi := { dst := some 59, op := Op.move (Operand.tmp 6), type := 26, pos := "outright.go:138", after := #[], guard := none }) (v := (.int .i64 0)) rfl (by kernel_rfl) (fun _ _ _ h => h) (Or.inl ⟨by rfl, ?_⟩) (KB.out _ GB.out) ?_
 ·intro w hSw
  (try dsimp only at hSw)
  go_simp
 simp only [Act.put, List.setIfInBounds_toArray, List.set_cons_zero, List.set_cons_succ]
 refine wpAnyT_take (i := 1) (oi := { dst := some 60, op := Op.binOp BinOp.neq 26 (Operand.tmp 59) (Operand.const (Value.int IntKind.i64 0)) 26, type := 4, pos := "outright.go:138", after := #[{ on := 0, ground := Ground.data }], guard := none }) (v := (.bool false)) rfl (by kernel_rfl) (fun _ _ _ h => h) (Or.inl ⟨by rfl, ?_⟩) (KB.out _ GB.out) ?_
 ·intro w hSw
  (try dsimp only at hSw)
  go_simp
 simp only [Act.put, List.setIfInBounds_toArray, List.set_cons_zero, List.set_cons_succ]
 refine wpAnyT_take (i := 2) (oi := { dst := some 61, op := Op.move (Operand.tmp 60), type := 4, pos := "outright.go:138", after := #[{ on := 1, ground := Ground.data }], guard := none }) (v := (.bool false)) rfl (by kernel_rfl) (fun _ _ _ h => h) (Or.inl ⟨by rfl, ?_⟩) (KB.out _ GB.out) ?_
 ·intro w hSw
  (try dsimp only at hSw)
  go_simp
 simp only [Act.put, List.setIfInBounds_toArray, List.set_cons_zero, List.set_cons_succ]
 refine wpAnyT_take (i := 3) (oi := { dst := some 62, op := Op.fieldAddr 24 (Operand.tmp 5) 0, type := 0, pos := "outright.go:138", after := #[{ on := 2, ground := Ground.guard }], guard := some (2, false) }) (v := (.pointer (some ⟨bC, 0, none⟩))) rfl (by kernel_rfl) (fun _ _ _ h => h) (Or.inl ⟨by rfl, ?_⟩) (KB.out _ GB.out) ?_
 ·intro w hSw
  (try dsimp only at hSw)
  go_simp
 simp only [Act.put, List.setIfInBounds_toArray, List.set_cons_zero, List.set_cons_succ]
 refine wpAnyT_take (i := 4) (oi := { dst := some 63, op := Op.load 3 (Operand.tmp 62), type := 3, pos := "outright.go:138", after := #[{ on := 3, ground := Ground.data }, { on := 2, ground := Ground.guard }], guard := some (2, false) }) (v := (.int .i64 (cm : Int))) rfl (by kernel_rfl) (fun _ _ _ h => h) (Or.inl ⟨by rfl, ?_⟩) (KB.out _ GB.out) ?_
 ·intro w hSw
  (try dsimp only at hSw)
  go_simp
 simp only [Act.put, List.setIfInBounds_toArray, List.set_cons_zero, List.set_cons_succ]
 refine wpAnyT_take (i := 5) (oi := { dst := some 64, op := Op.fieldAddr 24 (Operand.tmp 2) 0, type := 0, pos := "outright.go:138", after := #[{ on := 2, ground := Ground.guard }], guard := some (2, false) }) (v := (.pointer (some ⟨w.heap.size, 0, none⟩))) rfl (by kernel_rfl) (fun _ _ _ h => h) (Or.inl ⟨by rfl, ?_⟩) (KB.out _ GB.out) ?_
 ·intro w hSw
  (try dsimp only at hSw)
  go_simp
 simp only [Act.put, List.setIfInBounds_toArray, List.set_cons_zero, List.set_cons_succ]
 refine wpAnyT_take (i := 6) (oi := { dst := some 65, op := Op.load 3 (Operand.tmp 64), type := 3, pos := "outright.go:138", after := #[{ on := 5, ground := Ground.data }, { on := 2, ground := Ground.guard }], guard := some (2, false) }) (v := (.int .i64 (r : Int))) rfl (by kernel_rfl) (fun _ _ _ h => h) (Or.inl ⟨by rfl, ?_⟩) (KB.out _ GB.out) ?_
 ·intro w hSw
  (try dsimp only at hSw)
  go_simp
 simp only [Act.put, List.setIfInBounds_toArray, List.set_cons_zero, List.set_cons_succ]
 refine wpAnyT_take (i := 7) (oi := { dst := some 66, op := Op.move (Operand.tmp 1), type := 3, pos := "outright.go:138", after := #[{ on := 2, ground := Ground.guard }], guard := some (2, false) }) (v := (.int .i64 (k : Int))) rfl (by kernel_rfl) (fun _ _ _ h => h) (Or.inl ⟨by rfl, ?_⟩) (KB.out _ GB.out) ?_
 ·intro w hSw
  (try dsimp only at hSw)
  go_simp
 simp only [Act.put, List.setIfInBounds_toArray, List.set_cons_zero, List.set_cons_succ]
 refine wpAnyT_one (i := 8) (o := { dst := some 67, op := Op.call { callee := Callee.value (Operand.func 8), args := #[Operand.tmp 65, Operand.tmp 66], argTypes := #[3, 3] }, type := 3, pos := "outright.go:138", after := #[{ on := 6, ground := Ground.data }, { on := 7, ground := Ground.data }, { on := 2, ground := Ground.chain }, { on := 2, ground := Ground.guard }], guard := some (2, false) }) (by kernel_rfl) rfl (fun K hK => ?_)
 go_simp
 go_at_call 8
 refine (size_any hr64 hkr).mono ?_
 rintro e w62 ⟨rfl, b⟩
 have lz62 := (show Below _ _ _ from b).size
 replace GB := hid (below_step GB.out b)
 rw [ECM.out]
 clear b
 refine hK.out _ _ (fun _ => KB.out _ GB.out) ?_
 clear hK
 refine wpAnyT_take (i := 9) (oi := { dst := some 68, op := Op.binOp BinOp.neq 3 (Operand.tmp 63) (Operand.tmp 67) 3, type := 4, pos := "outright.go:138", after := #[{ on := 4, ground := Ground.data }, { on := 8, ground := Ground.data }, { on := 2, ground := Ground.guard }], guard := some (2, false) }) (v := (.bool false)) rfl (by kernel_rfl) (fun _ _ _ h => h) (Or.inl ⟨by rfl, ?_⟩) (KB.out _ GB.out) ?_
 ·intro w hSw
  (try dsimp only at hSw)
  go_simp
 simp only [Act.put, List.setIfInBounds_toArray, List.set_cons_zero, List.set_cons_succ]
 refine wpAnyT_take (i := 10) (oi := { dst := some 69, op := Op.pick (Operand.tmp 61) (Operand.const (Value.bool true)) (Operand.tmp 68), type := 4, pos := "outright.go:138", after := #[{ on := 2, ground := Ground.data }, { on := 9, ground := Ground.data }], guard := none }) (v := (.bool false)) rfl (by kernel_rfl) (fun _ _ _ h => h) (Or.inl ⟨by rfl, ?_⟩) (KB.out _ GB.out) ?_
 ·intro w hSw
  (try dsimp only at hSw)
  go_simp
 simp only [Act.put, List.setIfInBounds_toArray, List.set_cons_zero, List.set_cons_succ]
 refine wpAnyT_take (i := 11) (oi := { dst := some 70, op := Op.move (Operand.tmp 69), type := 4, pos := "outright.go:138", after := #[{ on := 10, ground := Ground.data }, { on := 8, ground := Ground.chain }], guard := none }) (v := (.bool false)) rfl (by kernel_rfl) (fun _ _ _ h => h) (Or.inl ⟨by rfl, ?_⟩) (KB.out _ GB.out) ?_
 ·intro w hSw
  (try dsimp only at hSw)
  go_simp
 simp only [Act.put, List.setIfInBounds_toArray, List.set_cons_zero, List.set_cons_succ]
 refine wpAnyT_take (i := 12) (oi := { dst := some 71, op := Op.fieldAddr 24 (Operand.tmp 5) 1, type := 0, pos := "outright.go:138", after := #[{ on := 11, ground := Ground.guard }], guard := some (11, false) }) (v := (.pointer (some ⟨bC, 1, none⟩))) rfl (by kernel_rfl) (fun _ _ _ h => h) (Or.inl ⟨by rfl, ?_⟩) (KB.out _ GB.out) ?_
 ·intro w hSw
  (try dsimp only at hSw)
  go_simp
 simp only [Act.put, List.setIfInBounds_toArray, List.set_cons_zero, List.set_cons_succ]
 refine wpAnyT_take (i := 13) (oi := { dst := some 72, op := Op.load 3 (Operand.tmp 71), type := 3, pos := "outright.go:138", after := #[{ on := 12, ground := Ground.data }, { on := 11, ground := Ground.guard }], guard := some (11, false) }) (v := (.int .i64 (cn : Int))) rfl (by kernel_rfl) (fun _ _ _ h => h) (Or.inl ⟨by rfl, ?_⟩) (KB.out _ GB.out) ?_
 ·intro w hSw
  (try dsimp only at hSw)
  go_simp
 simp only [Act.put, List.setIfInBounds_toArray, List.set_cons_zero, List.set_cons_succ]
 refine wpAnyT_take (i := 14) (oi := { dst := some 73, op := Op.fieldAddr 24 (Operand.tmp 2) 1, type := 0, pos := "outright.go:138", after := #[{ on := 11, ground := Ground.guard }], guard := some (11, false) }) (v := (.pointer (some ⟨w.heap.size, 1, none⟩))) rfl (by kernel_rfl) (fun _ _ _ h => h) (Or.inl ⟨by rfl, ?_⟩) (KB.out _ GB.out) ?_
 ·intro w hSw
  (try dsimp only at hSw)
  go_simp
 simp only [Act.put, List.setIfInBounds_toArray, List.set_cons_zero, List.set_cons_succ]
 refine wpAnyT_take (i := 15) (oi := { dst := some 74, op := Op.load 3 (Operand.tmp 73), type := 3, pos := "outright.go:138", after := #[{ on := 14, ground := Ground.data }, { on := 11, ground := Ground.guard }], guard := some (11, false) }) (v := (.int .i64 (c : Int))) rfl (by kernel_rfl) (fun _ _ _ h => h) (Or.inl ⟨by rfl, ?_⟩) (KB.out _ GB.out) ?_
 ·intro w hSw
  (try dsimp only at hSw)
  go_simp
 simp only [Act.put, List.setIfInBounds_toArray, List.set_cons_zero, List.set_cons_succ]
 refine wpAnyT_take (i := 16) (oi := { dst := some 75, op := Op.move (Operand.tmp 1), type := 3, pos := "outright.go:138", after := #[{ on := 11, ground := Ground.guard }], guard := some (11, false) }) (v := (.int .i64 (k : Int))) rfl (by kernel_rfl) (fun _ _ _ h => h) (Or.inl ⟨by rfl, ?_⟩) (KB.out _ GB.out) ?_
 ·intro w hSw
  (try dsimp only at hSw)
  go_simp
 simp only [Act.put, List.setIfInBounds_toArray, List.set_cons_zero, List.set_cons_succ]
 refine wpAnyT_one (i := 17) (o := { dst := some 76, op := Op.call { callee := Callee.value (Operand.func 8), args := #[Operand.tmp 74, Operand.tmp 75], argTypes := #[3, 3] }, type := 3, pos := "outright.go:138", after := #[{ on := 15, ground := Ground.data }, { on := 16, ground := Ground.data }, { on := 11, ground := Ground.chain }, { on := 11, ground := Ground.guard }], guard := some (11, false) }) (by kernel_rfl) rfl (fun K hK => ?_)
 go_simp
 go_at_call 8
 refine (size_any hc64 hkc).mono ?_
 rintro e w63 ⟨rfl, b⟩
 have lz63 := (show Below _ _ _ from b).size
 replace GB := hid (below_step GB.out b)
 rw [ECN.out]
 clear b
 refine hK.out _ _ (fun _ => KB.out _ GB.out) ?_
 clear hK
 refine wpAnyT_take (i := 18) (oi := { dst := some 77, op := Op.binOp BinOp.neq 3 (Operand.tmp 72) (Operand.tmp 76) 3, type := 4, pos := "outright.go:138", after := #[{ on := 13, ground := Ground.data }, { on := 17, ground := Ground.data }, { on := 11, ground := Ground.guard }], guard := some (11, false) }) (v := (.bool false)) rfl (by kernel_rfl) (fun _ _ _ h => h) (Or.inl ⟨by rfl, ?_⟩) (KB.out _ GB.out) ?_
 ·intro w hSw
  (try dsimp only at hSw)
  go_simp
 simp only [Act.put, List.setIfInBounds_toArray, List.set_cons_zero, List.set_cons_succ]
 refine wpAnyT_take (i := 19) (oi := { dst := some 78, op := Op.pick (Operand.tmp 70) (Operand.const (Value.bool true)) (Operand.tmp 77), type := 4, pos := "outright.go:138", after := #[{ on := 11, ground := Ground.data }, { on := 18, ground := Ground.data }], guard := none }) (v := (.bool false)) rfl (by kernel_rfl) (fun _ _ _ h => h) (Or.inl ⟨by rfl, ?_⟩) (KB.out _ GB.out) ?_
 ·intro w hSw
  (try dsimp only at hSw)
  go_simp
 simp only [Act.put, List.setIfInBounds_toArray, List.set_cons_zero, List.set_cons_succ]
 refine wpAnyT_take (i := 20) (oi := { dst := some 79, op := Op.move (Operand.tmp 78), type := 4, pos := "outright.go:138", after := #[{ on := 19, ground := Ground.data }, { on := 17, ground := Ground.chain }], guard := none }) (v := (.bool false)) rfl (by kernel_rfl) (fun _ _ _ h => h) (Or.inl ⟨by rfl, ?_⟩) (KB.out _ GB.out) ?_
 ·intro w hSw
  (try dsimp only at hSw)
  go_simp
 simp only [Act.put, List.setIfInBounds_toArray, List.set_cons_zero, List.set_cons_succ]
 refine wpAnyT_take (i := 21) (oi := { dst := some 80, op := Op.load 24 (Operand.tmp 5), type := 24, pos := "outright.go:138", after := #[{ on := 20, ground := Ground.guard }], guard := some (20, false) }) (v := (.agg #[.int .i64 (cm : Int), .int .i64 (cn : Int), .slice aC lC qC])) rfl (by kernel_rfl) (fun _ _ _ h => h) (Or.inl ⟨by rfl, ?_⟩) (KB.out _ GB.out) ?_
 ·intro w hSw
  (try dsimp only at hSw)
  go_simp
 simp only [Act.put, List.setIfInBounds_toArray, List.set_cons_zero, List.set_cons_succ]
 refine wpAnyT_one (i := 22) (o := { dst := some 81, op := Op.call { callee := Callee.value (Operand.func 9), args := #[Operand.tmp 80], argTypes := #[24] }, type := 4, pos := "outright.go:138", after := #[{ on := 21, ground := Ground.data }, { on := 20, ground := Ground.chain }, { on := 20, ground := Ground.guard }], guard := some (20, false) }) (by kernel_rfl) rfl (fun K hK => ?_)
 go_simp
 go_at_call 9
 refine (leastMat_yes (MC.out.now GB.out)).mono ?_
 rintro e w64 ⟨rfl, b⟩
 have lz64 := (show Below _ _ _ from b).size
 replace GB := hid (below_step GB.out b)
 clear b
 refine hK.out _ _ (fun _ => KB.out _ GB.out) ?_
 clear hK
 refine wpAnyT_take (i := 23) (oi := { dst := some 82, op := Op.unOp UnOp.not 4 (Operand.tmp 81), type := 4, pos := "outright.go:138", after := #[{ on := 22, ground := Ground.data }, { on := 20, ground := Ground.guard }], guard := some (20, false) }) (v := (.bool false)) rfl (by kernel_rfl) (fun _ _ _ h => h) (Or.inl ⟨by rfl, ?_⟩) (KB.out _ GB.out) ?_
 ·intro w hSw
  (try dsimp only at hSw)
  go_simp
 simp only [Act.put, List.setIfInBounds_toArray, List.set_cons_zero, List.set_cons_succ]
 refine wpAnyT_one (i := 24) (o := { dst := some 83, op := Op.pick (Operand.tmp 79) (Operand.const (Value.bool true)) (Operand.tmp 82), type := 4, pos := "outright.go:138", after := #[{ on := 20, ground := Ground.data }, { on := 23, ground := Ground.data }], guard := none }) (by kernel_rfl) rfl (fun K hK => ?_)
 go_simp
 refine hK.out _ _ (fun h => absurd h (by decide)) ?_
 clear hK
 try simp only [Act.put]
 refine wpAnyT_done (by kernel_rfl) ?_ _
 clear KB
 replace PA := hid (PA.out.step GB.out)
 replace MA := hid (MA.out.now GB.out)
 replace MC := hid (MC.out.now GB.out)
 replace PC := hid (PC.out.step GB.out)
 replace G := hid (below_step G.out GB.out)
 clear GB cA0 cA1 cC0 cC1 cC2
 have cA0 := PA.out.at (i := 0) rfl
 go_wp2_with fail
 clear cA0
 refine (rsets_any hr64 hkr (by omega)).mono ?_
 rintro e w7 ⟨vR, rfl, hR, b⟩
 replace PA := hid (PA.out.step b)
 replace MA := hid (MA.out.now b)
 replace MC := hid (MC.out.now b)
 replace PC := hid (PC.out.step b)
 replace G := hid (below_step G.out b)
 obtain ⟨aR, qR, rfl, -, hgR⟩ := hR.form
 rw [sts_len14 ECM.out] at hR hgR ⊢
 have HR := hid (hR.mono (Nat.zero_le _) (Nat.zero_le _))
 clear hR
 clear b
 have H0 : Hid (CoL w7 cm cn cm (.int .i64 0) (.int .i64 0) w7) := ⟨0, rfl, by simp, Nat.zero_le _, by omega, Below.refl _ _⟩
 go_wp2_with fail
 go_loopg [7, 89] cm (fun gk s7 s89 wx => CoL w7 cm cn gk s7 s89 wx)
 case atStart => exact H0.out
 case round =>
  clear H0
  obtain ⟨t, rfl, rfl, htm, hgk, hbw⟩ := hrel
  have BW := hid hbw
  have HG := hid hgk
  clear hgk
  replace PA := hid (PA.out.step hbw)
  replace MA := hid (MA.out.now hbw)
  replace MC := hid (MC.out.now hbw)
  replace PC := hid (PC.out.step hbw)
  replace HR := hid (HR.out.now hbw)
  replace G := hid (below_step G.out hbw)
  clear hbw
  obtain ⟨tc, htc⟩ : ∃ tc, t * cn = tc := ⟨_, rfl⟩
  have ETC := hid htc
  rw [htc]
  clear htc
  by_cases hlt : t < cm
  ·have hlt' : (t : Int) < (cm : Int) := by omega
   have hwt := wrapI9 (i := t) (by omega)
   have HMM : Hid (cm - (t + 1) < gk) := by unfold Hid; rw [HG.out]; omega
   clear HG
   obtain ⟨gR, rfl⟩ := hgR (by omega)
   obtain ⟨uR, kR, iR⟩ := HR.out.at (sts_get14 ECM.out hlt)
   obtain ⟨ax, cx, rfl, -, -⟩ := iR.form
   have ORk := hid (sts_ok14 ECM.out hlt)
   rw [ORk.out.1] at iR kR
   have IR := hid iR
   clear iR hgR
   have HTC : Hid (tc + cn ≤ lC) := by
    unfold Hid
    rw [← ETC.out, ← ELC.out, ← Nat.succ_mul]
    exact Nat.mul_le_mul_right _ hlt
   have cA1 := PA.out.at (i := 1) rfl
   go_wp2_with fail
   clear cA1
   clear kR
   refine (rsets_any hc64 hkc (by omega)).mono ?_
   rintro e w8 ⟨vS, rfl, hS, b⟩
   replace PA := hid (PA.out.step b)
   replace MA := hid (MA.out.now b)
   replace MC := hid (MC.out.now b)
   replace PC := hid (PC.out.step b)
   replace HR := hid (HR.out.now b)
   replace IR := hid (IR.out.now b)
   replace G := hid (below_step G.out b)
   obtain ⟨aS, qS, rfl, -, hgS⟩ := hS.form
   rw [sts_len14 ECN.out] at hS hgS ⊢
   have HS := hid (hS.mono (Nat.zero_le _) (Nat.zero_le _))
   clear hS
   replace BW := hid (below_step BW.out b)
   clear b
   have H1 : Hid (CiL w8 tc cn cn (.int .i64 (tc : Int)) (.int .i64 0) w8) := ⟨0, rfl, rfl, Nat.zero_le _, by omega, Below.refl _ _⟩
   go_wp2_with fail
   go_loopg [7, 98] cn (fun gk s7 s98 wx => CiL w8 tc cn gk s7 s98 wx)
   case atStart => exact H1.out
   case round =>
    clear H1
    obtain ⟨u, rfl, rfl, hun, hgk, hbw⟩ := hrel
    have BU := hid hbw
    have HG := hid hgk
    clear hgk
    replace PA := hid (PA.out.step hbw)
    replace MA := hid (MA.out.now hbw)
    replace MC := hid (MC.out.now hbw)
    replace PC := hid (PC.out.step hbw)
    replace HR := hid (HR.out.now hbw)
    replace IR := hid (IR.out.now hbw)
    replace HS := hid (HS.out.now hbw)
    replace G := hid (below_step G.out hbw)
    replace BW := hid (below_step BW.out hbw)
    clear hbw
    by_cases hlu : u < cn
    ·have hlu' : (u : Int) < (cn : Int) := by omega
     have hwu := wrapI9 (i := u) (by omega)
     have HMU : Hid (cn - (u + 1) < gk) := by unfold Hid; rw [HG.out]; omega
     clear HG
     obtain ⟨gS, rfl⟩ := hgS (by omega)
     obtain ⟨uS, kS, iS⟩ := HS.out.at (sts_get14 ECN.out hlu)
     obtain ⟨ay, cy, rfl, -, -⟩ := iS.form
     have OSk := hid (sts_ok14 ECN.out hlu)
     rw [OSk.out.1] at iS kS
     have IS := hid iS
     clear iS hgS
     obtain ⟨p, hp⟩ : ∃ p, tc + u = p := ⟨_, rfl⟩
     rw [hp]
     have hpl : p < lC := by have := HTC.out; omega
     have hwp := wrapI9 (i := p) (by have := HLC.out; omega)
     have EP : Hid (tc + (u + 1) = p + 1) := by unfold Hid; omega
     have HMIN := hid (minor_yes MA.out (IR.out.in9 (by rw [ORk.out.1]; omega)) (IS.out.in9 (by rw [OSk.out.1]; omega)) ORk.out.2 OSk.out.2 ORk.out.1 OSk.out.1 hk64 (by omega))
     have hE : (zF cm cn (cpE (en c xs) r c k)).getD p 0 = cpE (en c xs) r c k t u := by
      have h := zF_at (m := cm) (n := cn) (F := cpE (en c xs) r c k) hlt hlu
      rw [ETC.out, hp] at h
      exact h
     clear hp
     have cA0 := PA.out.at (i := 0) rfl
     have cA1 := PA.out.at (i := 1) rfl
     have cA2 := PA.out.at (i := 2) rfl
     go_wp2_with fail
     clear cA0 cA1 cA2
     clear kS
     refine (HMIN.out).mono ?_
     rintro e w9 ⟨rx, rfl, m, b⟩
     replace PA := hid (PA.out.step b)
     replace MA := hid (MA.out.now b)
     replace MC := hid (MC.out.now b)
     replace PC := hid (PC.out.step b)
     replace HR := hid (HR.out.now b)
     replace IR := hid (IR.out.now b)
     replace HS := hid (HS.out.now b)
     replace G := hid (below_step G.out b)
     obtain ⟨nx, xx, ax_, cx_, rfl⟩ := m.parts
     obtain ⟨lx_, hlx⟩ : ∃ lx_, xx.length = lx_ := ⟨_, rfl⟩
     rw [hlx] at m ⊢
     have ZX := hid (m.mono (Nat.zero_le _))
     replace BU := hid (below_step BU.out b)
     replace BW := hid (below_step BW.out b)
     clear m hlx HMIN
     clear b
     obtain ⟨V10, hV⟩ : ∃ V10, w9.alloc (duo (.bool nx) (.slice ax_ lx_ cx_)) = V10 := ⟨_, rfl⟩
     obtain ⟨b, sz10⟩ := alo1 w9 (duo (.bool nx) (.slice ax_ lx_ cx_))
     rw [hV] at b sz10
     replace PA := hid (PA.out.step b)
     replace MA := hid (MA.out.now b)
     replace MC := hid (MC.out.now b)
     replace PC := hid (PC.out.step b)
     replace HR := hid (HR.out.now b)
     replace IR := hid (IR.out.now b)
     replace HS := hid (HS.out.now b)
     replace ZX := hid (ZX.out.now b)
     replace G := hid (below_step G.out b)
     clear b sz10
     have DX : Hid (Duo V10 w9.heap.size (.bool nx) (.slice ax_ lx_ cx_)) := by unfold Hid; rw [← hV]; exact Duo.new w9 _ _
     have bv : Below w9.heap.size w9 V10 := by rw [← hV]; exact (Below.refl _ _).alloc (Nat.le_refl _) _
     replace BU := hid (below_step BU.out bv)
     replace BW := hid (below_step BW.out bv)
     clear bv
     obtain ⟨gC, oC, nc, ac, lc, cc, haC, hpla, x0, x1, zc⟩ := MC.out.ent14 (p := p) (by rw [ELC.out]; exact hpl)
     rw [hE] at zc
     have ZC := hid zc
     clear zc
     subst haC
     have hpli : (p : Int) < (lC : Int) := by omega
     have q6d : decide ((lC : Int) ≤ (p : Int)) = false := decide_eq_false (by omega)
     have d0 := DX.out.c0
     have d1 := DX.out.c1
     have y2 := PC.out.at (i := 2) rfl
     have EV : Hid (w9.alloc (duo (.bool nx) (.slice ax_ lx_ cx_)) = V10) := hV
     clear hV
     go_upto_region 20 with fail
     rw [EV.out]
     clear EV
     obtain ⟨bX, hbX⟩ : ∃ bX, w9.heap.size = bX := ⟨_, rfl⟩
     rw [hbX] at d0 d1 ⊢
     clear hbX
     have KB : Hid (∀ w', Below V10.heap.size V10 w' → w'.cell? ⟨bC, 2, none⟩ = some (.slice (some ⟨gC, oC, none⟩) lC qC) ∧ w'.cell? ⟨bX, 0, none⟩ = some (.bool nx) ∧ w'.cell? ⟨bX, 1, none⟩ = some (.slice ax_ lx_ cx_) ∧ w'.cell? ⟨gC, oC + p * 2, none⟩ = some (.bool nc) ∧ w'.cell? ⟨gC, oC + p * 2 + 1, none⟩ = some (.slice ac lc cc)) := fun w' h => ⟨cnow h y2, cnow h d0, cnow h d1, cnow h x0, cnow h x1⟩
     refine wp_region_tail (fun w' => w'.cell? ⟨bC, 2, none⟩ = some (.slice (some ⟨gC, oC, none⟩) lC qC) ∧ w'.cell? ⟨bX, 0, none⟩ = some (.bool nx) ∧ w'.cell? ⟨bX, 1, none⟩ = some (.slice ax_ lx_ cx_) ∧ w'.cell? ⟨gC, oC + p * 2, none⟩ = some (.bool nc) ∧ w'.cell? ⟨gC, oC + p * 2 + 1, none⟩ = some (.slice ac lc cc)) 18 (by kernel_rfl) ?_
     obtain ⟨D161, hD⟩ : ∃ D161, V10.drew = D161 := ⟨_, rfl⟩
     have GB : Hid (Below V10.heap.size V10 D161) := by unfold Hid; rw [← hD]; exact (Below.refl _ _).drew
     rw [hD]
     clear hD
     refine wpAnyT_take (i := 0) (oi := { dst := some 109, op := Op.move (Operand.tmp 13), type := 26, pos := "outright.go:145", after := #[], guard := none }) (v := (.int .i64 0)) rfl (by kernel_rfl) (fun _ _ _ h => h) (Or.inl ⟨by rfl, ?_⟩) (KB.out _ GB.out) ?_
     ·intro w hSw
      (try dsimp only at hSw)
      go_simp
     simp only [Act.put, List.setIfInBounds_toArray, List.set_cons_zero, List.set_cons_succ]
     refine wpAnyT_take (i := 1) (oi := { dst := some 110, op := Op.binOp BinOp.neq 26 (Operand.tmp 109) (Operand.const (Value.int IntKind.i64 0)) 26, type := 4, pos := "outright.go:145", after := #[{ on := 0, ground := Ground.data }], guard := none }) (v := (.bool false)) rfl (by kernel_rfl) (fun _ _ _ h => h) (Or.inl ⟨by rfl, ?_⟩) (KB.out _ GB.out) ?_
     ·intro w hSw
      (try dsimp only at hSw)
      go_simp
     simp only [Act.put, List.setIfInBounds_toArray, List.set_cons_zero, List.set_cons_succ]
     refine wpAnyT_take (i := 2) (oi := { dst := some 111, op := Op.move (Operand.tmp 110), type := 4, pos := "outright.go:145", after := #[{ on := 1, ground := Ground.data }], guard := none }) (v := (.bool false)) rfl (by kernel_rfl) (fun _ _ _ h => h) (Or.inl ⟨by rfl, ?_⟩) (KB.out _ GB.out) ?_
     ·intro w hSw
      (try dsimp only at hSw)
      go_simp
     simp only [Act.put, List.setIfInBounds_toArray, List.set_cons_zero, List.set_cons_succ]
     refine wpAnyT_take (i := 3) (oi := { dst := some 112, op := Op.move (Operand.tmp 7), type := 3, pos := "outright.go:145", after := #[{ on := 2, ground := Ground.guard }], guard := some (2, false) }) (v := (.int .i64 (p : Int))) rfl (by kernel_rfl) (fun _ _ _ h => h) (Or.inl ⟨by rfl, ?_⟩) (KB.out _ GB.out) ?_
     ·intro w hSw
      (try dsimp only at hSw)
      go_simp
     simp only [Act.put, List.setIfInBounds_toArray, List.set_cons_zero, List.set_cons_succ]
     refine wpAnyT_take (i := 4) (oi := { dst := some 113, op := Op.fieldAddr 24 (Operand.tmp 5) 2, type := 0, pos := "outright.go:145", after := #[{ on := 2, ground := Ground.guard }], guard := some (2, false) }) (v := (.pointer (some ⟨bC, 2, none⟩))) rfl (by kernel_rfl) (fun _ _ _ h => h) (Or.inl ⟨by rfl, ?_⟩) (KB.out _ GB.out) ?_
     ·intro w hSw
      (try dsimp only at hSw)
      go_simp
     simp only [Act.put, List.setIfInBounds_toArray, List.set_cons_zero, List.set_cons_succ]
     refine wpAnyT_take (i := 5) (oi := { dst := some 114, op := Op.load 22 (Operand.tmp 113), type := 22, pos := "outright.go:145", after := #[{ on := 4, ground := Ground.data }, { on := 2, ground := Ground.guard }], guard := some (2, false) }) (v := (.slice (some ⟨gC, oC, none⟩) lC qC)) rfl (by kernel_rfl) (fun _ _ _ h => h) (Or.inl ⟨by rfl, ?_⟩) (KB.out _ GB.out) ?_
     ·intro w hSw
      (try dsimp only at hSw)
      go_simp
     simp only [Act.put, List.setIfInBounds_toArray, List.set_cons_zero, List.set_cons_succ]
     refine wpAnyT_take (i := 6) (oi := { dst := some 115, op := Op.call { callee := Callee.builtin Builtin.len, args := #[Operand.tmp 114], argTypes := #[22] }, type := 3, pos := "outright.go:145", after := #[{ on := 5, ground := Ground.data }, { on := 2, ground := Ground.guard }], guard := some (2, false) }) (v := (.int .i64 (lC : Int))) rfl (by kernel_rfl) (fun _ _ _ h => h) (Or.inl ⟨by rfl, ?_⟩) (KB.out _ GB.out) ?_
     ·intro w hSw
      (try dsimp only at hSw)
      go_simp
     simp only [Act.put, List.setIfInBounds_toArray, List.set_cons_zero, List.set_cons_succ]
     refine wpAnyT_take (i := 7) (oi := { dst := some 116, op := Op.binOp BinOp.geq 3 (Operand.tmp 112) (Operand.tmp 115) 3, type := 4, pos := "outright.go:145", after := #[{ on := 3, ground := Ground.data }, { on := 6, ground := Ground.data }, { on := 2, ground := Ground.guard }], guard := some (2, false) }) (v := (.bool false)) rfl (by kernel_rfl) (fun _ _ _ h => h) (Or.inl ⟨by rfl, ?_⟩) (KB.out _ GB.out) ?_
     ·intro w hSw
      (try dsimp only at hSw)
      go_simp
     simp only [Act.put, List.setIfInBounds_toArray, List.set_cons_zero, List.set_cons_succ]
     refine wpAnyT_take (i := 8) (oi := { dst := some 117, op := Op.pick (Operand.tmp 111) (Operand.const (Value.bool true)) (Operand.tmp 116), type := 4, pos := "outright.go:145", after := #[{ on := 2, ground := Ground.data }, { on := 7, ground := Ground.data }], guard := none }) (v := (.bool false)) rfl (by kernel_rfl) (fun _ _ _ h => h) (Or.inl ⟨by rfl, ?_⟩) (KB.out _ GB.out) ?_
     ·intro w hSw
      (try dsimp only at hSw)
      go_simp
     simp only [Act.put, List.setIfInBounds_toArray, List.set_cons_zero, List.set_cons_succ]
     refine wpAnyT_take (i := 9) (oi := { dst := some 118, op := Op.move (Operand.tmp 117), type := 4, pos := "outright.go:145", after := #[{ on := 8, ground := Ground.data }, { on := 2, ground := Ground.chain }], guard := none }) (v := (.bool false)) rfl (by kernel_rfl) (fun _ _ _ h => h) (Or.inl ⟨by rfl, ?_⟩) (KB.out _ GB.out) ?_
     ·intro w hSw
      (try dsimp only at hSw)
      go_simp
     simp only [Act.put, List.setIfInBounds_toArray, List.set_cons_zero, List.set_cons_succ]
     refine wpAnyT_take (i := 10) (oi := { dst := some 119, op := Op.load 37 (Operand.tmp 12), type := 37, pos := "outright.go:145", after := #[{ on := 9, ground := Ground.guard }], guard := some (9, false) }) (v := (.agg #[.bool nx, .slice ax_ lx_ cx_])) rfl (by kernel_rfl) (fun _ _ _ h => h) (Or.inl ⟨by rfl, ?_⟩) (KB.out _ GB.out) ?_
     ·intro w hSw
      (try dsimp only at hSw)
      go_simp
     simp only [Act.put, List.setIfInBounds_toArray, List.set_cons_zero, List.set_cons_succ]
     refine wpAnyT_take (i := 11) (oi := { dst := some 120, op := Op.fieldAddr 24 (Operand.tmp 5) 2, type := 0, pos := "outright.go:145", after := #[{ on := 9, ground := Ground.guard }], guard := some (9, false) }) (v := (.pointer (some ⟨bC, 2, none⟩))) rfl (by kernel_rfl) (fun _ _ _ h => h) (Or.inl ⟨by rfl, ?_⟩) (KB.out _ GB.out) ?_
     ·intro w hSw
      (try dsimp only at hSw)
      go_simp
     simp only [Act.put, List.setIfInBounds_toArray, List.set_cons_zero, List.set_cons_succ]
     refine wpAnyT_take (i := 12) (oi := { dst := some 121, op := Op.load 22 (Operand.tmp 120), type := 22, pos := "outright.go:145", after := #[{ on := 11, ground := Ground.data }, { on := 9, ground := Ground.guard }], guard := some (9, false) }) (v := (.slice (some ⟨gC, oC, none⟩) lC qC)) rfl (by kernel_rfl) (fun _ _ _ h => h) (Or.inl ⟨by rfl, ?_⟩) (KB.out _ GB.out) ?_
     ·intro w hSw
      (try dsimp only at hSw)
      go_simp
     simp only [Act.put, List.setIfInBounds_toArray, List.set_cons_zero, List.set_cons_succ]
     refine wpAnyT_take (i := 13) (oi := { dst := some 122, op := Op.move (Operand.tmp 7), type := 3, pos := "outright.go:145", after := #[{ on := 9, ground := Ground.guard }], guard := some (9, false) }) (v := (.int .i64 (p : Int))) rfl (by kernel_rfl) (fun _ _ _ h => h) (Or.inl ⟨by rfl, ?_⟩) (KB.out _ GB.out) ?_
     ·intro w hSw
      (try dsimp only at hSw)
      go_simp
     simp only [Act.put, List.setIfInBounds_toArray, List.set_cons_zero, List.set_cons_succ]
     refine wpAnyT_take (i := 14) (oi := { dst := some 123, op := Op.indexAddr 22 (Operand.tmp 121) (Operand.tmp 122), type := 0, pos := "outright.go:145", after := #[{ on := 12, ground := Ground.data }, { on := 13, ground := Ground.data }, { on := 9, ground := Ground.guard }], guard := some (9, false) }) (v := (.pointer (some ⟨gC, oC + p * 2, none⟩))) rfl (by kernel_rfl) (fun _ _ _ h => h) (Or.inl ⟨by rfl, ?_⟩) (KB.out _ GB.out) ?_
     ·intro w hSw
      (try dsimp only at hSw)
      go_simp
     simp only [Act.put, List.setIfInBounds_toArray, List.set_cons_zero, List.set_cons_succ]
     refine wpAnyT_take (i := 15) (oi := { dst := some 124, op := Op.load 37 (Operand.tmp 123), type := 37, pos := "outright.go:145", after := #[{ on := 14, ground := Ground.data }, { on := 9, ground := Ground.guard }], guard := some (9, false) }) (v := (.agg #[.bool nc, .slice ac lc cc])) rfl (by kernel_rfl) (fun _ _ _ h => h) (Or.inl ⟨by rfl, ?_⟩) (KB.out _ GB.out) ?_
     ·intro w hSw
      (try dsimp only at hSw)
      go_simp
     simp only [Act.put, List.setIfInBounds_toArray, List.set_cons_zero, List.set_cons_succ]
     refine wpAnyT_one (i := 16) (o := { dst := some 125, op := Op.call { callee := Callee.value (Operand.func 12), args := #[Operand.tmp 119, Operand.tmp 124], argTypes := #[37, 37] }, type := 4, pos := "outright.go:145", after := #[{ on := 10, ground := Ground.data }, { on := 15, ground := Ground.data }, { on := 9, ground := Ground.chain }, { on := 9, ground := Ground.guard }], guard := some (9, false) }) (by kernel_rfl) rfl (fun K hK => ?_)
     go_simp
     go_at_call 12
     refine (like_yes (ZX.out.now GB.out).zc (ZC.out.now GB.out) rfl).mono ?_
     rintro e w162 ⟨rfl, b⟩
     have lz162 := (show Below _ _ _ from b).size
     replace GB := hid (below_step GB.out b)
     clear b
     refine hK.out _ _ (fun _ => KB.out _ GB.out) ?_
     clear hK
     refine wpAnyT_take (i := 17) (oi := { dst := some 126, op := Op.unOp UnOp.not 4 (Operand.tmp 125), type := 4, pos := "outright.go:145", after := #[{ on := 16, ground := Ground.data }, { on := 9, ground := Ground.guard }], guard := some (9, false) }) (v := (.bool false)) rfl (by kernel_rfl) (fun _ _ _ h => h) (Or.inl ⟨by rfl, ?_⟩) (KB.out _ GB.out) ?_
     ·intro w hSw
      (try dsimp only at hSw)
      go_simp
     simp only [Act.put, List.setIfInBounds_toArray, List.set_cons_zero, List.set_cons_succ]
     refine wpAnyT_one (i := 18) (o := { dst := some 127, op := Op.pick (Operand.tmp 118) (Operand.const (Value.bool true)) (Operand.tmp 126), type := 4, pos := "outright.go:145", after := #[{ on := 9, ground := Ground.data }, { on := 17, ground := Ground.data }], guard := none }) (by kernel_rfl) rfl (fun K hK => ?_)
     go_simp
     refine hK.out _ _ (fun h => absurd h (by decide)) ?_
     clear hK
     try simp only [Act.put]
     refine wpAnyT_done (by kernel_rfl) ?_ _
     have HN1 : Hid (CiL w8 tc cn (cn - (u + 1)) (.int .i64 ((p + 1 : Nat) : Int)) (.int .i64 ((u + 1 : Nat) : Int)) w162) := ⟨u + 1, rfl, by rw [EP.out], by omega, rfl, below_step BU.out GB.out⟩
     clear KB GB
     go_wp2_with fail
     go_roundg (cn - (u + 1))
     case rel => exact HN1.out
     case measure => exact HMU.out
    ·have hlu' : ¬ (u : Int) < (cn : Int) := by omega
     obtain rfl : u = cn := by omega
     have HN2 : Hid (CoL w7 cm u (cm - (t + 1)) (.int .i64 ((tc + u : Nat) : Int)) (.int .i64 ((t + 1 : Nat) : Int)) wr) := ⟨t + 1, rfl, by rw [← ETC.out, Nat.succ_mul], by omega, rfl, BW.out⟩
     clear HG
     go_wp2_with fail
     go_roundg (cm - (t + 1))
     case rel => exact HN2.out
     case measure => exact HMM.out
  ·have hlt' : ¬ (t : Int) < (cm : Int) := by omega
   obtain rfl : t = cm := by omega
   obtain rfl : tc = lC := by rw [← ETC.out, ← ELC.out]
   clear HG
   clear HR
   have cA0 := PA.out.at (i := 0) rfl
   have cA1 := PA.out.at (i := 1) rfl
   have cA2 := PA.out.at (i := 2) rfl
   go_wp2_with fail
   clear cA0 cA1 cA2
   refine (least_yes9 MA.out).mono ?_
   rintro e w11 ⟨vL, rfl, m, b⟩
   replace PA := hid (PA.out.step b)
   replace MA := hid (MA.out.now b)
   replace MC := hid (MC.out.now b)
   replace PC := hid (PC.out.step b)
   replace G := hid (below_step G.out b)
   obtain ⟨aL, qL, rfl, -, -⟩ := m.mx.form
   rw [ELA.out] at m ⊢
   have ML := hid m
   clear m
   clear b
   obtain ⟨V12, hV⟩ : ∃ V12, w11.alloc (.cells #[.int .i64 ((r : Int)), .int .i64 ((c : Int)), .slice aL la qL] 24) = V12 := ⟨_, rfl⟩
   obtain ⟨b, sz12⟩ := alo1 w11 (.cells #[.int .i64 ((r : Int)), .int .i64 ((c : Int)), .slice aL la qL] 24)
   rw [hV] at b sz12
   replace PA := hid (PA.out.step b)
   replace MA := hid (MA.out.now b)
   replace MC := hid (MC.out.now b)
   replace PC := hid (PC.out.step b)
   replace ML := hid (ML.out.now b)
   replace G := hid (below_step G.out b)
   clear b sz12
   have PL : Hid (Cel V12 w11.heap.size 24 [.int .i64 ((r : Int)), .int .i64 ((c : Int)), .slice aL la qL]) := by unfold Hid; rw [← hV]; exact Cel.new w11 _ _
   by_cases hk0 : k = 0
   ·subst hk0
    have h1 : tc = 1 := by rw [← ELC.out, ← ECM.out, ← ECN.out, cho_zero14, cho_zero14]
    have q7 : ((tc : Int) == 1) = true := by rw [h1]; rfl
    have q7e : (tc : Int) = 1 := by omega
    have h0p : (0 : Int) < (tc : Int) := by omega
    have hE : (zF t cn (cpE (en c xs) r c 0)).getD 0 0 = 1 := by
     have h := cp_zero14 (m := r) (n := c) (A := en c xs)
     rw [ECM.out, ECN.out] at h
     rw [h]
     rfl
    obtain ⟨gC, oC, nc, ac, lc, cc, haC, hpla, x0, x1, zc⟩ := MC.out.ent14 (p := 0) (by rw [ELC.out]; omega)
    rw [hE] at zc
    have ZC := hid zc
    clear zc
    subst haC
    rw [Nat.zero_mul, Nat.add_zero] at x0 x1
    have y2 := PC.out.at (i := 2) rfl
    have EV : Hid (w11.alloc (.cells #[.int .i64 ((r : Int)), .int .i64 ((c : Int)), .slice aL la qL] 24) = V12) := hV
    clear hV
    go_upto_region 27 with fail
    rw [EV.out]
    clear EV
    have KB : Hid (∀ w', Below V12.heap.size V12 w' → w'.cell? ⟨bC, 2, none⟩ = some (.slice (some ⟨gC, oC, none⟩) tc qC) ∧ w'.cell? ⟨gC, oC, none⟩ = some (.bool nc) ∧ w'.cell? ⟨gC, oC + 1, none⟩ = some (.slice ac lc cc)) := fun w' h => ⟨cnow h y2, cnow h x0, cnow h x1⟩
    refine wp_region_tail (fun w' => w'.cell? ⟨bC, 2, none⟩ = some (.slice (some ⟨gC, oC, none⟩) tc qC) ∧ w'.cell? ⟨gC, oC, none⟩ = some (.bool nc) ∧ w'.cell? ⟨gC, oC + 1, none⟩ = some (.slice ac lc cc)) 10 (by kernel_rfl) ?_
    obtain ⟨D261, hD⟩ : ∃ D261, V12.drew = D261 := ⟨_, rfl⟩
    have GB : Hid (Below V12.heap.size V12 D261) := by unfold Hid; rw [← hD]; exact (Below.refl _ _).drew
    rw [hD]
    clear hD
    refine wpAnyT_take (i := 0) (oi := { dst := some 139, op := Op.move (Operand.tmp 7), type := 3, pos := "outright.go:153", after := #[], guard := none }) (v := (.int .i64 (tc : Int))) rfl (by kernel_rfl) (fun _ _ _ h => h) (Or.inl ⟨by rfl, ?_⟩) (KB.out _ GB.out) ?_
    ·intro w hSw
     (try dsimp only at hSw)
     go_simp
    simp only [Act.put, List.setIfInBounds_toArray, List.set_cons_zero, List.set_cons_succ]
    refine wpAnyT_take (i := 1) (oi := { dst := some 140, op := Op.binOp BinOp.eql 3 (Operand.tmp 139) (Operand.const (Value.int IntKind.i64 1)) 3, type := 4, pos := "outright.go:153", after := #[{ on := 0, ground := Ground.data }], guard := none }) (v := (.bool true)) rfl (by kernel_rfl) (fun _ _ _ h => h) (Or.inl ⟨by rfl, ?_⟩) (KB.out _ GB.out) ?_
    ·intro w hSw
     (try dsimp only at hSw)
     go_simp
    simp only [Act.put, List.setIfInBounds_toArray, List.set_cons_zero, List.set_cons_succ]
    refine wpAnyT_take (i := 2) (oi := { dst := some 141, op := Op.move (Operand.tmp 140), type := 4, pos := "outright.go:153", after := #[{ on := 1, ground := Ground.data }], guard := none }) (v := (.bool true)) rfl (by kernel_rfl) (fun _ _ _ h => h) (Or.inl ⟨by rfl, ?_⟩) (KB.out _ GB.out) ?_
    ·intro w hSw
     (try dsimp only at hSw)
     go_simp
    simp only [Act.put, List.setIfInBounds_toArray, List.set_cons_zero, List.set_cons_succ]
    refine wpAnyT_take (i := 3) (oi := { dst := some 142, op := Op.fieldAddr 24 (Operand.tmp 5) 2, type := 0, pos := "outright.go:153", after := #[{ on := 2, ground := Ground.guard }], guard := some (2, true) }) (v := (.pointer (some ⟨bC, 2, none⟩))) rfl (by kernel_rfl) (fun _ _ _ h => h) (Or.inl ⟨by rfl, ?_⟩) (KB.out _ GB.out) ?_
    ·intro w hSw
     (try dsimp only at hSw)
     go_simp
    simp only [Act.put, List.setIfInBounds_toArray, List.set_cons_zero, List.set_cons_succ]
    refine wpAnyT_take (i := 4) (oi := { dst := some 143, op := Op.load 22 (Operand.tmp 142), type := 22, pos := "outright.go:153", after := #[{ on := 3, ground := Ground.data }, { on := 2, ground := Ground.guard }], guard := some (2, true) }) (v := (.slice (some ⟨gC, oC, none⟩) tc qC)) rfl (by kernel_rfl) (fun _ _ _ h => h) (Or.inl ⟨by rfl, ?_⟩) (KB.out _ GB.out) ?_
    ·intro w hSw
     (try dsimp only at hSw)
     go_simp
    simp only [Act.put, List.setIfInBounds_toArray, List.set_cons_zero, List.set_cons_succ]
    refine wpAnyT_take (i := 5) (oi := { dst := some 144, op := Op.indexAddr 22 (Operand.tmp 143) (Operand.const (Value.int IntKind.i64 0)), type := 0, pos := "outright.go:153", after := #[{ on := 4, ground := Ground.data }, { on := 2, ground := Ground.guard }], guard := some (2, true) }) (v := (.pointer (some ⟨gC, oC, none⟩))) rfl (by kernel_rfl) (fun _ _ _ h => h) (Or.inl ⟨by rfl, ?_⟩) (KB.out _ GB.out) ?_
    ·intro w hSw
     (try dsimp only at hSw)
     go_simp
    simp only [Act.put, List.setIfInBounds_toArray, List.set_cons_zero, List.set_cons_succ]
    refine wpAnyT_take (i := 6) (oi := { dst := some 145, op := Op.load 37 (Operand.tmp 144), type := 37, pos := "outright.go:153", after := #[{ on := 5, ground := Ground.data }, { on := 2, ground := Ground.guard }], guard := some (2, true) }) (v := (.agg #[.bool nc, .slice ac lc cc])) rfl (by kernel_rfl) (fun _ _ _ h => h) (Or.inl ⟨by rfl, ?_⟩) (KB.out _ GB.out) ?_
    ·intro w hSw
     (try dsimp only at hSw)
     go_simp
    simp only [Act.put, List.setIfInBounds_toArray, List.set_cons_zero, List.set_cons_succ]
    refine wpAnyT_one (i := 7) (o := { dst := some 146, op := Op.call { callee := Callee.value (Operand.func 14), args := #[Operand.const (Value.int IntKind.i64 1)], argTypes := #[2] }, type := 37, pos := "outright.go:153", after := #[{ on := 2, ground := Ground.chain }, { on := 2, ground := Ground.guard }], guard := some (2, true) }) (by kernel_rfl) rfl (fun K hK => ?_)
    go_simp
    go_at_call 14
    refine (of_z (n := 1) (by decide) (by decide) _).mono ?_
    rintro e w262 ⟨rO, rfl, mO, b⟩
    have lz262 := (show Below _ _ _ from b).size
    replace GB := hid (below_step GB.out b)
    have MO := hid mO
    clear mO
    clear b
    refine hK.out _ _ (fun _ => KB.out _ GB.out) ?_
    clear hK
    refine wpAnyT_one (i := 8) (o := { dst := some 147, op := Op.call { callee := Callee.value (Operand.func 12), args := #[Operand.tmp 145, Operand.tmp 146], argTypes := #[37, 37] }, type := 4, pos := "outright.go:153", after := #[{ on := 6, ground := Ground.data }, { on := 7, ground := Ground.data }, { on := 7, ground := Ground.chain }, { on := 2, ground := Ground.guard }], guard := some (2, true) }) (by kernel_rfl) rfl (fun K hK => ?_)
    go_simp
    go_at_call 12
    refine (like_yes (ZC.out.now GB.out) MO.out.zc rfl).mono ?_
    rintro e w263 ⟨rfl, b⟩
    have lz263 := (show Below _ _ _ from b).size
    replace GB := hid (below_step GB.out b)
    clear b
    refine hK.out _ _ (fun _ => KB.out _ GB.out) ?_
    clear hK
    refine wpAnyT_take (i := 9) (oi := { dst := some 148, op := Op.pick (Operand.tmp 141) (Operand.tmp 147) (Operand.const (Value.bool false)), type := 4, pos := "outright.go:153", after := #[{ on := 2, ground := Ground.data }, { on := 8, ground := Ground.data }], guard := none }) (v := (.bool true)) rfl (by kernel_rfl) (fun _ _ _ h => h) (Or.inl ⟨by rfl, ?_⟩) (KB.out _ GB.out) ?_
    ·intro w hSw
     (try dsimp only at hSw)
     go_simp
    simp only [Act.put, List.setIfInBounds_toArray, List.set_cons_zero, List.set_cons_succ]
    refine wpAnyT_one (i := 10) (o := { dst := some 4, op := Op.assign (Operand.tmp 148), type := 4, pos := "outright.go:153", after := #[{ on := 9, ground := Ground.data }, { on := 8, ground := Ground.chain }, { on := 0, ground := Ground.phase }, { on := 1, ground := Ground.phase }, { on := 2, ground := Ground.phase }, { on := 3, ground := Ground.phase }, { on := 4, ground := Ground.phase }, { on := 5, ground := Ground.phase }, { on := 6, ground := Ground.phase }, { on := 7, ground := Ground.phase }, { on := 8, ground := Ground.phase }, { on := 9, ground := Ground.phase }], guard := none }) (by kernel_rfl) rfl (fun K hK => ?_)
    go_simp
    refine hK.out _ _ (fun h => absurd h (by decide)) ?_
    clear hK
    try simp only [Act.put]
    refine wpAnyT_done (by kernel_rfl) ?_ _
    replace G := hid (below_step G.out GB.out)
    clear KB GB
    go_wp2
    go_ret
    exact ⟨rfl, G.out⟩
   ·have hk0' : ¬ (k : Int) = 0 := by omega
    have q8 : ((k : Int) == 0) = false := by simp; omega
    have q9 : ((tc : Int) == (tc : Int)) = true := by simp
    by_cases hk1 : 1 < k
    ·have q10 : decide ((1 : Int) < (k : Int)) = true := decide_eq_true (by omega)
     have y2 := PC.out.at (i := 2) rfl
     rw [← hV] at y2
     have EV : Hid (w11.alloc (.cells #[.int .i64 ((r : Int)), .int .i64 ((c : Int)), .slice aL la qL] 24) = V12) := hV
     clear hV
     go_wp2_with fail
     rw [EV.out]
     go_ret
     exact ⟨rfl, G.out⟩
    ·have q10 : decide ((1 : Int) < (k : Int)) = false := decide_eq_false (by omega)
     obtain rfl : k = 1 := by omega
     have hEQ : zF t cn (cpE (en c xs) r c 1) = xs := by
      have h := cp_one14 HXL.out
      rw [ECM.out, ECN.out] at h
      exact h
     obtain rfl : r = t := by rw [← ECM.out, cho_one14]
     obtain rfl : c = cn := by rw [← ECN.out, cho_one14]
     have cC0 := PC.out.at (i := 0) rfl
     have cC1 := PC.out.at (i := 1) rfl
     have cC2 := PC.out.at (i := 2) rfl
     have cL0 := PL.out.at (i := 0) rfl
     have cL1 := PL.out.at (i := 1) rfl
     have cL2 := PL.out.at (i := 2) rfl
     rw [← hV] at cC0 cC1 cC2 cL0 cL1 cL2
     have EV : Hid (w11.alloc (.cells #[.int .i64 ((r : Int)), .int .i64 ((c : Int)), .slice aL la qL] 24) = V12) := hV
     clear hV
     go_wp2_with fail
     rw [EV.out]
     clear EV
     clear cC0 cC1 cC2 cL0 cL1 cL2
     refine (likeMat_yes MC.out ML.out hEQ).mono ?_
     rintro e w13 ⟨rfl, b⟩
     replace PA := hid (PA.out.step b)
     replace MA := hid (MA.out.now b)
     replace MC := hid (MC.out.now b)
     replace PC := hid (PC.out.step b)
     replace ML := hid (ML.out.now b)
     replace PL := hid (PL.out.step b)
     replace G := hid (below_step G.out b)
     clear b
     go_wp2
     go_ret
     exact ⟨rfl, G.out⟩
end Go.Proofs.YtplldfnldaehiaaGreat
