/-
  Texts5: ZintTexts.
-/
import Derived.Test.YtpnekeapbpkioaaDoorQZReads
import Derived.Test.YtpnekeapbpkioaaDoorQDec4ToAwake5
namespace Go.Proofs.YtpnekeapbpkioaaDoor
open Go.RowKit
set_option linter.unusedVariables false

theorem cut_digits {l : List UInt8} (h : l ≠ []) (hg : Good 10 l) : cutS l = (false, l) := by
  cases l with
  | nil => exact absurd rfl h
  | cons c r =>
    have h1 := hg c (List.mem_cons_self ..)
    have hb : 48 ≤ c.toNat ∧ c.toNat ≤ 57 := by
      unfold dv at h1
      (repeat' split at h1) <;> omega
    unfold cutS
    rw [if_neg (fun e => by simp at e; rw [e] at hb; exact absurd hb (by decide)), if_neg (fun e => by simp at e; rw [e] at hb; exact absurd hb (by decide)), if_neg (fun e => by simp at e; rw [e.1] at hb; exact absurd hb (by decide))]
theorem good_zero {l : List UInt8} (hg : Good 10 l) : Good 10 (48 :: l) := fun b hb => by
  rcases List.mem_cons.1 hb with rfl | q
  · decide
  · exact hg b q
theorem ofD_zero (l : List UInt8) : ofD 10 (dsL (48 :: l)) = ofD 10 (dsL l) := by
  have e : dsL (48 :: l) = 0 :: dsL l := rfl
  rw [e, ofD_cons]
  omega
/-- The text of an integer as a list of bytes. -/
def ztL (z : Int) : List UInt8 := if z < 0 then 45 :: txtL 10 z.natAbs else txtL 10 z.natAbs
theorem ztxt_list (z : Int) : ztxt z = ⟨(ztL z).toArray⟩ := by
  unfold ztxt ztL txt
  split
  · apply ByteArray.ext; simp
  · rfl
theorem ztL_reads (z : Int) : Takes (ztL z) ∧ sval (ztL z) = z := by
  obtain ⟨⟨h1, h2⟩, h3⟩ := txt_back (B := 10) (n := z.natAbs) (by omega) (by omega)
  unfold Takes sval ztL
  by_cases hz : z < 0
  · rw [if_pos hz]
    have e : cutS (45 :: txtL 10 z.natAbs) = (true, txtL 10 z.natAbs) := by simp [cutS]
    rw [e]
    refine ⟨⟨h1, h2⟩, ?_⟩
    simp only [if_true, h3]
    omega
  · rw [if_neg hz, cut_digits h1 h2]
    refine ⟨⟨h1, h2⟩, ?_⟩
    simp only [h3]
    simp
    omega
theorem plus_reads (n : Nat) : Takes (43 :: 48 :: 48 :: txtL 10 n) ∧ sval (43 :: 48 :: 48 :: txtL 10 n) = n := by
  obtain ⟨⟨h1, h2⟩, h3⟩ := txt_back (B := 10) (n := n) (by omega) (by omega)
  have e : cutS (43 :: 48 :: 48 :: txtL 10 n) = (false, 48 :: 48 :: txtL 10 n) := by simp [cutS]
  unfold Takes sval
  rw [e]
  refine ⟨⟨by simp, good_zero (good_zero h2)⟩, ?_⟩
  simp only [ofD_zero, h3]
  simp
theorem long_reads (n : Nat) : Takes (226 :: 136 :: 146 :: 48 :: txtL 10 n) ∧ sval (226 :: 136 :: 146 :: 48 :: txtL 10 n) = -(n : Int) := by
  obtain ⟨⟨h1, h2⟩, h3⟩ := txt_back (B := 10) (n := n) (by omega) (by omega)
  have e : cutS (226 :: 136 :: 146 :: 48 :: txtL 10 n) = (true, 48 :: txtL 10 n) := by simp [cutS]
  unfold Takes sval
  rw [e]
  refine ⟨⟨by simp, good_zero h2⟩, ?_⟩
  simp only [ofD_zero, h3]
  simp
theorem txt_head {n : Nat} (hn : n ≠ 0) : ∃ c r, txtL 10 n = c :: r ∧ 49 ≤ c.toNat ∧ c.toNat ≤ 57 := by
  have h0 := txtL_ne (B := 10) (by omega) hn
  unfold txtL at h0 ⊢
  rw [if_neg hn] at h0 ⊢
  cases hl : lead (digF 10 n n) with
  | nil => rw [hl] at h0; exact absurd rfl h0
  | cons d t =>
    have h1 := lead_head hl
    have h2 : d < 10 := digF_lt (by omega) n n d (mem_lead (by rw [hl]; exact List.mem_cons_self ..))
    refine ⟨sgnB d, t.map sgnB, rfl, ?_⟩
    rw [sgnB_nat (by omega)]
    unfold sgn
    split <;> omega

set_option maxHeartbeats 6400000 in
set_option maxRecDepth 100000 in
theorem zintTexts_zero {w : World} {va : Value} {A : Int} {l : List UInt8} (ha : Zi w va A 1048576) (hl : l.length ≤ 1048576) (hT : Sg w) (hA : A = 0) :
    Calls Tryd.prog 3 #[va, .string ⟨l.toArray⟩] w fun e w' => e = .returned (.bool true) ∧ Below w.heap.size w w' := by
  have HRD : Hid (∀ w, Sg w → Calls Tryd.prog 5 #[.string ⟨l.toArray⟩] w fun e w' => e = .returned (.bool true) ∧ Below w.heap.size w w') := fun w h => reads_any h (by omega)
  generalize (⟨l.toArray⟩ : ByteArray) = tx at *
  have hTl : (txtL 10 A.natAbs).length ≤ 67108865 := by
    obtain ⟨n, xs, _, _, _, s0, z0, k0⟩ := id ha
    have h := txt_size (B := 10) (by omega) s0.1 (by omega)
    rw [iv_vn s0.1 z0] at h
    rw [← mk_size]
    exact h
  have HTX : Hid (∀ w v, Sg w → Zi w v A 1048576 → Calls Tryd.prog 6 #[v] w fun e w' => e = .returned (.string (ztxt A)) ∧ Below w.heap.size w w') := fun w v h h' => text_z h' (by omega) h
  have HTN : Hid (∀ w v, Sg w → Zi w v (-A) 1048576 → Calls Tryd.prog 6 #[v] w fun e w' => e = .returned (.string (ztxt (-A))) ∧ Below w.heap.size w w') := fun w v h h' => text_z h' (by omega) h
  have HRS : Hid (∀ w, Sg w → Calls Tryd.prog 7 #[.string (ztxt A)] w fun e w' => ∃ r, e = .returned (.tuple #[r, .int .i64 0]) ∧ Zm 0 w' r A 35184372088832 ∧ Below w.heap.size w w') := fun w h => by
    have q := rd_ok (l := ztL A) h (by unfold ztL; split <;> (try simp) <;> omega) (ztL_reads A).1
    rw [(ztL_reads A).2, ← ztxt_list] at q
    exact q
  have HRP : Hid (∀ w, Sg w → Calls Tryd.prog 7 #[.string (⟨#[43, 48, 48]⟩ ++ txt 10 A.natAbs)] w fun e w' => ∃ r, e = .returned (.tuple #[r, .int .i64 0]) ∧ Zm 0 w' r (A.natAbs : Int) 35184372088832 ∧ Below w.heap.size w w') := fun w h => by
    have q := rd_ok (l := 43 :: 48 :: 48 :: txtL 10 A.natAbs) h (by simp; omega) (plus_reads _).1
    rw [(plus_reads _).2] at q
    have e : (⟨#[43, 48, 48]⟩ : ByteArray) ++ txt 10 A.natAbs = ⟨(43 :: 48 :: 48 :: txtL 10 A.natAbs).toArray⟩ := by unfold txt; apply ByteArray.ext; simp
    rw [e]
    exact q
  have HRQ : Hid (∀ w, Sg w → Calls Tryd.prog 7 #[.string (⟨#[226, 136, 146, 48]⟩ ++ txt 10 A.natAbs)] w fun e w' => ∃ r, e = .returned (.tuple #[r, .int .i64 0]) ∧ Zm 0 w' r (-(A.natAbs : Int)) 35184372088832 ∧ Below w.heap.size w w') := fun w h => by
    have q := rd_ok (l := 226 :: 136 :: 146 :: 48 :: txtL 10 A.natAbs) h (by simp; omega) (long_reads _).1
    rw [(long_reads _).2] at q
    have e : (⟨#[226, 136, 146, 48]⟩ : ByteArray) ++ txt 10 A.natAbs = ⟨(226 :: 136 :: 146 :: 48 :: txtL 10 A.natAbs).toArray⟩ := by unfold txt; apply ByteArray.ext; simp
    rw [e]
    exact q
  have HSG : Hid (∀ w v, Zi w v A 1048576 → Calls Tryd.prog 11 #[v] w fun e w' => e = .returned (.int .i64 (cmpI A 0)) ∧ Below w.heap.size w w') := fun w v h => sign_z h
  have e0 : ztxt A = ⟨#[48]⟩ := by rw [hA]; rfl
  have e1 : ztxt (-A) = ⟨#[48]⟩ := by rw [hA]; rfl
  have e2 : cmpI A 0 = 0 := by rw [hA]; rfl
  rw [e0] at HTX HRS
  rw [e1] at HTN
  rw [e2] at HSG
  have q0 : ((0 : Int) == 0) = true := rfl
  clear e0 e1 e2 HRP HRQ hA hTl
  have za0 := ha
  obtain ⟨na, xa, ada, ca, rfl, -, -, -⟩ := ha
  obtain ⟨W0, hW⟩ : ∃ W0, w.alloc (duo (.bool na) (.slice ada xa.length ca)) = W0 := ⟨_, rfl⟩
  obtain ⟨b0, sz0⟩ := alloc1 w (duo (.bool na) (.slice ada xa.length ca))
  rw [hW] at b0 sz0
  have Pa : Hid (Duo W0 (w.heap.size) (.bool na) (.slice ada xa.length ca)) := by unfold Hid; rw [← hW]; exact duo_at (by simp)
  have Za := hid (za0.now b0)
  clear za0
  have G := hid b0
  clear b0
  have EW := hid hW
  clear hW
  go_enter Tryd.func3, Tryd.ntmps3
  have HT := hid (hT.now G.out)
  clear hT
  skip
  go_wp2_with fail
  rw [EW.out]
  clear EW
  refine (awake5_any HT.out).mono ?_
  rintro e w1 ⟨rfl, b⟩
  replace Za := hid (Za.out.now b)
  replace Pa := hid (Pa.out.step b)
  replace HT := hid (HT.out.now b)
  replace G := hid (below_step G.out b)
  have lz2 := (show Below _ _ _ from b).size
  clear b 
  go_wp2_with fail
  refine (HRD.out _ HT.out).mono ?_
  rintro e w3 ⟨rfl, b⟩
  replace Za := hid (Za.out.now b)
  replace Pa := hid (Pa.out.step b)
  replace HT := hid (HT.out.now b)
  replace G := hid (below_step G.out b)
  have lz4 := (show Below _ _ _ from b).size
  clear b 
  clear HRD
  have ca0 := Pa.out.c0
  have ca1 := Pa.out.c1
  go_wp2_with fail
  clear ca0 ca1
  refine (HTX.out _ _ HT.out Za.out).mono ?_
  rintro e w5 ⟨rfl, b⟩
  replace Za := hid (Za.out.now b)
  replace Pa := hid (Pa.out.step b)
  replace HT := hid (HT.out.now b)
  replace G := hid (below_step G.out b)
  have lz6 := (show Below _ _ _ from b).size
  clear b 
  clear HTX
  go_wp2_with fail
  refine (HRS.out _ HT.out).mono ?_
  rintro e w7 ⟨r0, rfl, m0, b⟩
  obtain ⟨nx, xx, adx, qx, rfl, -, -, -, -, -⟩ := id m0
  replace Za := hid (Za.out.now b)
  replace Pa := hid (Pa.out.step b)
  replace HT := hid (HT.out.now b)
  replace G := hid (below_step G.out b)
  have lz8 := (show Below _ _ _ from b).size
  have Zx := hid m0
  clear b m0
  clear HRS
  obtain ⟨V9, hW⟩ : ∃ V9, w7.alloc (duo (.bool nx) (.slice adx xx.length qx)) = V9 := ⟨_, rfl⟩
  obtain ⟨kW, sz9⟩ := alloc1 w7 (duo (.bool nx) (.slice adx xx.length qx))
  rw [hW] at kW sz9
  replace Za := hid (Za.out.now kW)
  replace Zx := hid (Zx.out.now kW)
  replace Pa := hid (Pa.out.step kW)
  replace HT := hid (HT.out.now kW)
  replace G := hid (below_step G.out kW)
  have lz10 := (show Below _ _ _ from kW).size
  have Px : Hid (Duo V9 (w7.heap.size) (.bool nx) (.slice adx xx.length qx)) := by unfold Hid; rw [← hW]; exact duo_at (by simp)
  clear kW
  have EW := hid hW
  clear hW
  go_wp2_with fail
  rw [EW.out]
  clear EW
  refine wp_region_X (fun w' => w'.cell? ⟨w7.heap.size, 0, none⟩ = some (.bool nx) ∧ w'.cell? ⟨w7.heap.size, 1, none⟩ = some (.slice adx xx.length qx) ∧ w'.cell? ⟨w.heap.size, 0, none⟩ = some (.bool na) ∧ w'.cell? ⟨w.heap.size, 1, none⟩ = some (.slice ada xa.length ca)) [] (by kernel_rfl) ?_
  obtain ⟨D11, hD⟩ : ∃ D11, V9.drew = D11 := ⟨_, rfl⟩
  have b : Below V9.heap.size V9 D11 := by rw [← hD]; exact (Below.refl _ _).drew
  rw [hD]
  clear hD
  replace Za := hid (Za.out.now b)
  replace Zx := hid (Zx.out.now b)
  replace Pa := hid (Pa.out.step b)
  replace Px := hid (Px.out.step b)
  replace HT := hid (HT.out.now b)
  replace G := hid (below_step G.out b)
  have lz12 := (show Below _ _ _ from b).size
  clear b
  refine wpAnyX_pure (i := 0) (oi := { dst := some 28, op := Op.move (Operand.tmp 7), type := 28, pos := "outright.go:172", after := #[], guard := none }) (v := (.int .i64 0)) rfl (by kernel_rfl) (fun _ _ _ h => h) (Or.inl ⟨by rfl, ?_⟩)  ?_
  · intro w hSw
    (try dsimp only at hSw)
    go_simp
  simp only [Act.put, List.setIfInBounds_toArray, List.set_cons_zero, List.set_cons_succ]
  refine wpAnyX_pure (i := 1) (oi := { dst := some 29, op := Op.binOp BinOp.neq 28 (Operand.tmp 28) (Operand.const (Value.int IntKind.i64 0)) 28, type := 4, pos := "outright.go:172", after := #[{ on := 0, ground := Ground.data }], guard := none }) (v := (.bool false)) rfl (by kernel_rfl) (fun _ _ _ h => h) (Or.inl ⟨by rfl, ?_⟩)  ?_
  · intro w hSw
    (try dsimp only at hSw)
    go_simp
  simp only [Act.put, List.setIfInBounds_toArray, List.set_cons_zero, List.set_cons_succ]
  refine wpAnyX_pure (i := 2) (oi := { dst := some 30, op := Op.move (Operand.tmp 29), type := 4, pos := "outright.go:172", after := #[{ on := 1, ground := Ground.data }], guard := none }) (v := (.bool false)) rfl (by kernel_rfl) (fun _ _ _ h => h) (Or.inl ⟨by rfl, ?_⟩)  ?_
  · intro w hSw
    (try dsimp only at hSw)
    go_simp
  simp only [Act.put, List.setIfInBounds_toArray, List.set_cons_zero, List.set_cons_succ]
  refine wpAnyX_take (i := 3) (oi := { dst := some 31, op := Op.load 24 (Operand.tmp 6), type := 24, pos := "outright.go:172", after := #[{ on := 2, ground := Ground.guard }], guard := some (2, false) }) (v := (.agg #[(.bool nx), (.slice adx xx.length qx)])) rfl (by kernel_rfl) (fun _ _ _ h => h) (Or.inl ⟨by rfl, ?_⟩) ⟨Px.out.c0, Px.out.c1, Pa.out.c0, Pa.out.c1⟩ ?_
  · intro w hSw
    (try dsimp only at hSw)
    go_simp
  simp only [Act.put, List.setIfInBounds_toArray, List.set_cons_zero, List.set_cons_succ]
  refine wpAnyX_take (i := 4) (oi := { dst := some 32, op := Op.load 24 (Operand.tmp 2), type := 24, pos := "outright.go:172", after := #[{ on := 2, ground := Ground.guard }], guard := some (2, false) }) (v := (.agg #[(.bool na), (.slice ada xa.length ca)])) rfl (by kernel_rfl) (fun _ _ _ h => h) (Or.inl ⟨by rfl, ?_⟩) ⟨Px.out.c0, Px.out.c1, Pa.out.c0, Pa.out.c1⟩ ?_
  · intro w hSw
    (try dsimp only at hSw)
    go_simp
  simp only [Act.put, List.setIfInBounds_toArray, List.set_cons_zero, List.set_cons_succ]
  refine wpAnyX_one (i := 5) (o := { dst := some 33, op := Op.call { callee := Callee.value (Operand.func 9), args := #[Operand.tmp 32], argTypes := #[24] }, type := 24, pos := "outright.go:172", after := #[{ on := 4, ground := Ground.data }, { on := 2, ground := Ground.chain }, { on := 2, ground := Ground.guard }], guard := some (2, false) }) (by kernel_rfl) rfl (fun K hK => ?_)
  go_simp
  go_at_call 9
  refine (least_z Za.out).mono ?_
  rintro e w13 ⟨r0, rfl, m0, b⟩
  obtain ⟨ny, xy, ady, qy, rfl, -, -, -, -, -⟩ := id m0
  replace Za := hid (Za.out.now b)
  replace Zx := hid (Zx.out.now b)
  replace Pa := hid (Pa.out.step b)
  replace Px := hid (Px.out.step b)
  replace HT := hid (HT.out.now b)
  replace G := hid (below_step G.out b)
  have lz14 := (show Below _ _ _ from b).size
  have Zy := hid m0
  clear b m0
  refine hK.out _ _ (fun _ _ => ⟨Px.out.c0, Px.out.c1, Pa.out.c0, Pa.out.c1⟩) ?_
  clear hK
  refine wpAnyX_one (i := 6) (o := { dst := some 34, op := Op.call { callee := Callee.value (Operand.func 8), args := #[Operand.tmp 31, Operand.tmp 33], argTypes := #[24, 24] }, type := 4, pos := "outright.go:172", after := #[{ on := 3, ground := Ground.data }, { on := 5, ground := Ground.data }, { on := 5, ground := Ground.chain }, { on := 2, ground := Ground.guard }], guard := some (2, false) }) (by kernel_rfl) rfl (fun K hK => ?_)
  go_simp
  go_at_call 8
  refine (alike_yes Zx.out Zy.out rfl).mono ?_
  rintro e w15 ⟨rfl, b⟩
  replace Za := hid (Za.out.now b)
  replace Zx := hid (Zx.out.now b)
  replace Zy := hid (Zy.out.now b)
  replace Pa := hid (Pa.out.step b)
  replace Px := hid (Px.out.step b)
  replace HT := hid (HT.out.now b)
  replace G := hid (below_step G.out b)
  have lz16 := (show Below _ _ _ from b).size
  clear b 
  refine hK.out _ _ (fun _ _ => ⟨Px.out.c0, Px.out.c1, Pa.out.c0, Pa.out.c1⟩) ?_
  clear hK
  refine wpAnyX_pure (i := 7) (oi := { dst := some 35, op := Op.unOp UnOp.not 4 (Operand.tmp 34), type := 4, pos := "outright.go:172", after := #[{ on := 6, ground := Ground.data }, { on := 2, ground := Ground.guard }], guard := some (2, false) }) (v := (.bool false)) rfl (by kernel_rfl) (fun _ _ _ h => h) (Or.inl ⟨by rfl, ?_⟩)  ?_
  · intro w hSw
    (try dsimp only at hSw)
    go_simp
  simp only [Act.put, List.setIfInBounds_toArray, List.set_cons_zero, List.set_cons_succ]
  refine wpAnyX_pure (i := 8) (oi := { dst := some 36, op := Op.pick (Operand.tmp 30) (Operand.const (Value.bool true)) (Operand.tmp 35), type := 4, pos := "outright.go:172", after := #[{ on := 2, ground := Ground.data }, { on := 7, ground := Ground.data }], guard := none }) (v := (.bool false)) rfl (by kernel_rfl) (fun _ _ _ h => h) (Or.inl ⟨by rfl, ?_⟩)  ?_
  · intro w hSw
    (try dsimp only at hSw)
    go_simp
  simp only [Act.put, List.setIfInBounds_toArray, List.set_cons_zero, List.set_cons_succ]
  refine wpAnyX_pure (i := 9) (oi := { dst := some 37, op := Op.move (Operand.tmp 36), type := 4, pos := "outright.go:172", after := #[{ on := 8, ground := Ground.data }, { on := 6, ground := Ground.chain }], guard := none }) (v := (.bool false)) rfl (by kernel_rfl) (fun _ _ _ h => h) (Or.inl ⟨by rfl, ?_⟩)  ?_
  · intro w hSw
    (try dsimp only at hSw)
    go_simp
  simp only [Act.put, List.setIfInBounds_toArray, List.set_cons_zero, List.set_cons_succ]
  refine wpAnyX_pure (i := 10) (oi := { dst := some 38, op := Op.move (Operand.tmp 5), type := 9, pos := "outright.go:172", after := #[{ on := 9, ground := Ground.guard }], guard := some (9, false) }) (v := (.string ⟨#[48]⟩)) rfl (by kernel_rfl) (fun _ _ _ h => h) (Or.inl ⟨by rfl, ?_⟩)  ?_
  · intro w hSw
    (try dsimp only at hSw)
    go_simp
  simp only [Act.put, List.setIfInBounds_toArray, List.set_cons_zero, List.set_cons_succ]
  refine wpAnyX_pure (i := 11) (oi := { dst := some 39, op := Op.binOp BinOp.eql 9 (Operand.tmp 38) (Operand.const (Value.string { data := #[] })) 9, type := 4, pos := "outright.go:172", after := #[{ on := 10, ground := Ground.data }, { on := 9, ground := Ground.guard }], guard := some (9, false) }) (v := (.bool false)) rfl (by kernel_rfl) (fun _ _ _ h => h) (Or.inl ⟨by rfl, ?_⟩)  ?_
  · intro w hSw
    (try dsimp only at hSw)
    go_simp
  simp only [Act.put, List.setIfInBounds_toArray, List.set_cons_zero, List.set_cons_succ]
  refine wpAnyX_pure (i := 12) (oi := { dst := some 40, op := Op.pick (Operand.tmp 37) (Operand.const (Value.bool true)) (Operand.tmp 39), type := 4, pos := "outright.go:172", after := #[{ on := 9, ground := Ground.data }, { on := 11, ground := Ground.data }], guard := none }) (v := (.bool false)) rfl (by kernel_rfl) (fun _ _ _ h => h) (Or.inl ⟨by rfl, ?_⟩)  ?_
  · intro w hSw
    (try dsimp only at hSw)
    go_simp
  simp only [Act.put, List.setIfInBounds_toArray, List.set_cons_zero, List.set_cons_succ]
  refine wpAnyX_done (by kernel_rfl) ?_ _
  clear Zy
  clear Zx
  clear Px
  have ca0 := Pa.out.c0
  have ca1 := Pa.out.c1
  go_wp2_with fail
  clear ca0 ca1
  refine (neg_z Za.out).mono ?_
  rintro e w17 ⟨r0, rfl, m0, b⟩
  obtain ⟨nq, xq, adq, qq, rfl, -, -, -, -, -⟩ := id m0
  replace Za := hid (Za.out.now b)
  replace Pa := hid (Pa.out.step b)
  replace HT := hid (HT.out.now b)
  replace G := hid (below_step G.out b)
  have lz18 := (show Below _ _ _ from b).size
  have Zq := hid m0
  clear b m0
  go_wp2_with fail
  refine (HTN.out _ _ HT.out Zq.out.zi).mono ?_
  rintro e w19 ⟨rfl, b⟩
  replace Za := hid (Za.out.now b)
  replace Zq := hid (Zq.out.now b)
  replace Pa := hid (Pa.out.step b)
  replace HT := hid (HT.out.now b)
  replace G := hid (below_step G.out b)
  have lz20 := (show Below _ _ _ from b).size
  clear b 
  clear HTN
  clear Zq
  have ca0 := Pa.out.c0
  have ca1 := Pa.out.c1
  go_wp2_with fail
  clear ca0 ca1
  refine (HSG.out _ _ Za.out).mono ?_
  rintro e w21 ⟨rfl, b⟩
  replace Za := hid (Za.out.now b)
  replace Pa := hid (Pa.out.step b)
  replace HT := hid (HT.out.now b)
  replace G := hid (below_step G.out b)
  have lz22 := (show Below _ _ _ from b).size
  clear b 
  go_wp2
  go_ret
  exact ⟨rfl, G.out⟩

set_option maxHeartbeats 6400000 in
set_option maxRecDepth 100000 in
theorem zintTexts_pos {w : World} {va : Value} {A : Int} {l : List UInt8} (ha : Zi w va A 1048576) (hl : l.length ≤ 1048576) (hT : Sg w) (hA : 0 < A) :
    Calls Tryd.prog 3 #[va, .string ⟨l.toArray⟩] w fun e w' => e = .returned (.bool true) ∧ Below w.heap.size w w' := by
  have HRD : Hid (∀ w, Sg w → Calls Tryd.prog 5 #[.string ⟨l.toArray⟩] w fun e w' => e = .returned (.bool true) ∧ Below w.heap.size w w') := fun w h => reads_any h (by omega)
  generalize (⟨l.toArray⟩ : ByteArray) = tx at *
  have hTl : (txtL 10 A.natAbs).length ≤ 67108865 := by
    obtain ⟨n, xs, _, _, _, s0, z0, k0⟩ := id ha
    have h := txt_size (B := 10) (by omega) s0.1 (by omega)
    rw [iv_vn s0.1 z0] at h
    rw [← mk_size]
    exact h
  have HTX : Hid (∀ w v, Sg w → Zi w v A 1048576 → Calls Tryd.prog 6 #[v] w fun e w' => e = .returned (.string (ztxt A)) ∧ Below w.heap.size w w') := fun w v h h' => text_z h' (by omega) h
  have HTN : Hid (∀ w v, Sg w → Zi w v (-A) 1048576 → Calls Tryd.prog 6 #[v] w fun e w' => e = .returned (.string (ztxt (-A))) ∧ Below w.heap.size w w') := fun w v h h' => text_z h' (by omega) h
  have HRS : Hid (∀ w, Sg w → Calls Tryd.prog 7 #[.string (ztxt A)] w fun e w' => ∃ r, e = .returned (.tuple #[r, .int .i64 0]) ∧ Zm 0 w' r A 35184372088832 ∧ Below w.heap.size w w') := fun w h => by
    have q := rd_ok (l := ztL A) h (by unfold ztL; split <;> (try simp) <;> omega) (ztL_reads A).1
    rw [(ztL_reads A).2, ← ztxt_list] at q
    exact q
  have HRP : Hid (∀ w, Sg w → Calls Tryd.prog 7 #[.string (⟨#[43, 48, 48]⟩ ++ txt 10 A.natAbs)] w fun e w' => ∃ r, e = .returned (.tuple #[r, .int .i64 0]) ∧ Zm 0 w' r (A.natAbs : Int) 35184372088832 ∧ Below w.heap.size w w') := fun w h => by
    have q := rd_ok (l := 43 :: 48 :: 48 :: txtL 10 A.natAbs) h (by simp; omega) (plus_reads _).1
    rw [(plus_reads _).2] at q
    have e : (⟨#[43, 48, 48]⟩ : ByteArray) ++ txt 10 A.natAbs = ⟨(43 :: 48 :: 48 :: txtL 10 A.natAbs).toArray⟩ := by unfold txt; apply ByteArray.ext; simp
    rw [e]
    exact q
  have HRQ : Hid (∀ w, Sg w → Calls Tryd.prog 7 #[.string (⟨#[226, 136, 146, 48]⟩ ++ txt 10 A.natAbs)] w fun e w' => ∃ r, e = .returned (.tuple #[r, .int .i64 0]) ∧ Zm 0 w' r (-(A.natAbs : Int)) 35184372088832 ∧ Below w.heap.size w w') := fun w h => by
    have q := rd_ok (l := 226 :: 136 :: 146 :: 48 :: txtL 10 A.natAbs) h (by simp; omega) (long_reads _).1
    rw [(long_reads _).2] at q
    have e : (⟨#[226, 136, 146, 48]⟩ : ByteArray) ++ txt 10 A.natAbs = ⟨(226 :: 136 :: 146 :: 48 :: txtL 10 A.natAbs).toArray⟩ := by unfold txt; apply ByteArray.ext; simp
    rw [e]
    exact q
  have HSG : Hid (∀ w v, Zi w v A 1048576 → Calls Tryd.prog 11 #[v] w fun e w' => e = .returned (.int .i64 (cmpI A 0)) ∧ Below w.heap.size w w') := fun w v h => sign_z h
  obtain ⟨c, r, hcr, hc1, hc2⟩ := txt_head (n := A.natAbs) (by omega)
  obtain ⟨S, hS⟩ : ∃ S, txt 10 A.natAbs = S := ⟨_, rfl⟩
  obtain ⟨U, hU⟩ : ∃ U, (⟨#[45]⟩ : ByteArray) ++ S = U := ⟨_, rfl⟩
  have hSl : S = ⟨(c :: r).toArray⟩ := by rw [← hS, ← hcr]; rfl
  have hsz : S.size ≤ 67108865 := by rw [hSl, mk_size, ← hcr]; exact hTl
  have h0 : 0 < S.size := by rw [hSl, mk_size]; simp
  have hix : ((S[0]'h0).toNat : Int) = (c.toNat : Int) := by subst hSl; rfl
  have hemS : S.toList.isEmpty = false := by rw [hSl, Lib.toList_data]; rfl
  have hemU : U.toList.isEmpty = false := by rw [← hU, hSl, Lib.toList_data]; simp
  have d1 : ¬ (c.toNat : Int) < 49 := by omega
  have d2 : ¬ (57 : Int) < (c.toNat : Int) := by omega
  have e0 : ztxt A = S := by unfold ztxt; rw [if_neg (by omega), hS]
  have e1 : ztxt (-A) = U := by unfold ztxt; rw [if_pos (by omega), Int.natAbs_neg, hS, hU]
  have e2 : cmpI A 0 = 1 := cmpI_gt hA
  have qs : ((1 : Int) == 0) = false := rfl
  have ql : ¬ (1 : Int) < 0 := by decide
  rw [e0] at HTX HRS
  rw [e1] at HTN
  rw [e2] at HSG
  rw [hS] at HRP HRQ
  have HU := hid hU
  clear hS hSl e0 e1 e2 hcr hc1 hc2 hTl hA hU
  have za0 := ha
  obtain ⟨na, xa, ada, ca, rfl, -, -, -⟩ := ha
  obtain ⟨W0, hW⟩ : ∃ W0, w.alloc (duo (.bool na) (.slice ada xa.length ca)) = W0 := ⟨_, rfl⟩
  obtain ⟨b0, sz0⟩ := alloc1 w (duo (.bool na) (.slice ada xa.length ca))
  rw [hW] at b0 sz0
  have Pa : Hid (Duo W0 (w.heap.size) (.bool na) (.slice ada xa.length ca)) := by unfold Hid; rw [← hW]; exact duo_at (by simp)
  have Za := hid (za0.now b0)
  clear za0
  have G := hid b0
  clear b0
  have EW := hid hW
  clear hW
  go_enter Tryd.func3, Tryd.ntmps3
  have HT := hid (hT.now G.out)
  clear hT
  skip
  go_wp2_with fail
  rw [EW.out]
  clear EW
  refine (awake5_any HT.out).mono ?_
  rintro e w1 ⟨rfl, b⟩
  replace Za := hid (Za.out.now b)
  replace Pa := hid (Pa.out.step b)
  replace HT := hid (HT.out.now b)
  replace G := hid (below_step G.out b)
  have lz2 := (show Below _ _ _ from b).size
  clear b 
  go_wp2_with fail
  refine (HRD.out _ HT.out).mono ?_
  rintro e w3 ⟨rfl, b⟩
  replace Za := hid (Za.out.now b)
  replace Pa := hid (Pa.out.step b)
  replace HT := hid (HT.out.now b)
  replace G := hid (below_step G.out b)
  have lz4 := (show Below _ _ _ from b).size
  clear b 
  clear HRD
  have ca0 := Pa.out.c0
  have ca1 := Pa.out.c1
  go_wp2_with fail
  clear ca0 ca1
  refine (HTX.out _ _ HT.out Za.out).mono ?_
  rintro e w5 ⟨rfl, b⟩
  replace Za := hid (Za.out.now b)
  replace Pa := hid (Pa.out.step b)
  replace HT := hid (HT.out.now b)
  replace G := hid (below_step G.out b)
  have lz6 := (show Below _ _ _ from b).size
  clear b 
  clear HTX
  go_wp2_with fail
  refine (HRS.out _ HT.out).mono ?_
  rintro e w7 ⟨r0, rfl, m0, b⟩
  obtain ⟨nx, xx, adx, qx, rfl, -, -, -, -, -⟩ := id m0
  replace Za := hid (Za.out.now b)
  replace Pa := hid (Pa.out.step b)
  replace HT := hid (HT.out.now b)
  replace G := hid (below_step G.out b)
  have lz8 := (show Below _ _ _ from b).size
  have Zx := hid m0
  clear b m0
  clear HRS
  obtain ⟨V9, hW⟩ : ∃ V9, w7.alloc (duo (.bool nx) (.slice adx xx.length qx)) = V9 := ⟨_, rfl⟩
  obtain ⟨kW, sz9⟩ := alloc1 w7 (duo (.bool nx) (.slice adx xx.length qx))
  rw [hW] at kW sz9
  replace Za := hid (Za.out.now kW)
  replace Zx := hid (Zx.out.now kW)
  replace Pa := hid (Pa.out.step kW)
  replace HT := hid (HT.out.now kW)
  replace G := hid (below_step G.out kW)
  have lz10 := (show Below _ _ _ from kW).size
  have Px : Hid (Duo V9 (w7.heap.size) (.bool nx) (.slice adx xx.length qx)) := by unfold Hid; rw [← hW]; exact duo_at (by simp)
  clear kW
  have EW := hid hW
  clear hW
  go_wp2_with fail
  rw [EW.out]
  clear EW
  refine wp_region_X (fun w' => w'.cell? ⟨w7.heap.size, 0, none⟩ = some (.bool nx) ∧ w'.cell? ⟨w7.heap.size, 1, none⟩ = some (.slice adx xx.length qx) ∧ w'.cell? ⟨w.heap.size, 0, none⟩ = some (.bool na) ∧ w'.cell? ⟨w.heap.size, 1, none⟩ = some (.slice ada xa.length ca)) [] (by kernel_rfl) ?_
  obtain ⟨D11, hD⟩ : ∃ D11, V9.drew = D11 := ⟨_, rfl⟩
  have b : Below V9.heap.size V9 D11 := by rw [← hD]; exact (Below.refl _ _).drew
  rw [hD]
  clear hD
  replace Za := hid (Za.out.now b)
  replace Zx := hid (Zx.out.now b)
  replace Pa := hid (Pa.out.step b)
  replace Px := hid (Px.out.step b)
  replace HT := hid (HT.out.now b)
  replace G := hid (below_step G.out b)
  have lz12 := (show Below _ _ _ from b).size
  clear b
  refine wpAnyX_pure (i := 0) (oi := { dst := some 28, op := Op.move (Operand.tmp 7), type := 28, pos := "outright.go:172", after := #[], guard := none }) (v := (.int .i64 0)) rfl (by kernel_rfl) (fun _ _ _ h => h) (Or.inl ⟨by rfl, ?_⟩)  ?_
  · intro w hSw
    (try dsimp only at hSw)
    go_simp
  simp only [Act.put, List.setIfInBounds_toArray, List.set_cons_zero, List.set_cons_succ]
  refine wpAnyX_pure (i := 1) (oi := { dst := some 29, op := Op.binOp BinOp.neq 28 (Operand.tmp 28) (Operand.const (Value.int IntKind.i64 0)) 28, type := 4, pos := "outright.go:172", after := #[{ on := 0, ground := Ground.data }], guard := none }) (v := (.bool false)) rfl (by kernel_rfl) (fun _ _ _ h => h) (Or.inl ⟨by rfl, ?_⟩)  ?_
  · intro w hSw
    (try dsimp only at hSw)
    go_simp
  simp only [Act.put, List.setIfInBounds_toArray, List.set_cons_zero, List.set_cons_succ]
  refine wpAnyX_pure (i := 2) (oi := { dst := some 30, op := Op.move (Operand.tmp 29), type := 4, pos := "outright.go:172", after := #[{ on := 1, ground := Ground.data }], guard := none }) (v := (.bool false)) rfl (by kernel_rfl) (fun _ _ _ h => h) (Or.inl ⟨by rfl, ?_⟩)  ?_
  · intro w hSw
    (try dsimp only at hSw)
    go_simp
  simp only [Act.put, List.setIfInBounds_toArray, List.set_cons_zero, List.set_cons_succ]
  refine wpAnyX_take (i := 3) (oi := { dst := some 31, op := Op.load 24 (Operand.tmp 6), type := 24, pos := "outright.go:172", after := #[{ on := 2, ground := Ground.guard }], guard := some (2, false) }) (v := (.agg #[(.bool nx), (.slice adx xx.length qx)])) rfl (by kernel_rfl) (fun _ _ _ h => h) (Or.inl ⟨by rfl, ?_⟩) ⟨Px.out.c0, Px.out.c1, Pa.out.c0, Pa.out.c1⟩ ?_
  · intro w hSw
    (try dsimp only at hSw)
    go_simp
  simp only [Act.put, List.setIfInBounds_toArray, List.set_cons_zero, List.set_cons_succ]
  refine wpAnyX_take (i := 4) (oi := { dst := some 32, op := Op.load 24 (Operand.tmp 2), type := 24, pos := "outright.go:172", after := #[{ on := 2, ground := Ground.guard }], guard := some (2, false) }) (v := (.agg #[(.bool na), (.slice ada xa.length ca)])) rfl (by kernel_rfl) (fun _ _ _ h => h) (Or.inl ⟨by rfl, ?_⟩) ⟨Px.out.c0, Px.out.c1, Pa.out.c0, Pa.out.c1⟩ ?_
  · intro w hSw
    (try dsimp only at hSw)
    go_simp
  simp only [Act.put, List.setIfInBounds_toArray, List.set_cons_zero, List.set_cons_succ]
  refine wpAnyX_one (i := 5) (o := { dst := some 33, op := Op.call { callee := Callee.value (Operand.func 9), args := #[Operand.tmp 32], argTypes := #[24] }, type := 24, pos := "outright.go:172", after := #[{ on := 4, ground := Ground.data }, { on := 2, ground := Ground.chain }, { on := 2, ground := Ground.guard }], guard := some (2, false) }) (by kernel_rfl) rfl (fun K hK => ?_)
  go_simp
  go_at_call 9
  refine (least_z Za.out).mono ?_
  rintro e w13 ⟨r0, rfl, m0, b⟩
  obtain ⟨ny, xy, ady, qy, rfl, -, -, -, -, -⟩ := id m0
  replace Za := hid (Za.out.now b)
  replace Zx := hid (Zx.out.now b)
  replace Pa := hid (Pa.out.step b)
  replace Px := hid (Px.out.step b)
  replace HT := hid (HT.out.now b)
  replace G := hid (below_step G.out b)
  have lz14 := (show Below _ _ _ from b).size
  have Zy := hid m0
  clear b m0
  refine hK.out _ _ (fun _ _ => ⟨Px.out.c0, Px.out.c1, Pa.out.c0, Pa.out.c1⟩) ?_
  clear hK
  refine wpAnyX_one (i := 6) (o := { dst := some 34, op := Op.call { callee := Callee.value (Operand.func 8), args := #[Operand.tmp 31, Operand.tmp 33], argTypes := #[24, 24] }, type := 4, pos := "outright.go:172", after := #[{ on := 3, ground := Ground.data }, { on := 5, ground := Ground.data }, { on := 5, ground := Ground.chain }, { on := 2, ground := Ground.guard }], guard := some (2, false) }) (by kernel_rfl) rfl (fun K hK => ?_)
  go_simp
  go_at_call 8
  refine (alike_yes Zx.out Zy.out rfl).mono ?_
  rintro e w15 ⟨rfl, b⟩
  replace Za := hid (Za.out.now b)
  replace Zx := hid (Zx.out.now b)
  replace Zy := hid (Zy.out.now b)
  replace Pa := hid (Pa.out.step b)
  replace Px := hid (Px.out.step b)
  replace HT := hid (HT.out.now b)
  replace G := hid (below_step G.out b)
  have lz16 := (show Below _ _ _ from b).size
  clear b 
  refine hK.out _ _ (fun _ _ => ⟨Px.out.c0, Px.out.c1, Pa.out.c0, Pa.out.c1⟩) ?_
  clear hK
  refine wpAnyX_pure (i := 7) (oi := { dst := some 35, op := Op.unOp UnOp.not 4 (Operand.tmp 34), type := 4, pos := "outright.go:172", after := #[{ on := 6, ground := Ground.data }, { on := 2, ground := Ground.guard }], guard := some (2, false) }) (v := (.bool false)) rfl (by kernel_rfl) (fun _ _ _ h => h) (Or.inl ⟨by rfl, ?_⟩)  ?_
  · intro w hSw
    (try dsimp only at hSw)
    go_simp
  simp only [Act.put, List.setIfInBounds_toArray, List.set_cons_zero, List.set_cons_succ]
  refine wpAnyX_pure (i := 8) (oi := { dst := some 36, op := Op.pick (Operand.tmp 30) (Operand.const (Value.bool true)) (Operand.tmp 35), type := 4, pos := "outright.go:172", after := #[{ on := 2, ground := Ground.data }, { on := 7, ground := Ground.data }], guard := none }) (v := (.bool false)) rfl (by kernel_rfl) (fun _ _ _ h => h) (Or.inl ⟨by rfl, ?_⟩)  ?_
  · intro w hSw
    (try dsimp only at hSw)
    go_simp
  simp only [Act.put, List.setIfInBounds_toArray, List.set_cons_zero, List.set_cons_succ]
  refine wpAnyX_pure (i := 9) (oi := { dst := some 37, op := Op.move (Operand.tmp 36), type := 4, pos := "outright.go:172", after := #[{ on := 8, ground := Ground.data }, { on := 6, ground := Ground.chain }], guard := none }) (v := (.bool false)) rfl (by kernel_rfl) (fun _ _ _ h => h) (Or.inl ⟨by rfl, ?_⟩)  ?_
  · intro w hSw
    (try dsimp only at hSw)
    go_simp
  simp only [Act.put, List.setIfInBounds_toArray, List.set_cons_zero, List.set_cons_succ]
  refine wpAnyX_pure (i := 10) (oi := { dst := some 38, op := Op.move (Operand.tmp 5), type := 9, pos := "outright.go:172", after := #[{ on := 9, ground := Ground.guard }], guard := some (9, false) }) (v := (.string S)) rfl (by kernel_rfl) (fun _ _ _ h => h) (Or.inl ⟨by rfl, ?_⟩)  ?_
  · intro w hSw
    (try dsimp only at hSw)
    go_simp
  simp only [Act.put, List.setIfInBounds_toArray, List.set_cons_zero, List.set_cons_succ]
  refine wpAnyX_pure (i := 11) (oi := { dst := some 39, op := Op.binOp BinOp.eql 9 (Operand.tmp 38) (Operand.const (Value.string { data := #[] })) 9, type := 4, pos := "outright.go:172", after := #[{ on := 10, ground := Ground.data }, { on := 9, ground := Ground.guard }], guard := some (9, false) }) (v := (.bool false)) rfl (by kernel_rfl) (fun _ _ _ h => h) (Or.inl ⟨by rfl, ?_⟩)  ?_
  · intro w hSw
    (try dsimp only at hSw)
    go_simp
  simp only [Act.put, List.setIfInBounds_toArray, List.set_cons_zero, List.set_cons_succ]
  refine wpAnyX_pure (i := 12) (oi := { dst := some 40, op := Op.pick (Operand.tmp 37) (Operand.const (Value.bool true)) (Operand.tmp 39), type := 4, pos := "outright.go:172", after := #[{ on := 9, ground := Ground.data }, { on := 11, ground := Ground.data }], guard := none }) (v := (.bool false)) rfl (by kernel_rfl) (fun _ _ _ h => h) (Or.inl ⟨by rfl, ?_⟩)  ?_
  · intro w hSw
    (try dsimp only at hSw)
    go_simp
  simp only [Act.put, List.setIfInBounds_toArray, List.set_cons_zero, List.set_cons_succ]
  refine wpAnyX_done (by kernel_rfl) ?_ _
  clear Zy
  clear Zx
  clear Px
  have ca0 := Pa.out.c0
  have ca1 := Pa.out.c1
  go_wp2_with fail
  clear ca0 ca1
  refine (neg_z Za.out).mono ?_
  rintro e w17 ⟨r0, rfl, m0, b⟩
  obtain ⟨nq, xq, adq, qq, rfl, -, -, -, -, -⟩ := id m0
  replace Za := hid (Za.out.now b)
  replace Pa := hid (Pa.out.step b)
  replace HT := hid (HT.out.now b)
  replace G := hid (below_step G.out b)
  have lz18 := (show Below _ _ _ from b).size
  have Zq := hid m0
  clear b m0
  go_wp2_with fail
  refine (HTN.out _ _ HT.out Zq.out.zi).mono ?_
  rintro e w19 ⟨rfl, b⟩
  replace Za := hid (Za.out.now b)
  replace Zq := hid (Zq.out.now b)
  replace Pa := hid (Pa.out.step b)
  replace HT := hid (HT.out.now b)
  replace G := hid (below_step G.out b)
  have lz20 := (show Below _ _ _ from b).size
  clear b 
  clear HTN
  clear Zq
  have ca0 := Pa.out.c0
  have ca1 := Pa.out.c1
  go_wp2_with fail
  clear ca0 ca1
  refine (HSG.out _ _ Za.out).mono ?_
  rintro e w21 ⟨rfl, b⟩
  replace Za := hid (Za.out.now b)
  replace Pa := hid (Pa.out.step b)
  replace HT := hid (HT.out.now b)
  replace G := hid (below_step G.out b)
  have lz22 := (show Below _ _ _ from b).size
  clear b 
  have ca0 := Pa.out.c0
  have ca1 := Pa.out.c1
  go_wp2_with fail
  clear ca0 ca1
  refine (HSG.out _ _ Za.out).mono ?_
  rintro e w23 ⟨rfl, b⟩
  replace Za := hid (Za.out.now b)
  replace Pa := hid (Pa.out.step b)
  replace HT := hid (HT.out.now b)
  replace G := hid (below_step G.out b)
  have lz24 := (show Below _ _ _ from b).size
  clear b 
  have hU := HU.out
  have ca0 := Pa.out.c0
  have ca1 := Pa.out.c1
  go_wp2_with fail
  clear ca0 ca1
  refine (abs_z Za.out).mono ?_
  rintro e w25 ⟨r0, rfl, m0, b⟩
  obtain ⟨nu, xu, adu, qu, rfl, -, -, -, -, -⟩ := id m0
  replace Za := hid (Za.out.now b)
  replace Pa := hid (Pa.out.step b)
  replace HT := hid (HT.out.now b)
  replace G := hid (below_step G.out b)
  have lz26 := (show Below _ _ _ from b).size
  have Zu := hid m0
  clear b m0
  clear hU HU HSG d1 d2 hix ql qs
  obtain ⟨V27, hW⟩ : ∃ V27, w25.alloc (duo (.bool nu) (.slice adu xu.length qu)) = V27 := ⟨_, rfl⟩
  obtain ⟨kW, sz27⟩ := alloc1 w25 (duo (.bool nu) (.slice adu xu.length qu))
  rw [hW] at kW sz27
  replace Za := hid (Za.out.now kW)
  replace Zu := hid (Zu.out.now kW)
  replace Pa := hid (Pa.out.step kW)
  replace HT := hid (HT.out.now kW)
  replace G := hid (below_step G.out kW)
  have lz28 := (show Below _ _ _ from kW).size
  have Pu : Hid (Duo V27 (w25.heap.size) (.bool nu) (.slice adu xu.length qu)) := by unfold Hid; rw [← hW]; exact duo_at (by simp)
  clear kW
  have EW := hid hW
  clear hW
  go_wp2_with fail
  rw [EW.out]
  clear EW
  refine (HRP.out _ HT.out).mono ?_
  rintro e w29 ⟨r0, rfl, m0, b⟩
  obtain ⟨ny, xy, ady, qy, rfl, -, -, -, -, -⟩ := id m0
  replace Za := hid (Za.out.now b)
  replace Zu := hid (Zu.out.now b)
  replace Pa := hid (Pa.out.step b)
  replace Pu := hid (Pu.out.step b)
  replace HT := hid (HT.out.now b)
  replace G := hid (below_step G.out b)
  have lz30 := (show Below _ _ _ from b).size
  have Zy := hid m0
  clear b m0
  obtain ⟨V31, hW⟩ : ∃ V31, w29.alloc (duo (.bool ny) (.slice ady xy.length qy)) = V31 := ⟨_, rfl⟩
  obtain ⟨kW, sz31⟩ := alloc1 w29 (duo (.bool ny) (.slice ady xy.length qy))
  rw [hW] at kW sz31
  replace Za := hid (Za.out.now kW)
  replace Zu := hid (Zu.out.now kW)
  replace Zy := hid (Zy.out.now kW)
  replace Pa := hid (Pa.out.step kW)
  replace Pu := hid (Pu.out.step kW)
  replace HT := hid (HT.out.now kW)
  replace G := hid (below_step G.out kW)
  have lz32 := (show Below _ _ _ from kW).size
  have Py : Hid (Duo V31 (w29.heap.size) (.bool ny) (.slice ady xy.length qy)) := by unfold Hid; rw [← hW]; exact duo_at (by simp)
  clear kW
  have EW := hid hW
  clear hW
  go_wp2_with fail
  rw [EW.out]
  clear EW
  refine (HRQ.out _ HT.out).mono ?_
  rintro e w33 ⟨r0, rfl, m0, b⟩
  obtain ⟨nz, xz, adz, qz, rfl, -, -, -, -, -⟩ := id m0
  replace Za := hid (Za.out.now b)
  replace Zu := hid (Zu.out.now b)
  replace Zy := hid (Zy.out.now b)
  replace Pa := hid (Pa.out.step b)
  replace Pu := hid (Pu.out.step b)
  replace Py := hid (Py.out.step b)
  replace HT := hid (HT.out.now b)
  replace G := hid (below_step G.out b)
  have lz34 := (show Below _ _ _ from b).size
  have Zz := hid m0
  clear b m0
  obtain ⟨V35, hW⟩ : ∃ V35, w33.alloc (duo (.bool nz) (.slice adz xz.length qz)) = V35 := ⟨_, rfl⟩
  obtain ⟨kW, sz35⟩ := alloc1 w33 (duo (.bool nz) (.slice adz xz.length qz))
  rw [hW] at kW sz35
  replace Za := hid (Za.out.now kW)
  replace Zu := hid (Zu.out.now kW)
  replace Zy := hid (Zy.out.now kW)
  replace Zz := hid (Zz.out.now kW)
  replace Pa := hid (Pa.out.step kW)
  replace Pu := hid (Pu.out.step kW)
  replace Py := hid (Py.out.step kW)
  replace HT := hid (HT.out.now kW)
  replace G := hid (below_step G.out kW)
  have lz36 := (show Below _ _ _ from kW).size
  have Pz : Hid (Duo V35 (w33.heap.size) (.bool nz) (.slice adz xz.length qz)) := by unfold Hid; rw [← hW]; exact duo_at (by simp)
  clear kW
  clear HRP HRQ
  have EW := hid hW
  clear hW
  go_wp2_with fail
  rw [EW.out]
  clear EW
  refine wp_region_X (fun w' => w'.cell? ⟨w29.heap.size, 0, none⟩ = some (.bool ny) ∧ w'.cell? ⟨w29.heap.size, 1, none⟩ = some (.slice ady xy.length qy) ∧ w'.cell? ⟨w25.heap.size, 0, none⟩ = some (.bool nu) ∧ w'.cell? ⟨w25.heap.size, 1, none⟩ = some (.slice adu xu.length qu) ∧ w'.cell? ⟨w33.heap.size, 0, none⟩ = some (.bool nz) ∧ w'.cell? ⟨w33.heap.size, 1, none⟩ = some (.slice adz xz.length qz)) [] (by kernel_rfl) ?_
  obtain ⟨D37, hD⟩ : ∃ D37, V35.drew = D37 := ⟨_, rfl⟩
  have b : Below V35.heap.size V35 D37 := by rw [← hD]; exact (Below.refl _ _).drew
  rw [hD]
  clear hD
  replace Za := hid (Za.out.now b)
  replace Zu := hid (Zu.out.now b)
  replace Zy := hid (Zy.out.now b)
  replace Zz := hid (Zz.out.now b)
  replace Pa := hid (Pa.out.step b)
  replace Pu := hid (Pu.out.step b)
  replace Py := hid (Py.out.step b)
  replace Pz := hid (Pz.out.step b)
  replace HT := hid (HT.out.now b)
  replace G := hid (below_step G.out b)
  have lz38 := (show Below _ _ _ from b).size
  clear b
  refine wpAnyX_pure (i := 0) (oi := { dst := some 90, op := Op.move (Operand.tmp 11), type := 28, pos := "outright.go:188", after := #[], guard := none }) (v := (.int .i64 0)) rfl (by kernel_rfl) (fun _ _ _ h => h) (Or.inl ⟨by rfl, ?_⟩)  ?_
  · intro w hSw
    (try dsimp only at hSw)
    go_simp
  simp only [Act.put, List.setIfInBounds_toArray, List.set_cons_zero, List.set_cons_succ]
  refine wpAnyX_pure (i := 1) (oi := { dst := some 91, op := Op.binOp BinOp.eql 28 (Operand.tmp 90) (Operand.const (Value.int IntKind.i64 0)) 28, type := 4, pos := "outright.go:188", after := #[{ on := 0, ground := Ground.data }], guard := none }) (v := (.bool true)) rfl (by kernel_rfl) (fun _ _ _ h => h) (Or.inl ⟨by rfl, ?_⟩)  ?_
  · intro w hSw
    (try dsimp only at hSw)
    go_simp
  simp only [Act.put, List.setIfInBounds_toArray, List.set_cons_zero, List.set_cons_succ]
  refine wpAnyX_pure (i := 2) (oi := { dst := some 92, op := Op.move (Operand.tmp 91), type := 4, pos := "outright.go:188", after := #[{ on := 1, ground := Ground.data }], guard := none }) (v := (.bool true)) rfl (by kernel_rfl) (fun _ _ _ h => h) (Or.inl ⟨by rfl, ?_⟩)  ?_
  · intro w hSw
    (try dsimp only at hSw)
    go_simp
  simp only [Act.put, List.setIfInBounds_toArray, List.set_cons_zero, List.set_cons_succ]
  refine wpAnyX_pure (i := 3) (oi := { dst := some 93, op := Op.move (Operand.tmp 13), type := 28, pos := "outright.go:188", after := #[{ on := 2, ground := Ground.guard }], guard := some (2, true) }) (v := (.int .i64 0)) rfl (by kernel_rfl) (fun _ _ _ h => h) (Or.inl ⟨by rfl, ?_⟩)  ?_
  · intro w hSw
    (try dsimp only at hSw)
    go_simp
  simp only [Act.put, List.setIfInBounds_toArray, List.set_cons_zero, List.set_cons_succ]
  refine wpAnyX_pure (i := 4) (oi := { dst := some 94, op := Op.binOp BinOp.eql 28 (Operand.tmp 93) (Operand.const (Value.int IntKind.i64 0)) 28, type := 4, pos := "outright.go:188", after := #[{ on := 3, ground := Ground.data }, { on := 2, ground := Ground.guard }], guard := some (2, true) }) (v := (.bool true)) rfl (by kernel_rfl) (fun _ _ _ h => h) (Or.inl ⟨by rfl, ?_⟩)  ?_
  · intro w hSw
    (try dsimp only at hSw)
    go_simp
  simp only [Act.put, List.setIfInBounds_toArray, List.set_cons_zero, List.set_cons_succ]
  refine wpAnyX_pure (i := 5) (oi := { dst := some 95, op := Op.pick (Operand.tmp 92) (Operand.tmp 94) (Operand.const (Value.bool false)), type := 4, pos := "outright.go:188", after := #[{ on := 2, ground := Ground.data }, { on := 4, ground := Ground.data }], guard := none }) (v := (.bool true)) rfl (by kernel_rfl) (fun _ _ _ h => h) (Or.inl ⟨by rfl, ?_⟩)  ?_
  · intro w hSw
    (try dsimp only at hSw)
    go_simp
  simp only [Act.put, List.setIfInBounds_toArray, List.set_cons_zero, List.set_cons_succ]
  refine wpAnyX_pure (i := 6) (oi := { dst := some 96, op := Op.move (Operand.tmp 95), type := 4, pos := "outright.go:188", after := #[{ on := 5, ground := Ground.data }, { on := 2, ground := Ground.chain }], guard := none }) (v := (.bool true)) rfl (by kernel_rfl) (fun _ _ _ h => h) (Or.inl ⟨by rfl, ?_⟩)  ?_
  · intro w hSw
    (try dsimp only at hSw)
    go_simp
  simp only [Act.put, List.setIfInBounds_toArray, List.set_cons_zero, List.set_cons_succ]
  refine wpAnyX_take (i := 7) (oi := { dst := some 97, op := Op.load 24 (Operand.tmp 10), type := 24, pos := "outright.go:188", after := #[{ on := 6, ground := Ground.guard }], guard := some (6, true) }) (v := (.agg #[(.bool ny), (.slice ady xy.length qy)])) rfl (by kernel_rfl) (fun _ _ _ h => h) (Or.inl ⟨by rfl, ?_⟩) ⟨Py.out.c0, Py.out.c1, Pu.out.c0, Pu.out.c1, Pz.out.c0, Pz.out.c1⟩ ?_
  · intro w hSw
    (try dsimp only at hSw)
    go_simp
  simp only [Act.put, List.setIfInBounds_toArray, List.set_cons_zero, List.set_cons_succ]
  refine wpAnyX_take (i := 8) (oi := { dst := some 98, op := Op.load 24 (Operand.tmp 9), type := 24, pos := "outright.go:188", after := #[{ on := 6, ground := Ground.guard }], guard := some (6, true) }) (v := (.agg #[(.bool nu), (.slice adu xu.length qu)])) rfl (by kernel_rfl) (fun _ _ _ h => h) (Or.inl ⟨by rfl, ?_⟩) ⟨Py.out.c0, Py.out.c1, Pu.out.c0, Pu.out.c1, Pz.out.c0, Pz.out.c1⟩ ?_
  · intro w hSw
    (try dsimp only at hSw)
    go_simp
  simp only [Act.put, List.setIfInBounds_toArray, List.set_cons_zero, List.set_cons_succ]
  refine wpAnyX_one (i := 9) (o := { dst := some 99, op := Op.call { callee := Callee.value (Operand.func 8), args := #[Operand.tmp 97, Operand.tmp 98], argTypes := #[24, 24] }, type := 4, pos := "outright.go:188", after := #[{ on := 7, ground := Ground.data }, { on := 8, ground := Ground.data }, { on := 6, ground := Ground.chain }, { on := 6, ground := Ground.guard }], guard := some (6, true) }) (by kernel_rfl) rfl (fun K hK => ?_)
  go_simp
  go_at_call 8
  refine (alike_yes Zy.out Zu.out rfl).mono ?_
  rintro e w39 ⟨rfl, b⟩
  replace Za := hid (Za.out.now b)
  replace Zu := hid (Zu.out.now b)
  replace Zy := hid (Zy.out.now b)
  replace Zz := hid (Zz.out.now b)
  replace Pa := hid (Pa.out.step b)
  replace Pu := hid (Pu.out.step b)
  replace Py := hid (Py.out.step b)
  replace Pz := hid (Pz.out.step b)
  replace HT := hid (HT.out.now b)
  replace G := hid (below_step G.out b)
  have lz40 := (show Below _ _ _ from b).size
  clear b 
  refine hK.out _ _ (fun _ _ => ⟨Py.out.c0, Py.out.c1, Pu.out.c0, Pu.out.c1, Pz.out.c0, Pz.out.c1⟩) ?_
  clear hK
  refine wpAnyX_pure (i := 10) (oi := { dst := some 100, op := Op.pick (Operand.tmp 96) (Operand.tmp 99) (Operand.const (Value.bool false)), type := 4, pos := "outright.go:188", after := #[{ on := 6, ground := Ground.data }, { on := 9, ground := Ground.data }], guard := none }) (v := (.bool true)) rfl (by kernel_rfl) (fun _ _ _ h => h) (Or.inl ⟨by rfl, ?_⟩)  ?_
  · intro w hSw
    (try dsimp only at hSw)
    go_simp
  simp only [Act.put, List.setIfInBounds_toArray, List.set_cons_zero, List.set_cons_succ]
  refine wpAnyX_pure (i := 11) (oi := { dst := some 101, op := Op.move (Operand.tmp 100), type := 4, pos := "outright.go:188", after := #[{ on := 10, ground := Ground.data }, { on := 9, ground := Ground.chain }], guard := none }) (v := (.bool true)) rfl (by kernel_rfl) (fun _ _ _ h => h) (Or.inl ⟨by rfl, ?_⟩)  ?_
  · intro w hSw
    (try dsimp only at hSw)
    go_simp
  simp only [Act.put, List.setIfInBounds_toArray, List.set_cons_zero, List.set_cons_succ]
  refine wpAnyX_take (i := 12) (oi := { dst := some 102, op := Op.load 24 (Operand.tmp 12), type := 24, pos := "outright.go:188", after := #[{ on := 11, ground := Ground.guard }], guard := some (11, true) }) (v := (.agg #[(.bool nz), (.slice adz xz.length qz)])) rfl (by kernel_rfl) (fun _ _ _ h => h) (Or.inl ⟨by rfl, ?_⟩) ⟨Py.out.c0, Py.out.c1, Pu.out.c0, Pu.out.c1, Pz.out.c0, Pz.out.c1⟩ ?_
  · intro w hSw
    (try dsimp only at hSw)
    go_simp
  simp only [Act.put, List.setIfInBounds_toArray, List.set_cons_zero, List.set_cons_succ]
  refine wpAnyX_take (i := 13) (oi := { dst := some 103, op := Op.load 24 (Operand.tmp 9), type := 24, pos := "outright.go:188", after := #[{ on := 11, ground := Ground.guard }], guard := some (11, true) }) (v := (.agg #[(.bool nu), (.slice adu xu.length qu)])) rfl (by kernel_rfl) (fun _ _ _ h => h) (Or.inl ⟨by rfl, ?_⟩) ⟨Py.out.c0, Py.out.c1, Pu.out.c0, Pu.out.c1, Pz.out.c0, Pz.out.c1⟩ ?_
  · intro w hSw
    (try dsimp only at hSw)
    go_simp
  simp only [Act.put, List.setIfInBounds_toArray, List.set_cons_zero, List.set_cons_succ]
  refine wpAnyX_one (i := 14) (o := { dst := some 104, op := Op.call { callee := Callee.value (Operand.func 10), args := #[Operand.tmp 103], argTypes := #[24] }, type := 24, pos := "outright.go:188", after := #[{ on := 13, ground := Ground.data }, { on := 11, ground := Ground.chain }, { on := 11, ground := Ground.guard }], guard := some (11, true) }) (by kernel_rfl) rfl (fun K hK => ?_)
  go_simp
  go_at_call 10
  refine (neg_z Zu.out.zi).mono ?_
  rintro e w41 ⟨r0, rfl, m0, b⟩
  obtain ⟨no, xo, ado, qo, rfl, -, -, -, -, -⟩ := id m0
  replace Za := hid (Za.out.now b)
  replace Zu := hid (Zu.out.now b)
  replace Zy := hid (Zy.out.now b)
  replace Zz := hid (Zz.out.now b)
  replace Pa := hid (Pa.out.step b)
  replace Pu := hid (Pu.out.step b)
  replace Py := hid (Py.out.step b)
  replace Pz := hid (Pz.out.step b)
  replace HT := hid (HT.out.now b)
  replace G := hid (below_step G.out b)
  have lz42 := (show Below _ _ _ from b).size
  have Zo := hid m0
  clear b m0
  refine hK.out _ _ (fun _ _ => ⟨Py.out.c0, Py.out.c1, Pu.out.c0, Pu.out.c1, Pz.out.c0, Pz.out.c1⟩) ?_
  clear hK
  refine wpAnyX_one (i := 15) (o := { dst := some 105, op := Op.call { callee := Callee.value (Operand.func 8), args := #[Operand.tmp 102, Operand.tmp 104], argTypes := #[24, 24] }, type := 4, pos := "outright.go:188", after := #[{ on := 12, ground := Ground.data }, { on := 14, ground := Ground.data }, { on := 14, ground := Ground.chain }, { on := 11, ground := Ground.guard }], guard := some (11, true) }) (by kernel_rfl) rfl (fun K hK => ?_)
  go_simp
  go_at_call 8
  refine (alike_yes Zz.out Zo.out rfl).mono ?_
  rintro e w43 ⟨rfl, b⟩
  replace Za := hid (Za.out.now b)
  replace Zu := hid (Zu.out.now b)
  replace Zy := hid (Zy.out.now b)
  replace Zz := hid (Zz.out.now b)
  replace Zo := hid (Zo.out.now b)
  replace Pa := hid (Pa.out.step b)
  replace Pu := hid (Pu.out.step b)
  replace Py := hid (Py.out.step b)
  replace Pz := hid (Pz.out.step b)
  replace HT := hid (HT.out.now b)
  replace G := hid (below_step G.out b)
  have lz44 := (show Below _ _ _ from b).size
  clear b 
  refine hK.out _ _ (fun _ _ => ⟨Py.out.c0, Py.out.c1, Pu.out.c0, Pu.out.c1, Pz.out.c0, Pz.out.c1⟩) ?_
  clear hK
  refine wpAnyX_pure (i := 16) (oi := { dst := some 106, op := Op.pick (Operand.tmp 101) (Operand.tmp 105) (Operand.const (Value.bool false)), type := 4, pos := "outright.go:188", after := #[{ on := 11, ground := Ground.data }, { on := 15, ground := Ground.data }], guard := none }) (v := (.bool true)) rfl (by kernel_rfl) (fun _ _ _ h => h) (Or.inl ⟨by rfl, ?_⟩)  ?_
  · intro w hSw
    (try dsimp only at hSw)
    go_simp
  simp only [Act.put, List.setIfInBounds_toArray, List.set_cons_zero, List.set_cons_succ]
  refine wpAnyX_pure (i := 17) (oi := { dst := some 4, op := Op.assign (Operand.tmp 106), type := 4, pos := "outright.go:188", after := #[{ on := 16, ground := Ground.data }, { on := 15, ground := Ground.chain }, { on := 0, ground := Ground.phase }, { on := 1, ground := Ground.phase }, { on := 2, ground := Ground.phase }, { on := 3, ground := Ground.phase }, { on := 4, ground := Ground.phase }, { on := 5, ground := Ground.phase }, { on := 6, ground := Ground.phase }, { on := 7, ground := Ground.phase }, { on := 8, ground := Ground.phase }, { on := 9, ground := Ground.phase }, { on := 10, ground := Ground.phase }, { on := 11, ground := Ground.phase }, { on := 12, ground := Ground.phase }, { on := 13, ground := Ground.phase }, { on := 14, ground := Ground.phase }, { on := 15, ground := Ground.phase }, { on := 16, ground := Ground.phase }], guard := none }) (v := (.bool true)) rfl (by kernel_rfl) (fun _ _ _ h => h) (Or.inl ⟨by rfl, ?_⟩)  ?_
  · intro w hSw
    (try dsimp only at hSw)
    go_simp
  simp only [Act.put, List.setIfInBounds_toArray, List.set_cons_zero, List.set_cons_succ]
  refine wpAnyX_done (by kernel_rfl) ?_ _
  go_wp2
  go_ret
  exact ⟨rfl, G.out⟩

set_option maxHeartbeats 6400000 in
set_option maxRecDepth 100000 in
theorem zintTexts_neg {w : World} {va : Value} {A : Int} {l : List UInt8} (ha : Zi w va A 1048576) (hl : l.length ≤ 1048576) (hT : Sg w) (hA : A < 0) :
    Calls Tryd.prog 3 #[va, .string ⟨l.toArray⟩] w fun e w' => e = .returned (.bool true) ∧ Below w.heap.size w w' := by
  have HRD : Hid (∀ w, Sg w → Calls Tryd.prog 5 #[.string ⟨l.toArray⟩] w fun e w' => e = .returned (.bool true) ∧ Below w.heap.size w w') := fun w h => reads_any h (by omega)
  generalize (⟨l.toArray⟩ : ByteArray) = tx at *
  have hTl : (txtL 10 A.natAbs).length ≤ 67108865 := by
    obtain ⟨n, xs, _, _, _, s0, z0, k0⟩ := id ha
    have h := txt_size (B := 10) (by omega) s0.1 (by omega)
    rw [iv_vn s0.1 z0] at h
    rw [← mk_size]
    exact h
  have HTX : Hid (∀ w v, Sg w → Zi w v A 1048576 → Calls Tryd.prog 6 #[v] w fun e w' => e = .returned (.string (ztxt A)) ∧ Below w.heap.size w w') := fun w v h h' => text_z h' (by omega) h
  have HTN : Hid (∀ w v, Sg w → Zi w v (-A) 1048576 → Calls Tryd.prog 6 #[v] w fun e w' => e = .returned (.string (ztxt (-A))) ∧ Below w.heap.size w w') := fun w v h h' => text_z h' (by omega) h
  have HRS : Hid (∀ w, Sg w → Calls Tryd.prog 7 #[.string (ztxt A)] w fun e w' => ∃ r, e = .returned (.tuple #[r, .int .i64 0]) ∧ Zm 0 w' r A 35184372088832 ∧ Below w.heap.size w w') := fun w h => by
    have q := rd_ok (l := ztL A) h (by unfold ztL; split <;> (try simp) <;> omega) (ztL_reads A).1
    rw [(ztL_reads A).2, ← ztxt_list] at q
    exact q
  have HRP : Hid (∀ w, Sg w → Calls Tryd.prog 7 #[.string (⟨#[43, 48, 48]⟩ ++ txt 10 A.natAbs)] w fun e w' => ∃ r, e = .returned (.tuple #[r, .int .i64 0]) ∧ Zm 0 w' r (A.natAbs : Int) 35184372088832 ∧ Below w.heap.size w w') := fun w h => by
    have q := rd_ok (l := 43 :: 48 :: 48 :: txtL 10 A.natAbs) h (by simp; omega) (plus_reads _).1
    rw [(plus_reads _).2] at q
    have e : (⟨#[43, 48, 48]⟩ : ByteArray) ++ txt 10 A.natAbs = ⟨(43 :: 48 :: 48 :: txtL 10 A.natAbs).toArray⟩ := by unfold txt; apply ByteArray.ext; simp
    rw [e]
    exact q
  have HRQ : Hid (∀ w, Sg w → Calls Tryd.prog 7 #[.string (⟨#[226, 136, 146, 48]⟩ ++ txt 10 A.natAbs)] w fun e w' => ∃ r, e = .returned (.tuple #[r, .int .i64 0]) ∧ Zm 0 w' r (-(A.natAbs : Int)) 35184372088832 ∧ Below w.heap.size w w') := fun w h => by
    have q := rd_ok (l := 226 :: 136 :: 146 :: 48 :: txtL 10 A.natAbs) h (by simp; omega) (long_reads _).1
    rw [(long_reads _).2] at q
    have e : (⟨#[226, 136, 146, 48]⟩ : ByteArray) ++ txt 10 A.natAbs = ⟨(226 :: 136 :: 146 :: 48 :: txtL 10 A.natAbs).toArray⟩ := by unfold txt; apply ByteArray.ext; simp
    rw [e]
    exact q
  have HSG : Hid (∀ w v, Zi w v A 1048576 → Calls Tryd.prog 11 #[v] w fun e w' => e = .returned (.int .i64 (cmpI A 0)) ∧ Below w.heap.size w w') := fun w v h => sign_z h
  obtain ⟨c, r, hcr, hc1, hc2⟩ := txt_head (n := A.natAbs) (by omega)
  obtain ⟨S, hS⟩ : ∃ S, txt 10 A.natAbs = S := ⟨_, rfl⟩
  obtain ⟨U, hU⟩ : ∃ U, (⟨#[45]⟩ : ByteArray) ++ S = U := ⟨_, rfl⟩
  have hSl : S = ⟨(c :: r).toArray⟩ := by rw [← hS, ← hcr]; rfl
  have hsz : S.size ≤ 67108865 := by rw [hSl, mk_size, ← hcr]; exact hTl
  have h0 : 0 < S.size := by rw [hSl, mk_size]; simp
  have hix : ((S[0]'h0).toNat : Int) = (c.toNat : Int) := by subst hSl; rfl
  have hemS : S.toList.isEmpty = false := by rw [hSl, Lib.toList_data]; rfl
  have hemU : U.toList.isEmpty = false := by rw [← hU, hSl, Lib.toList_data]; simp
  have d1 : ¬ (c.toNat : Int) < 49 := by omega
  have d2 : ¬ (57 : Int) < (c.toNat : Int) := by omega
  have e0 : ztxt A = U := by unfold ztxt; rw [if_pos (by omega), hS, hU]
  have e1 : ztxt (-A) = S := by unfold ztxt; rw [if_neg (by omega), Int.natAbs_neg, hS]
  have e2 : cmpI A 0 = -1 := cmpI_lt hA
  have qs : ((-1 : Int) == 0) = false := rfl
  have ql : (-1 : Int) < 0 := by decide
  rw [e0] at HTX HRS
  rw [e1] at HTN
  rw [e2] at HSG
  rw [hS] at HRP HRQ
  have HU := hid hU
  clear hS hSl e0 e1 e2 hcr hc1 hc2 hTl hA hU
  have za0 := ha
  obtain ⟨na, xa, ada, ca, rfl, -, -, -⟩ := ha
  obtain ⟨W0, hW⟩ : ∃ W0, w.alloc (duo (.bool na) (.slice ada xa.length ca)) = W0 := ⟨_, rfl⟩
  obtain ⟨b0, sz0⟩ := alloc1 w (duo (.bool na) (.slice ada xa.length ca))
  rw [hW] at b0 sz0
  have Pa : Hid (Duo W0 (w.heap.size) (.bool na) (.slice ada xa.length ca)) := by unfold Hid; rw [← hW]; exact duo_at (by simp)
  have Za := hid (za0.now b0)
  clear za0
  have G := hid b0
  clear b0
  have EW := hid hW
  clear hW
  go_enter Tryd.func3, Tryd.ntmps3
  have HT := hid (hT.now G.out)
  clear hT
  skip
  go_wp2_with fail
  rw [EW.out]
  clear EW
  refine (awake5_any HT.out).mono ?_
  rintro e w1 ⟨rfl, b⟩
  replace Za := hid (Za.out.now b)
  replace Pa := hid (Pa.out.step b)
  replace HT := hid (HT.out.now b)
  replace G := hid (below_step G.out b)
  have lz2 := (show Below _ _ _ from b).size
  clear b 
  go_wp2_with fail
  refine (HRD.out _ HT.out).mono ?_
  rintro e w3 ⟨rfl, b⟩
  replace Za := hid (Za.out.now b)
  replace Pa := hid (Pa.out.step b)
  replace HT := hid (HT.out.now b)
  replace G := hid (below_step G.out b)
  have lz4 := (show Below _ _ _ from b).size
  clear b 
  clear HRD
  have ca0 := Pa.out.c0
  have ca1 := Pa.out.c1
  go_wp2_with fail
  clear ca0 ca1
  refine (HTX.out _ _ HT.out Za.out).mono ?_
  rintro e w5 ⟨rfl, b⟩
  replace Za := hid (Za.out.now b)
  replace Pa := hid (Pa.out.step b)
  replace HT := hid (HT.out.now b)
  replace G := hid (below_step G.out b)
  have lz6 := (show Below _ _ _ from b).size
  clear b 
  clear HTX
  go_wp2_with fail
  refine (HRS.out _ HT.out).mono ?_
  rintro e w7 ⟨r0, rfl, m0, b⟩
  obtain ⟨nx, xx, adx, qx, rfl, -, -, -, -, -⟩ := id m0
  replace Za := hid (Za.out.now b)
  replace Pa := hid (Pa.out.step b)
  replace HT := hid (HT.out.now b)
  replace G := hid (below_step G.out b)
  have lz8 := (show Below _ _ _ from b).size
  have Zx := hid m0
  clear b m0
  clear HRS
  obtain ⟨V9, hW⟩ : ∃ V9, w7.alloc (duo (.bool nx) (.slice adx xx.length qx)) = V9 := ⟨_, rfl⟩
  obtain ⟨kW, sz9⟩ := alloc1 w7 (duo (.bool nx) (.slice adx xx.length qx))
  rw [hW] at kW sz9
  replace Za := hid (Za.out.now kW)
  replace Zx := hid (Zx.out.now kW)
  replace Pa := hid (Pa.out.step kW)
  replace HT := hid (HT.out.now kW)
  replace G := hid (below_step G.out kW)
  have lz10 := (show Below _ _ _ from kW).size
  have Px : Hid (Duo V9 (w7.heap.size) (.bool nx) (.slice adx xx.length qx)) := by unfold Hid; rw [← hW]; exact duo_at (by simp)
  clear kW
  have EW := hid hW
  clear hW
  go_wp2_with fail
  rw [EW.out]
  clear EW
  refine wp_region_X (fun w' => w'.cell? ⟨w7.heap.size, 0, none⟩ = some (.bool nx) ∧ w'.cell? ⟨w7.heap.size, 1, none⟩ = some (.slice adx xx.length qx) ∧ w'.cell? ⟨w.heap.size, 0, none⟩ = some (.bool na) ∧ w'.cell? ⟨w.heap.size, 1, none⟩ = some (.slice ada xa.length ca)) [] (by kernel_rfl) ?_
  obtain ⟨D11, hD⟩ : ∃ D11, V9.drew = D11 := ⟨_, rfl⟩
  have b : Below V9.heap.size V9 D11 := by rw [← hD]; exact (Below.refl _ _).drew
  rw [hD]
  clear hD
  replace Za := hid (Za.out.now b)
  replace Zx := hid (Zx.out.now b)
  replace Pa := hid (Pa.out.step b)
  replace Px := hid (Px.out.step b)
  replace HT := hid (HT.out.now b)
  replace G := hid (below_step G.out b)
  have lz12 := (show Below _ _ _ from b).size
  clear b
  refine wpAnyX_pure (i := 0) (oi := { dst := some 28, op := Op.move (Operand.tmp 7), type := 28, pos := "outright.go:172", after := #[], guard := none }) (v := (.int .i64 0)) rfl (by kernel_rfl) (fun _ _ _ h => h) (Or.inl ⟨by rfl, ?_⟩)  ?_
  · intro w hSw
    (try dsimp only at hSw)
    go_simp
  simp only [Act.put, List.setIfInBounds_toArray, List.set_cons_zero, List.set_cons_succ]
  refine wpAnyX_pure (i := 1) (oi := { dst := some 29, op := Op.binOp BinOp.neq 28 (Operand.tmp 28) (Operand.const (Value.int IntKind.i64 0)) 28, type := 4, pos := "outright.go:172", after := #[{ on := 0, ground := Ground.data }], guard := none }) (v := (.bool false)) rfl (by kernel_rfl) (fun _ _ _ h => h) (Or.inl ⟨by rfl, ?_⟩)  ?_
  · intro w hSw
    (try dsimp only at hSw)
    go_simp
  simp only [Act.put, List.setIfInBounds_toArray, List.set_cons_zero, List.set_cons_succ]
  refine wpAnyX_pure (i := 2) (oi := { dst := some 30, op := Op.move (Operand.tmp 29), type := 4, pos := "outright.go:172", after := #[{ on := 1, ground := Ground.data }], guard := none }) (v := (.bool false)) rfl (by kernel_rfl) (fun _ _ _ h => h) (Or.inl ⟨by rfl, ?_⟩)  ?_
  · intro w hSw
    (try dsimp only at hSw)
    go_simp
  simp only [Act.put, List.setIfInBounds_toArray, List.set_cons_zero, List.set_cons_succ]
  refine wpAnyX_take (i := 3) (oi := { dst := some 31, op := Op.load 24 (Operand.tmp 6), type := 24, pos := "outright.go:172", after := #[{ on := 2, ground := Ground.guard }], guard := some (2, false) }) (v := (.agg #[(.bool nx), (.slice adx xx.length qx)])) rfl (by kernel_rfl) (fun _ _ _ h => h) (Or.inl ⟨by rfl, ?_⟩) ⟨Px.out.c0, Px.out.c1, Pa.out.c0, Pa.out.c1⟩ ?_
  · intro w hSw
    (try dsimp only at hSw)
    go_simp
  simp only [Act.put, List.setIfInBounds_toArray, List.set_cons_zero, List.set_cons_succ]
  refine wpAnyX_take (i := 4) (oi := { dst := some 32, op := Op.load 24 (Operand.tmp 2), type := 24, pos := "outright.go:172", after := #[{ on := 2, ground := Ground.guard }], guard := some (2, false) }) (v := (.agg #[(.bool na), (.slice ada xa.length ca)])) rfl (by kernel_rfl) (fun _ _ _ h => h) (Or.inl ⟨by rfl, ?_⟩) ⟨Px.out.c0, Px.out.c1, Pa.out.c0, Pa.out.c1⟩ ?_
  · intro w hSw
    (try dsimp only at hSw)
    go_simp
  simp only [Act.put, List.setIfInBounds_toArray, List.set_cons_zero, List.set_cons_succ]
  refine wpAnyX_one (i := 5) (o := { dst := some 33, op := Op.call { callee := Callee.value (Operand.func 9), args := #[Operand.tmp 32], argTypes := #[24] }, type := 24, pos := "outright.go:172", after := #[{ on := 4, ground := Ground.data }, { on := 2, ground := Ground.chain }, { on := 2, ground := Ground.guard }], guard := some (2, false) }) (by kernel_rfl) rfl (fun K hK => ?_)
  go_simp
  go_at_call 9
  refine (least_z Za.out).mono ?_
  rintro e w13 ⟨r0, rfl, m0, b⟩
  obtain ⟨ny, xy, ady, qy, rfl, -, -, -, -, -⟩ := id m0
  replace Za := hid (Za.out.now b)
  replace Zx := hid (Zx.out.now b)
  replace Pa := hid (Pa.out.step b)
  replace Px := hid (Px.out.step b)
  replace HT := hid (HT.out.now b)
  replace G := hid (below_step G.out b)
  have lz14 := (show Below _ _ _ from b).size
  have Zy := hid m0
  clear b m0
  refine hK.out _ _ (fun _ _ => ⟨Px.out.c0, Px.out.c1, Pa.out.c0, Pa.out.c1⟩) ?_
  clear hK
  refine wpAnyX_one (i := 6) (o := { dst := some 34, op := Op.call { callee := Callee.value (Operand.func 8), args := #[Operand.tmp 31, Operand.tmp 33], argTypes := #[24, 24] }, type := 4, pos := "outright.go:172", after := #[{ on := 3, ground := Ground.data }, { on := 5, ground := Ground.data }, { on := 5, ground := Ground.chain }, { on := 2, ground := Ground.guard }], guard := some (2, false) }) (by kernel_rfl) rfl (fun K hK => ?_)
  go_simp
  go_at_call 8
  refine (alike_yes Zx.out Zy.out rfl).mono ?_
  rintro e w15 ⟨rfl, b⟩
  replace Za := hid (Za.out.now b)
  replace Zx := hid (Zx.out.now b)
  replace Zy := hid (Zy.out.now b)
  replace Pa := hid (Pa.out.step b)
  replace Px := hid (Px.out.step b)
  replace HT := hid (HT.out.now b)
  replace G := hid (below_step G.out b)
  have lz16 := (show Below _ _ _ from b).size
  clear b 
  refine hK.out _ _ (fun _ _ => ⟨Px.out.c0, Px.out.c1, Pa.out.c0, Pa.out.c1⟩) ?_
  clear hK
  refine wpAnyX_pure (i := 7) (oi := { dst := some 35, op := Op.unOp UnOp.not 4 (Operand.tmp 34), type := 4, pos := "outright.go:172", after := #[{ on := 6, ground := Ground.data }, { on := 2, ground := Ground.guard }], guard := some (2, false) }) (v := (.bool false)) rfl (by kernel_rfl) (fun _ _ _ h => h) (Or.inl ⟨by rfl, ?_⟩)  ?_
  · intro w hSw
    (try dsimp only at hSw)
    go_simp
  simp only [Act.put, List.setIfInBounds_toArray, List.set_cons_zero, List.set_cons_succ]
  refine wpAnyX_pure (i := 8) (oi := { dst := some 36, op := Op.pick (Operand.tmp 30) (Operand.const (Value.bool true)) (Operand.tmp 35), type := 4, pos := "outright.go:172", after := #[{ on := 2, ground := Ground.data }, { on := 7, ground := Ground.data }], guard := none }) (v := (.bool false)) rfl (by kernel_rfl) (fun _ _ _ h => h) (Or.inl ⟨by rfl, ?_⟩)  ?_
  · intro w hSw
    (try dsimp only at hSw)
    go_simp
  simp only [Act.put, List.setIfInBounds_toArray, List.set_cons_zero, List.set_cons_succ]
  refine wpAnyX_pure (i := 9) (oi := { dst := some 37, op := Op.move (Operand.tmp 36), type := 4, pos := "outright.go:172", after := #[{ on := 8, ground := Ground.data }, { on := 6, ground := Ground.chain }], guard := none }) (v := (.bool false)) rfl (by kernel_rfl) (fun _ _ _ h => h) (Or.inl ⟨by rfl, ?_⟩)  ?_
  · intro w hSw
    (try dsimp only at hSw)
    go_simp
  simp only [Act.put, List.setIfInBounds_toArray, List.set_cons_zero, List.set_cons_succ]
  refine wpAnyX_pure (i := 10) (oi := { dst := some 38, op := Op.move (Operand.tmp 5), type := 9, pos := "outright.go:172", after := #[{ on := 9, ground := Ground.guard }], guard := some (9, false) }) (v := (.string U)) rfl (by kernel_rfl) (fun _ _ _ h => h) (Or.inl ⟨by rfl, ?_⟩)  ?_
  · intro w hSw
    (try dsimp only at hSw)
    go_simp
  simp only [Act.put, List.setIfInBounds_toArray, List.set_cons_zero, List.set_cons_succ]
  refine wpAnyX_pure (i := 11) (oi := { dst := some 39, op := Op.binOp BinOp.eql 9 (Operand.tmp 38) (Operand.const (Value.string { data := #[] })) 9, type := 4, pos := "outright.go:172", after := #[{ on := 10, ground := Ground.data }, { on := 9, ground := Ground.guard }], guard := some (9, false) }) (v := (.bool false)) rfl (by kernel_rfl) (fun _ _ _ h => h) (Or.inl ⟨by rfl, ?_⟩)  ?_
  · intro w hSw
    (try dsimp only at hSw)
    go_simp
  simp only [Act.put, List.setIfInBounds_toArray, List.set_cons_zero, List.set_cons_succ]
  refine wpAnyX_pure (i := 12) (oi := { dst := some 40, op := Op.pick (Operand.tmp 37) (Operand.const (Value.bool true)) (Operand.tmp 39), type := 4, pos := "outright.go:172", after := #[{ on := 9, ground := Ground.data }, { on := 11, ground := Ground.data }], guard := none }) (v := (.bool false)) rfl (by kernel_rfl) (fun _ _ _ h => h) (Or.inl ⟨by rfl, ?_⟩)  ?_
  · intro w hSw
    (try dsimp only at hSw)
    go_simp
  simp only [Act.put, List.setIfInBounds_toArray, List.set_cons_zero, List.set_cons_succ]
  refine wpAnyX_done (by kernel_rfl) ?_ _
  clear Zy
  clear Zx
  clear Px
  have ca0 := Pa.out.c0
  have ca1 := Pa.out.c1
  go_wp2_with fail
  clear ca0 ca1
  refine (neg_z Za.out).mono ?_
  rintro e w17 ⟨r0, rfl, m0, b⟩
  obtain ⟨nq, xq, adq, qq, rfl, -, -, -, -, -⟩ := id m0
  replace Za := hid (Za.out.now b)
  replace Pa := hid (Pa.out.step b)
  replace HT := hid (HT.out.now b)
  replace G := hid (below_step G.out b)
  have lz18 := (show Below _ _ _ from b).size
  have Zq := hid m0
  clear b m0
  go_wp2_with fail
  refine (HTN.out _ _ HT.out Zq.out.zi).mono ?_
  rintro e w19 ⟨rfl, b⟩
  replace Za := hid (Za.out.now b)
  replace Zq := hid (Zq.out.now b)
  replace Pa := hid (Pa.out.step b)
  replace HT := hid (HT.out.now b)
  replace G := hid (below_step G.out b)
  have lz20 := (show Below _ _ _ from b).size
  clear b 
  clear HTN
  clear Zq
  have ca0 := Pa.out.c0
  have ca1 := Pa.out.c1
  go_wp2_with fail
  clear ca0 ca1
  refine (HSG.out _ _ Za.out).mono ?_
  rintro e w21 ⟨rfl, b⟩
  replace Za := hid (Za.out.now b)
  replace Pa := hid (Pa.out.step b)
  replace HT := hid (HT.out.now b)
  replace G := hid (below_step G.out b)
  have lz22 := (show Below _ _ _ from b).size
  clear b 
  have ca0 := Pa.out.c0
  have ca1 := Pa.out.c1
  go_wp2_with fail
  clear ca0 ca1
  refine (HSG.out _ _ Za.out).mono ?_
  rintro e w23 ⟨rfl, b⟩
  replace Za := hid (Za.out.now b)
  replace Pa := hid (Pa.out.step b)
  replace HT := hid (HT.out.now b)
  replace G := hid (below_step G.out b)
  have lz24 := (show Below _ _ _ from b).size
  clear b 
  have hU := HU.out
  have ca0 := Pa.out.c0
  have ca1 := Pa.out.c1
  go_wp2_with fail
  clear ca0 ca1
  refine (abs_z Za.out).mono ?_
  rintro e w25 ⟨r0, rfl, m0, b⟩
  obtain ⟨nu, xu, adu, qu, rfl, -, -, -, -, -⟩ := id m0
  replace Za := hid (Za.out.now b)
  replace Pa := hid (Pa.out.step b)
  replace HT := hid (HT.out.now b)
  replace G := hid (below_step G.out b)
  have lz26 := (show Below _ _ _ from b).size
  have Zu := hid m0
  clear b m0
  clear hU HU HSG d1 d2 hix ql qs
  obtain ⟨V27, hW⟩ : ∃ V27, w25.alloc (duo (.bool nu) (.slice adu xu.length qu)) = V27 := ⟨_, rfl⟩
  obtain ⟨kW, sz27⟩ := alloc1 w25 (duo (.bool nu) (.slice adu xu.length qu))
  rw [hW] at kW sz27
  replace Za := hid (Za.out.now kW)
  replace Zu := hid (Zu.out.now kW)
  replace Pa := hid (Pa.out.step kW)
  replace HT := hid (HT.out.now kW)
  replace G := hid (below_step G.out kW)
  have lz28 := (show Below _ _ _ from kW).size
  have Pu : Hid (Duo V27 (w25.heap.size) (.bool nu) (.slice adu xu.length qu)) := by unfold Hid; rw [← hW]; exact duo_at (by simp)
  clear kW
  have EW := hid hW
  clear hW
  go_wp2_with fail
  rw [EW.out]
  clear EW
  refine (HRP.out _ HT.out).mono ?_
  rintro e w29 ⟨r0, rfl, m0, b⟩
  obtain ⟨ny, xy, ady, qy, rfl, -, -, -, -, -⟩ := id m0
  replace Za := hid (Za.out.now b)
  replace Zu := hid (Zu.out.now b)
  replace Pa := hid (Pa.out.step b)
  replace Pu := hid (Pu.out.step b)
  replace HT := hid (HT.out.now b)
  replace G := hid (below_step G.out b)
  have lz30 := (show Below _ _ _ from b).size
  have Zy := hid m0
  clear b m0
  obtain ⟨V31, hW⟩ : ∃ V31, w29.alloc (duo (.bool ny) (.slice ady xy.length qy)) = V31 := ⟨_, rfl⟩
  obtain ⟨kW, sz31⟩ := alloc1 w29 (duo (.bool ny) (.slice ady xy.length qy))
  rw [hW] at kW sz31
  replace Za := hid (Za.out.now kW)
  replace Zu := hid (Zu.out.now kW)
  replace Zy := hid (Zy.out.now kW)
  replace Pa := hid (Pa.out.step kW)
  replace Pu := hid (Pu.out.step kW)
  replace HT := hid (HT.out.now kW)
  replace G := hid (below_step G.out kW)
  have lz32 := (show Below _ _ _ from kW).size
  have Py : Hid (Duo V31 (w29.heap.size) (.bool ny) (.slice ady xy.length qy)) := by unfold Hid; rw [← hW]; exact duo_at (by simp)
  clear kW
  have EW := hid hW
  clear hW
  go_wp2_with fail
  rw [EW.out]
  clear EW
  refine (HRQ.out _ HT.out).mono ?_
  rintro e w33 ⟨r0, rfl, m0, b⟩
  obtain ⟨nz, xz, adz, qz, rfl, -, -, -, -, -⟩ := id m0
  replace Za := hid (Za.out.now b)
  replace Zu := hid (Zu.out.now b)
  replace Zy := hid (Zy.out.now b)
  replace Pa := hid (Pa.out.step b)
  replace Pu := hid (Pu.out.step b)
  replace Py := hid (Py.out.step b)
  replace HT := hid (HT.out.now b)
  replace G := hid (below_step G.out b)
  have lz34 := (show Below _ _ _ from b).size
  have Zz := hid m0
  clear b m0
  obtain ⟨V35, hW⟩ : ∃ V35, w33.alloc (duo (.bool nz) (.slice adz xz.length qz)) = V35 := ⟨_, rfl⟩
  obtain ⟨kW, sz35⟩ := alloc1 w33 (duo (.bool nz) (.slice adz xz.length qz))
  rw [hW] at kW sz35
  replace Za := hid (Za.out.now kW)
  replace Zu := hid (Zu.out.now kW)
  replace Zy := hid (Zy.out.now kW)
  replace Zz := hid (Zz.out.now kW)
  replace Pa := hid (Pa.out.step kW)
  replace Pu := hid (Pu.out.step kW)
  replace Py := hid (Py.out.step kW)
  replace HT := hid (HT.out.now kW)
  replace G := hid (below_step G.out kW)
  have lz36 := (show Below _ _ _ from kW).size
  have Pz : Hid (Duo V35 (w33.heap.size) (.bool nz) (.slice adz xz.length qz)) := by unfold Hid; rw [← hW]; exact duo_at (by simp)
  clear kW
  clear HRP HRQ
  have EW := hid hW
  clear hW
  go_wp2_with fail
  rw [EW.out]
  clear EW
  refine wp_region_X (fun w' => w'.cell? ⟨w29.heap.size, 0, none⟩ = some (.bool ny) ∧ w'.cell? ⟨w29.heap.size, 1, none⟩ = some (.slice ady xy.length qy) ∧ w'.cell? ⟨w25.heap.size, 0, none⟩ = some (.bool nu) ∧ w'.cell? ⟨w25.heap.size, 1, none⟩ = some (.slice adu xu.length qu) ∧ w'.cell? ⟨w33.heap.size, 0, none⟩ = some (.bool nz) ∧ w'.cell? ⟨w33.heap.size, 1, none⟩ = some (.slice adz xz.length qz)) [] (by kernel_rfl) ?_
  obtain ⟨D37, hD⟩ : ∃ D37, V35.drew = D37 := ⟨_, rfl⟩
  have b : Below V35.heap.size V35 D37 := by rw [← hD]; exact (Below.refl _ _).drew
  rw [hD]
  clear hD
  replace Za := hid (Za.out.now b)
  replace Zu := hid (Zu.out.now b)
  replace Zy := hid (Zy.out.now b)
  replace Zz := hid (Zz.out.now b)
  replace Pa := hid (Pa.out.step b)
  replace Pu := hid (Pu.out.step b)
  replace Py := hid (Py.out.step b)
  replace Pz := hid (Pz.out.step b)
  replace HT := hid (HT.out.now b)
  replace G := hid (below_step G.out b)
  have lz38 := (show Below _ _ _ from b).size
  clear b
  refine wpAnyX_pure (i := 0) (oi := { dst := some 90, op := Op.move (Operand.tmp 11), type := 28, pos := "outright.go:188", after := #[], guard := none }) (v := (.int .i64 0)) rfl (by kernel_rfl) (fun _ _ _ h => h) (Or.inl ⟨by rfl, ?_⟩)  ?_
  · intro w hSw
    (try dsimp only at hSw)
    go_simp
  simp only [Act.put, List.setIfInBounds_toArray, List.set_cons_zero, List.set_cons_succ]
  refine wpAnyX_pure (i := 1) (oi := { dst := some 91, op := Op.binOp BinOp.eql 28 (Operand.tmp 90) (Operand.const (Value.int IntKind.i64 0)) 28, type := 4, pos := "outright.go:188", after := #[{ on := 0, ground := Ground.data }], guard := none }) (v := (.bool true)) rfl (by kernel_rfl) (fun _ _ _ h => h) (Or.inl ⟨by rfl, ?_⟩)  ?_
  · intro w hSw
    (try dsimp only at hSw)
    go_simp
  simp only [Act.put, List.setIfInBounds_toArray, List.set_cons_zero, List.set_cons_succ]
  refine wpAnyX_pure (i := 2) (oi := { dst := some 92, op := Op.move (Operand.tmp 91), type := 4, pos := "outright.go:188", after := #[{ on := 1, ground := Ground.data }], guard := none }) (v := (.bool true)) rfl (by kernel_rfl) (fun _ _ _ h => h) (Or.inl ⟨by rfl, ?_⟩)  ?_
  · intro w hSw
    (try dsimp only at hSw)
    go_simp
  simp only [Act.put, List.setIfInBounds_toArray, List.set_cons_zero, List.set_cons_succ]
  refine wpAnyX_pure (i := 3) (oi := { dst := some 93, op := Op.move (Operand.tmp 13), type := 28, pos := "outright.go:188", after := #[{ on := 2, ground := Ground.guard }], guard := some (2, true) }) (v := (.int .i64 0)) rfl (by kernel_rfl) (fun _ _ _ h => h) (Or.inl ⟨by rfl, ?_⟩)  ?_
  · intro w hSw
    (try dsimp only at hSw)
    go_simp
  simp only [Act.put, List.setIfInBounds_toArray, List.set_cons_zero, List.set_cons_succ]
  refine wpAnyX_pure (i := 4) (oi := { dst := some 94, op := Op.binOp BinOp.eql 28 (Operand.tmp 93) (Operand.const (Value.int IntKind.i64 0)) 28, type := 4, pos := "outright.go:188", after := #[{ on := 3, ground := Ground.data }, { on := 2, ground := Ground.guard }], guard := some (2, true) }) (v := (.bool true)) rfl (by kernel_rfl) (fun _ _ _ h => h) (Or.inl ⟨by rfl, ?_⟩)  ?_
  · intro w hSw
    (try dsimp only at hSw)
    go_simp
  simp only [Act.put, List.setIfInBounds_toArray, List.set_cons_zero, List.set_cons_succ]
  refine wpAnyX_pure (i := 5) (oi := { dst := some 95, op := Op.pick (Operand.tmp 92) (Operand.tmp 94) (Operand.const (Value.bool false)), type := 4, pos := "outright.go:188", after := #[{ on := 2, ground := Ground.data }, { on := 4, ground := Ground.data }], guard := none }) (v := (.bool true)) rfl (by kernel_rfl) (fun _ _ _ h => h) (Or.inl ⟨by rfl, ?_⟩)  ?_
  · intro w hSw
    (try dsimp only at hSw)
    go_simp
  simp only [Act.put, List.setIfInBounds_toArray, List.set_cons_zero, List.set_cons_succ]
  refine wpAnyX_pure (i := 6) (oi := { dst := some 96, op := Op.move (Operand.tmp 95), type := 4, pos := "outright.go:188", after := #[{ on := 5, ground := Ground.data }, { on := 2, ground := Ground.chain }], guard := none }) (v := (.bool true)) rfl (by kernel_rfl) (fun _ _ _ h => h) (Or.inl ⟨by rfl, ?_⟩)  ?_
  · intro w hSw
    (try dsimp only at hSw)
    go_simp
  simp only [Act.put, List.setIfInBounds_toArray, List.set_cons_zero, List.set_cons_succ]
  refine wpAnyX_take (i := 7) (oi := { dst := some 97, op := Op.load 24 (Operand.tmp 10), type := 24, pos := "outright.go:188", after := #[{ on := 6, ground := Ground.guard }], guard := some (6, true) }) (v := (.agg #[(.bool ny), (.slice ady xy.length qy)])) rfl (by kernel_rfl) (fun _ _ _ h => h) (Or.inl ⟨by rfl, ?_⟩) ⟨Py.out.c0, Py.out.c1, Pu.out.c0, Pu.out.c1, Pz.out.c0, Pz.out.c1⟩ ?_
  · intro w hSw
    (try dsimp only at hSw)
    go_simp
  simp only [Act.put, List.setIfInBounds_toArray, List.set_cons_zero, List.set_cons_succ]
  refine wpAnyX_take (i := 8) (oi := { dst := some 98, op := Op.load 24 (Operand.tmp 9), type := 24, pos := "outright.go:188", after := #[{ on := 6, ground := Ground.guard }], guard := some (6, true) }) (v := (.agg #[(.bool nu), (.slice adu xu.length qu)])) rfl (by kernel_rfl) (fun _ _ _ h => h) (Or.inl ⟨by rfl, ?_⟩) ⟨Py.out.c0, Py.out.c1, Pu.out.c0, Pu.out.c1, Pz.out.c0, Pz.out.c1⟩ ?_
  · intro w hSw
    (try dsimp only at hSw)
    go_simp
  simp only [Act.put, List.setIfInBounds_toArray, List.set_cons_zero, List.set_cons_succ]
  refine wpAnyX_one (i := 9) (o := { dst := some 99, op := Op.call { callee := Callee.value (Operand.func 8), args := #[Operand.tmp 97, Operand.tmp 98], argTypes := #[24, 24] }, type := 4, pos := "outright.go:188", after := #[{ on := 7, ground := Ground.data }, { on := 8, ground := Ground.data }, { on := 6, ground := Ground.chain }, { on := 6, ground := Ground.guard }], guard := some (6, true) }) (by kernel_rfl) rfl (fun K hK => ?_)
  go_simp
  go_at_call 8
  refine (alike_yes Zy.out Zu.out rfl).mono ?_
  rintro e w39 ⟨rfl, b⟩
  replace Za := hid (Za.out.now b)
  replace Zu := hid (Zu.out.now b)
  replace Zy := hid (Zy.out.now b)
  replace Zz := hid (Zz.out.now b)
  replace Pa := hid (Pa.out.step b)
  replace Pu := hid (Pu.out.step b)
  replace Py := hid (Py.out.step b)
  replace Pz := hid (Pz.out.step b)
  replace HT := hid (HT.out.now b)
  replace G := hid (below_step G.out b)
  have lz40 := (show Below _ _ _ from b).size
  clear b 
  refine hK.out _ _ (fun _ _ => ⟨Py.out.c0, Py.out.c1, Pu.out.c0, Pu.out.c1, Pz.out.c0, Pz.out.c1⟩) ?_
  clear hK
  refine wpAnyX_pure (i := 10) (oi := { dst := some 100, op := Op.pick (Operand.tmp 96) (Operand.tmp 99) (Operand.const (Value.bool false)), type := 4, pos := "outright.go:188", after := #[{ on := 6, ground := Ground.data }, { on := 9, ground := Ground.data }], guard := none }) (v := (.bool true)) rfl (by kernel_rfl) (fun _ _ _ h => h) (Or.inl ⟨by rfl, ?_⟩)  ?_
  · intro w hSw
    (try dsimp only at hSw)
    go_simp
  simp only [Act.put, List.setIfInBounds_toArray, List.set_cons_zero, List.set_cons_succ]
  refine wpAnyX_pure (i := 11) (oi := { dst := some 101, op := Op.move (Operand.tmp 100), type := 4, pos := "outright.go:188", after := #[{ on := 10, ground := Ground.data }, { on := 9, ground := Ground.chain }], guard := none }) (v := (.bool true)) rfl (by kernel_rfl) (fun _ _ _ h => h) (Or.inl ⟨by rfl, ?_⟩)  ?_
  · intro w hSw
    (try dsimp only at hSw)
    go_simp
  simp only [Act.put, List.setIfInBounds_toArray, List.set_cons_zero, List.set_cons_succ]
  refine wpAnyX_take (i := 12) (oi := { dst := some 102, op := Op.load 24 (Operand.tmp 12), type := 24, pos := "outright.go:188", after := #[{ on := 11, ground := Ground.guard }], guard := some (11, true) }) (v := (.agg #[(.bool nz), (.slice adz xz.length qz)])) rfl (by kernel_rfl) (fun _ _ _ h => h) (Or.inl ⟨by rfl, ?_⟩) ⟨Py.out.c0, Py.out.c1, Pu.out.c0, Pu.out.c1, Pz.out.c0, Pz.out.c1⟩ ?_
  · intro w hSw
    (try dsimp only at hSw)
    go_simp
  simp only [Act.put, List.setIfInBounds_toArray, List.set_cons_zero, List.set_cons_succ]
  refine wpAnyX_take (i := 13) (oi := { dst := some 103, op := Op.load 24 (Operand.tmp 9), type := 24, pos := "outright.go:188", after := #[{ on := 11, ground := Ground.guard }], guard := some (11, true) }) (v := (.agg #[(.bool nu), (.slice adu xu.length qu)])) rfl (by kernel_rfl) (fun _ _ _ h => h) (Or.inl ⟨by rfl, ?_⟩) ⟨Py.out.c0, Py.out.c1, Pu.out.c0, Pu.out.c1, Pz.out.c0, Pz.out.c1⟩ ?_
  · intro w hSw
    (try dsimp only at hSw)
    go_simp
  simp only [Act.put, List.setIfInBounds_toArray, List.set_cons_zero, List.set_cons_succ]
  refine wpAnyX_one (i := 14) (o := { dst := some 104, op := Op.call { callee := Callee.value (Operand.func 10), args := #[Operand.tmp 103], argTypes := #[24] }, type := 24, pos := "outright.go:188", after := #[{ on := 13, ground := Ground.data }, { on := 11, ground := Ground.chain }, { on := 11, ground := Ground.guard }], guard := some (11, true) }) (by kernel_rfl) rfl (fun K hK => ?_)
  go_simp
  go_at_call 10
  refine (neg_z Zu.out.zi).mono ?_
  rintro e w41 ⟨r0, rfl, m0, b⟩
  obtain ⟨no, xo, ado, qo, rfl, -, -, -, -, -⟩ := id m0
  replace Za := hid (Za.out.now b)
  replace Zu := hid (Zu.out.now b)
  replace Zy := hid (Zy.out.now b)
  replace Zz := hid (Zz.out.now b)
  replace Pa := hid (Pa.out.step b)
  replace Pu := hid (Pu.out.step b)
  replace Py := hid (Py.out.step b)
  replace Pz := hid (Pz.out.step b)
  replace HT := hid (HT.out.now b)
  replace G := hid (below_step G.out b)
  have lz42 := (show Below _ _ _ from b).size
  have Zo := hid m0
  clear b m0
  refine hK.out _ _ (fun _ _ => ⟨Py.out.c0, Py.out.c1, Pu.out.c0, Pu.out.c1, Pz.out.c0, Pz.out.c1⟩) ?_
  clear hK
  refine wpAnyX_one (i := 15) (o := { dst := some 105, op := Op.call { callee := Callee.value (Operand.func 8), args := #[Operand.tmp 102, Operand.tmp 104], argTypes := #[24, 24] }, type := 4, pos := "outright.go:188", after := #[{ on := 12, ground := Ground.data }, { on := 14, ground := Ground.data }, { on := 14, ground := Ground.chain }, { on := 11, ground := Ground.guard }], guard := some (11, true) }) (by kernel_rfl) rfl (fun K hK => ?_)
  go_simp
  go_at_call 8
  refine (alike_yes Zz.out Zo.out rfl).mono ?_
  rintro e w43 ⟨rfl, b⟩
  replace Za := hid (Za.out.now b)
  replace Zu := hid (Zu.out.now b)
  replace Zy := hid (Zy.out.now b)
  replace Zz := hid (Zz.out.now b)
  replace Zo := hid (Zo.out.now b)
  replace Pa := hid (Pa.out.step b)
  replace Pu := hid (Pu.out.step b)
  replace Py := hid (Py.out.step b)
  replace Pz := hid (Pz.out.step b)
  replace HT := hid (HT.out.now b)
  replace G := hid (below_step G.out b)
  have lz44 := (show Below _ _ _ from b).size
  clear b 
  refine hK.out _ _ (fun _ _ => ⟨Py.out.c0, Py.out.c1, Pu.out.c0, Pu.out.c1, Pz.out.c0, Pz.out.c1⟩) ?_
  clear hK
  refine wpAnyX_pure (i := 16) (oi := { dst := some 106, op := Op.pick (Operand.tmp 101) (Operand.tmp 105) (Operand.const (Value.bool false)), type := 4, pos := "outright.go:188", after := #[{ on := 11, ground := Ground.data }, { on := 15, ground := Ground.data }], guard := none }) (v := (.bool true)) rfl (by kernel_rfl) (fun _ _ _ h => h) (Or.inl ⟨by rfl, ?_⟩)  ?_
  · intro w hSw
    (try dsimp only at hSw)
    go_simp
  simp only [Act.put, List.setIfInBounds_toArray, List.set_cons_zero, List.set_cons_succ]
  refine wpAnyX_pure (i := 17) (oi := { dst := some 4, op := Op.assign (Operand.tmp 106), type := 4, pos := "outright.go:188", after := #[{ on := 16, ground := Ground.data }, { on := 15, ground := Ground.chain }, { on := 0, ground := Ground.phase }, { on := 1, ground := Ground.phase }, { on := 2, ground := Ground.phase }, { on := 3, ground := Ground.phase }, { on := 4, ground := Ground.phase }, { on := 5, ground := Ground.phase }, { on := 6, ground := Ground.phase }, { on := 7, ground := Ground.phase }, { on := 8, ground := Ground.phase }, { on := 9, ground := Ground.phase }, { on := 10, ground := Ground.phase }, { on := 11, ground := Ground.phase }, { on := 12, ground := Ground.phase }, { on := 13, ground := Ground.phase }, { on := 14, ground := Ground.phase }, { on := 15, ground := Ground.phase }, { on := 16, ground := Ground.phase }], guard := none }) (v := (.bool true)) rfl (by kernel_rfl) (fun _ _ _ h => h) (Or.inl ⟨by rfl, ?_⟩)  ?_
  · intro w hSw
    (try dsimp only at hSw)
    go_simp
  simp only [Act.put, List.setIfInBounds_toArray, List.set_cons_zero, List.set_cons_succ]
  refine wpAnyX_done (by kernel_rfl) ?_ _
  go_wp2
  go_ret
  exact ⟨rfl, G.out⟩

theorem zintTexts_any {w : World} {va : Value} {A : Int} {s : ByteArray} (ha : Zi w va A 1048576) (hl : s.size ≤ 1048576) (hT : Sg w) :
    Calls Tryd.prog 3 #[va, .string s] w fun e w' => e = .returned (.bool true) ∧ Below w.heap.size w w' := by
  obtain ⟨l, rfl⟩ : ∃ l : List UInt8, s = ⟨l.toArray⟩ := ⟨s.data.toList, by simp⟩
  rw [mk_size] at hl
  rcases Int.lt_trichotomy A 0 with h | h | h
  · exact zintTexts_neg ha hl hT h
  · exact zintTexts_zero ha hl hT h
  · exact zintTexts_pos ha hl hT h
end Go.Proofs.YtpnekeapbpkioaaDoor
