/-
  DnsM10: dense: Clear and AddRow, by products with elementary matrices.
-/
import Derived.Test.YtachdicdfhfoaaaQDnsR10ToGi10
namespace Go.Proofs.Ytachdicdfhfoaaa
open Go.RowKit
set_option linter.unusedVariables false

set_option maxHeartbeats 3200000 in
set_option maxRecDepth 100000 in
theorem dense_addrow {w : World} {va : Value} {r c k : Nat} {zs : List Int} (ha : Mc w va r c zs k)  {nv : Bool} {av : Option Addr} {lv cv i j kv : Nat} {z : Int} (hi : i < r) (hj : j < r) (hz : Zi w (.agg #[.bool nv, .slice av lv cv]) z kv) (hk1 : kv < 35184372088832) (hk2 : max 1 kv + 1 + k + r < 35184372088832) :
    Calls Try.prog 9 #[va, .agg #[.int .i64 6, .int .i64 (i : Int), .int .i64 (j : Int), .bool nv, .slice av lv cv]] w (DnsYes w r c (prodL r r c (unitV r (i * r + j) z) zs) (max 1 kv + 1 + k + r)) := by
  have M0 := hid ha
  obtain ⟨aa, ca, rfl, hr, hc⟩ := ha.mx.form
  generalize hla : r * c = la at *
  have HLA := hid hla
  clear hla ha
  obtain ⟨W0, hW⟩ : ∃ W0, ((w.alloc (matO r c (.slice aa la ca))).alloc (.cells #[.int .i64 6, .int .i64 (i : Int), .int .i64 (j : Int), .bool nv, .slice av lv cv] 37)).alloc mbox = W0 := ⟨_, rfl⟩
  obtain ⟨b0, sz0⟩ := alloc3 w (matO r c (.slice aa la ca)) (.cells #[.int .i64 6, .int .i64 (i : Int), .int .i64 (j : Int), .bool nv, .slice av lv cv] 37) mbox
  rw [hW] at b0 sz0
  obtain ⟨pd, pa, pr⟩ := boxesD (o1 := matc r c (.slice aa la ca)) (o2 := [.int .i64 6, .int .i64 (i : Int), .int .i64 (j : Int), .bool nv, .slice av lv cv]) hW
  have PD := hid pd
  have PA := hid pa
  have PR := hid pr
  have x0 := pd.at (i := 0) rfl
  have x1 := pd.at (i := 1) rfl
  have x2 := pd.at (i := 2) rfl
  have y0 := pa.at (i := 0) rfl
  have y1 := pa.at (i := 1) rfl
  have y2 := pa.at (i := 2) rfl
  have y3 := pa.at (i := 3) rfl
  have y4 := pa.at (i := 4) rfl
  have r0 := pr.at (i := 0) rfl
  have r1 := pr.at (i := 1) rfl
  have r2 := pr.at (i := 2) rfl
  have f0 := pr.fz 0
  have f1 := pr.fz 1
  have f2 := pr.fz 2
  have MD := hid (M0.out.now b0)
  have ZV := hid (hz.now b0)
  have HK1 := hid hk1
  clear hz
  have HK2 := hid hk2
  have G0 := hid b0
  have SZ := hid sz0
  rw [← hW] at x0 x1 x2 y0 y1 y2 y3 y4
  have h0 : ¬ (i : Int) < 0 := by omega
  have h1 : ¬ (r : Int) ≤ (i : Int) := by omega
  have h2 : ¬ (j : Int) < 0 := by omega
  have h3 : ¬ (r : Int) ≤ (j : Int) := by omega
  have EW := hid hW
  clear hW b0 sz0 pd pa pr PD PA r0 r1 r2 f0 f1 f2
  go_enter Try.func9, Try.ntmps9
  go_wp2_with fail
  rw [EW.out] at x0 x1 x2 y0 y1 y2 y3 y4 ⊢
  clear EW
  have KB : Hid (∀ w', Below W0.heap.size W0 w' → w'.cell? ⟨w.heap.size, 0, none⟩ = some (.int .i64 (r : Int)) ∧ w'.cell? ⟨w.heap.size, 1, none⟩ = some (.int .i64 (c : Int)) ∧ w'.cell? ⟨w.heap.size, 2, none⟩ = some (.slice aa la ca) ∧ w'.cell? ⟨w.heap.size + 1, 1, none⟩ = some (.int .i64 (i : Int)) ∧ w'.cell? ⟨w.heap.size + 1, 2, none⟩ = some (.int .i64 (j : Int)) ∧ w'.cell? ⟨w.heap.size + 1, 3, none⟩ = some (.bool nv) ∧ w'.cell? ⟨w.heap.size + 1, 4, none⟩ = some (.slice av lv cv)) := fun w' h => ⟨cnow h x0, cnow h x1, cnow h x2, cnow h y1, cnow h y2, cnow h y3, cnow h y4⟩
  refine wp_region_tail (fun w' => w'.cell? ⟨w.heap.size, 0, none⟩ = some (.int .i64 (r : Int)) ∧ w'.cell? ⟨w.heap.size, 1, none⟩ = some (.int .i64 (c : Int)) ∧ w'.cell? ⟨w.heap.size, 2, none⟩ = some (.slice aa la ca) ∧ w'.cell? ⟨w.heap.size + 1, 1, none⟩ = some (.int .i64 (i : Int)) ∧ w'.cell? ⟨w.heap.size + 1, 2, none⟩ = some (.int .i64 (j : Int)) ∧ w'.cell? ⟨w.heap.size + 1, 3, none⟩ = some (.bool nv) ∧ w'.cell? ⟨w.heap.size + 1, 4, none⟩ = some (.slice av lv cv)) 16 (by kernel_rfl) ?_
  obtain ⟨D1, hD⟩ : ∃ D1, W0.drew = D1 := ⟨_, rfl⟩
  have GB : Hid (Below W0.heap.size W0 D1) := by unfold Hid; rw [← hD]; exact (Below.refl _ _).drew
  rw [hD]
  clear hD
  have lz0 := GB.out.size
  refine wpAnyT_take (i := 0) (oi := { dst := some 107, op := Op.fieldAddr 24 (Operand.tmp 2) 0, type := 0, pos := "outright.go:52", after := #[], guard := none }) (v := (.pointer (some ⟨w.heap.size, 0, none⟩))) rfl (by kernel_rfl) (fun _ _ _ h => h) (Or.inl ⟨by rfl, ?_⟩) (KB.out _ GB.out) ?_
  · intro w hSw
    (try dsimp only at hSw)
    go_simp
  simp only [Act.put, List.setIfInBounds_toArray, List.set_cons_zero, List.set_cons_succ]
  refine wpAnyT_take (i := 1) (oi := { dst := some 108, op := Op.load 3 (Operand.tmp 107), type := 3, pos := "outright.go:52", after := #[{ on := 0, ground := Ground.data }], guard := none }) (v := (.int .i64 (r : Int))) rfl (by kernel_rfl) (fun _ _ _ h => h) (Or.inl ⟨by rfl, ?_⟩) (KB.out _ GB.out) ?_
  · intro w hSw
    (try dsimp only at hSw)
    go_simp
  simp only [Act.put, List.setIfInBounds_toArray, List.set_cons_zero, List.set_cons_succ]
  refine wpAnyT_take (i := 2) (oi := { dst := some 109, op := Op.fieldAddr 37 (Operand.tmp 3) 1, type := 0, pos := "outright.go:52", after := #[], guard := none }) (v := (.pointer (some ⟨w.heap.size + 1, 1, none⟩))) rfl (by kernel_rfl) (fun _ _ _ h => h) (Or.inl ⟨by rfl, ?_⟩) (KB.out _ GB.out) ?_
  · intro w hSw
    (try dsimp only at hSw)
    go_simp
  simp only [Act.put, List.setIfInBounds_toArray, List.set_cons_zero, List.set_cons_succ]
  refine wpAnyT_take (i := 3) (oi := { dst := some 110, op := Op.load 3 (Operand.tmp 109), type := 3, pos := "outright.go:52", after := #[{ on := 2, ground := Ground.data }], guard := none }) (v := (.int .i64 (i : Int))) rfl (by kernel_rfl) (fun _ _ _ h => h) (Or.inl ⟨by rfl, ?_⟩) (KB.out _ GB.out) ?_
  · intro w hSw
    (try dsimp only at hSw)
    go_simp
  simp only [Act.put, List.setIfInBounds_toArray, List.set_cons_zero, List.set_cons_succ]
  refine wpAnyT_take (i := 4) (oi := { dst := some 111, op := Op.fieldAddr 37 (Operand.tmp 3) 2, type := 0, pos := "outright.go:52", after := #[], guard := none }) (v := (.pointer (some ⟨w.heap.size + 1, 2, none⟩))) rfl (by kernel_rfl) (fun _ _ _ h => h) (Or.inl ⟨by rfl, ?_⟩) (KB.out _ GB.out) ?_
  · intro w hSw
    (try dsimp only at hSw)
    go_simp
  simp only [Act.put, List.setIfInBounds_toArray, List.set_cons_zero, List.set_cons_succ]
  refine wpAnyT_take (i := 5) (oi := { dst := some 112, op := Op.load 3 (Operand.tmp 111), type := 3, pos := "outright.go:52", after := #[{ on := 4, ground := Ground.data }], guard := none }) (v := (.int .i64 (j : Int))) rfl (by kernel_rfl) (fun _ _ _ h => h) (Or.inl ⟨by rfl, ?_⟩) (KB.out _ GB.out) ?_
  · intro w hSw
    (try dsimp only at hSw)
    go_simp
  simp only [Act.put, List.setIfInBounds_toArray, List.set_cons_zero, List.set_cons_succ]
  refine wpAnyT_take (i := 6) (oi := { dst := some 113, op := Op.fieldAddr 37 (Operand.tmp 3) 3, type := 0, pos := "outright.go:52", after := #[], guard := none }) (v := (.pointer (some ⟨w.heap.size + 1, 3, none⟩))) rfl (by kernel_rfl) (fun _ _ _ h => h) (Or.inl ⟨by rfl, ?_⟩) (KB.out _ GB.out) ?_
  · intro w hSw
    (try dsimp only at hSw)
    go_simp
  simp only [Act.put, List.setIfInBounds_toArray, List.set_cons_zero, List.set_cons_succ]
  refine wpAnyT_take (i := 7) (oi := { dst := some 114, op := Op.load 35 (Operand.tmp 113), type := 35, pos := "outright.go:52", after := #[{ on := 6, ground := Ground.data }], guard := none }) (v := (.agg #[.bool nv, .slice av lv cv])) rfl (by kernel_rfl) (fun _ _ _ h => h) (Or.inl ⟨by rfl, ?_⟩) (KB.out _ GB.out) ?_
  · intro w hSw
    (try dsimp only at hSw)
    go_simp
  simp only [Act.put, List.setIfInBounds_toArray, List.set_cons_zero, List.set_cons_succ]
  refine wpAnyT_take (i := 9) (oi := { dst := some 116, op := Op.load 24 (Operand.tmp 2), type := 24, pos := "outright.go:52", after := #[], guard := none }) (v := (.agg #[.int .i64 (r : Int), .int .i64 (c : Int), .slice aa la ca])) rfl (by kernel_rfl) (fun _ _ _ h => h) (Or.inl ⟨by rfl, ?_⟩) (KB.out _ GB.out) ?_
  · intro w hSw
    (try dsimp only at hSw)
    go_simp
  simp only [Act.put, List.setIfInBounds_toArray, List.set_cons_zero, List.set_cons_succ]
  refine wpAnyT_two (i := 8) (j := 14) (oi := { dst := some 115, op := Op.call { callee := Callee.value (Operand.func 36), args := #[Operand.tmp 108, Operand.tmp 110, Operand.tmp 112, Operand.tmp 114], argTypes := #[3, 3, 3, 35] }, type := 24, pos := "outright.go:52", after := #[{ on := 1, ground := Ground.data }, { on := 3, ground := Ground.data }, { on := 5, ground := Ground.data }, { on := 7, ground := Ground.data }], guard := none }) (oj := { dst := some 10, op := Op.alloc 24, type := 0, pos := "outright.go:52", after := #[], guard := none }) (by kernel_rfl) rfl rfl (fun K hK => ?_) (fun K hK => ?_)
  · skip
    go_simp
    go_at_call 36
    refine (unitV_any hr hi hj (ZV.out.now GB.out) HK1.out).mono ?_
    rintro e w2 ⟨u, rfl, hu, b⟩
    have lz2 := (show Below _ _ _ from b).size
    replace GB := hid (below_step GB.out b)
    have U1 := hid hu
    obtain ⟨au, cu, rfl, -, -⟩ := hu.mx.form
    generalize r * r = lu at *
    clear hu
    clear b
    refine hK.out _ _ (fun _ => KB.out _ GB.out) ?_
    clear hK
    refine wpAnyT_two (i := 10) (j := 14) (oi := { dst := some 117, op := Op.call { callee := Callee.value (Operand.func 18), args := #[Operand.tmp 115, Operand.tmp 116], argTypes := #[24, 24] }, type := 31, pos := "outright.go:52", after := #[{ on := 8, ground := Ground.data }, { on := 9, ground := Ground.data }, { on := 8, ground := Ground.chain }], guard := none }) (oj := { dst := some 10, op := Op.alloc 24, type := 0, pos := "outright.go:52", after := #[], guard := none }) (by kernel_rfl) rfl rfl (fun K hK => ?_) (fun K hK => ?_)
    · skip
      go_simp
      go_at_call 18
      refine (mul_yes U1.out.mx (MD.out.now GB.out).mx HK2.out).mono ?_
      rintro e w3 ⟨m, rfl, hm, b⟩
      have lz3 := (show Below _ _ _ from b).size
      replace GB := hid (below_step GB.out b)
      replace U1 := hid (U1.out.now b)
      have M1 := hid hm
      obtain ⟨am, cm, rfl, -, -⟩ := hm.mx.form
      rw [HLA.out] at M1 ⊢
      clear hm
      clear b
      refine hK.out _ _ (fun _ => KB.out _ GB.out) ?_
      clear hK
      refine wpAnyT_take (i := 11) (oi := { dst := some 106, op := Op.move (Operand.tmp 117), type := 31, pos := "outright.go:52", after := #[{ on := 10, ground := Ground.data }], guard := none }) (v := (.tuple #[(.agg #[.int .i64 (r : Int), .int .i64 (c : Int), .slice am la cm]), (.int .i64 0)])) rfl (by kernel_rfl) (fun _ _ _ h => h) (Or.inl ⟨by rfl, ?_⟩) (KB.out _ GB.out) ?_
      · intro w hSw
        (try dsimp only at hSw)
        go_simp
      simp only [Act.put, List.setIfInBounds_toArray, List.set_cons_zero, List.set_cons_succ]
      refine wpAnyT_take (i := 12) (oi := { dst := some 118, op := Op.extract (Operand.tmp 106) 0, type := 24, pos := "outright.go:52", after := #[{ on := 11, ground := Ground.data }], guard := none }) (v := (.agg #[.int .i64 (r : Int), .int .i64 (c : Int), .slice am la cm])) rfl (by kernel_rfl) (fun _ _ _ h => h) (Or.inl ⟨by rfl, ?_⟩) (KB.out _ GB.out) ?_
      · intro w hSw
        (try dsimp only at hSw)
        go_simp
      simp only [Act.put, List.setIfInBounds_toArray, List.set_cons_zero, List.set_cons_succ]
      refine wpAnyT_take (i := 13) (oi := { dst := some 119, op := Op.extract (Operand.tmp 106) 1, type := 28, pos := "outright.go:52", after := #[{ on := 11, ground := Ground.data }, { on := 15, ground := Ground.gcOnly Departure.lateStores }], guard := none }) (v := (.int .i64 0)) rfl (by kernel_rfl) (fun _ _ _ h => h) (Or.inl ⟨by rfl, ?_⟩) (KB.out _ GB.out) ?_
      · intro w hSw
        (try dsimp only at hSw)
        go_simp
      simp only [Act.put, List.setIfInBounds_toArray, List.set_cons_zero, List.set_cons_succ]
      refine wpAnyT_one (i := 14) (o := { dst := some 10, op := Op.alloc 24, type := 0, pos := "outright.go:52", after := #[], guard := none }) (by kernel_rfl) rfl (fun K hK => ?_)
      go_simp
      obtain ⟨V4, hW⟩ : ∃ V4, w3.alloc mbox = V4 := ⟨_, rfl⟩
      obtain ⟨b, sz4⟩ := alo1 w3 mbox
      rw [hW] at b sz4
      replace GB := hid (below_step GB.out b)
      replace U1 := hid (U1.out.now b)
      replace M1 := hid (M1.out.now b)
      have PB := hid (mbox_new hW)
      have QB : Hid (W0.heap.size ≤ w3.heap.size) := by unfold Hid; omega
      rw [hW]
      clear hW b
      refine hK.out _ _ (fun _ => KB.out _ GB.out) ?_
      clear hK
      try simp only [Act.put]
      refine wpAnyT_one (i := 15) (o := { dst := none, op := Op.store 24 (Operand.tmp 10) (Operand.tmp 118), type := 0, pos := "outright.go:52", after := #[{ on := 14, ground := Ground.data }, { on := 12, ground := Ground.data }, { on := 10, ground := Ground.chain }, { on := 0, ground := Ground.phase }, { on := 1, ground := Ground.phase }, { on := 2, ground := Ground.phase }, { on := 3, ground := Ground.phase }, { on := 4, ground := Ground.phase }, { on := 5, ground := Ground.phase }, { on := 6, ground := Ground.phase }, { on := 7, ground := Ground.phase }, { on := 8, ground := Ground.phase }, { on := 9, ground := Ground.phase }, { on := 10, ground := Ground.phase }, { on := 11, ground := Ground.phase }, { on := 12, ground := Ground.phase }, { on := 13, ground := Ground.textOnly Departure.lateStores }, { on := 14, ground := Ground.phase }], guard := none }) (by kernel_rfl) rfl (fun K hK => ?_)
      have e0 := PB.out.at (i := 0) rfl
      have e1 := PB.out.at (i := 1) rfl
      have e2 := PB.out.at (i := 2) rfl
      have e3 := PB.out.fz 0
      have e4 := PB.out.fz 1
      have e5 := PB.out.fz 2
      go_simp
      clear e0 e1 e2 e3 e4 e5
      obtain ⟨V5, hW⟩ : ∃ V5, (((V4.setCell ⟨w3.heap.size, 0, none⟩ (.int .i64 (r : Int))).setCell ⟨w3.heap.size, 1, none⟩ (.int .i64 (c : Int))).setCell ⟨w3.heap.size, 2, none⟩ (.slice am la cm)) = V5 := ⟨_, rfl⟩
      have HN1 : Hid (Mc V5 (matv r c (.slice am la cm)) r c (prodL r r c (unitV r (i * r + j) z) zs) (max 1 kv + 1 + k + r) ∧ Cel V5 (w3.heap.size) 24 (matc r c (.slice am la cm)) ∧ Cel V5 (w.heap.size + 1 + 1) 24 [.int .i64 0, .int .i64 0, .slice none 0 0] ∧ Below w.heap.size w V5) := by
        unfold Hid
        rw [← hW]
        have q := QB.out
        have s := SZ.out
        have pr := PR.out.step GB.out
        exact ⟨M1.out.wk PB.out _ _ _, PB.out.put3 _ _ _, ((pr.ne (by omega)).ne (by omega)).ne (by omega), below_put3 (below_step G0.out GB.out) (by omega) _ _ _⟩
      replace GB : Hid (Below W0.heap.size W0 V5) := by unfold Hid; rw [← hW]; exact below_put3 GB.out QB.out _ _ _
      rw [hW]
      clear hW
      refine hK.out _ _ (fun _ => KB.out _ GB.out) ?_
      clear hK
      try simp only [Act.put]
      refine wpAnyT_one (i := 16) (o := { dst := some 11, op := Op.assign (Operand.tmp 119), type := 28, pos := "outright.go:52", after := #[{ on := 13, ground := Ground.data }, { on := 15, ground := Ground.chain }, { on := 0, ground := Ground.phase }, { on := 1, ground := Ground.phase }, { on := 2, ground := Ground.phase }, { on := 3, ground := Ground.phase }, { on := 4, ground := Ground.phase }, { on := 5, ground := Ground.phase }, { on := 6, ground := Ground.phase }, { on := 7, ground := Ground.phase }, { on := 8, ground := Ground.phase }, { on := 9, ground := Ground.phase }, { on := 10, ground := Ground.phase }, { on := 11, ground := Ground.phase }, { on := 12, ground := Ground.phase }, { on := 13, ground := Ground.phase }, { on := 14, ground := Ground.phase }, { on := 15, ground := Ground.phase }], guard := none }) (by kernel_rfl) rfl (fun K hK => ?_)
      go_simp
      refine hK.out _ _ (fun h => absurd h (by decide)) ?_
      clear hK
      try simp only [Act.put]
      refine wpAnyT_done (by kernel_rfl) ?_ _
      obtain ⟨hmc, pu, pr, hb⟩ := HN1.out
      have FIN : Hid (DnsYes w r c (prodL r r c (unitV r (i * r + j) z) zs) (max 1 kv + 1 + k + r) (.returned (.tuple #[.agg #[.int .i64 (r : Int), .int .i64 (c : Int), .slice am la cm], .bool true])) (put3 V5 (w.heap.size + 1 + 1) (.int .i64 (r : Int)) (.int .i64 (c : Int)) (.slice am la cm))) :=
        ⟨_, rfl, hmc.wk pr _ _ _, below_put3 hb (by omega) _ _ _⟩
      have PF := hid (pr.put3 (.int .i64 (r : Int)) (.int .i64 (c : Int)) (.slice am la cm))
      have z0 := pu.at (i := 0) rfl
      have z1 := pu.at (i := 1) rfl
      have z2 := pu.at (i := 2) rfl
      have r0 := pr.at (i := 0) rfl
      have r1 := pr.at (i := 1) rfl
      have r2 := pr.at (i := 2) rfl
      have f0 := pr.fz 0
      have f1 := pr.fz 1
      have f2 := pr.fz 2
      clear PR G0 M0 U1 M1 PB QB GB KB HN1 hmc pu pr hb
      go_wp2
      exact bodyPost_ret (mback1 Try.results9 PF.out _ (by rfl) (by rfl)) rfl FIN.out
    · skip
      go_simp
      obtain ⟨V6, hW⟩ : ∃ V6, w2.alloc mbox = V6 := ⟨_, rfl⟩
      obtain ⟨b, sz6⟩ := alo1 w2 mbox
      rw [hW] at b sz6
      replace GB := hid (below_step GB.out b)
      replace U1 := hid (U1.out.now b)
      have PB := hid (mbox_new hW)
      have QB : Hid (W0.heap.size ≤ w2.heap.size) := by unfold Hid; omega
      rw [hW]
      clear hW b
      refine hK.out _ _ (fun _ => KB.out _ GB.out) ?_
      clear hK
      try simp only [Act.put]
      refine wpAnyT_one (i := 10) (o := { dst := some 117, op := Op.call { callee := Callee.value (Operand.func 18), args := #[Operand.tmp 115, Operand.tmp 116], argTypes := #[24, 24] }, type := 31, pos := "outright.go:52", after := #[{ on := 8, ground := Ground.data }, { on := 9, ground := Ground.data }, { on := 8, ground := Ground.chain }], guard := none }) (by kernel_rfl) rfl (fun K hK => ?_)
      go_simp
      go_at_call 18
      refine (mul_yes U1.out.mx (MD.out.now GB.out).mx HK2.out).mono ?_
      rintro e w7 ⟨m, rfl, hm, b⟩
      have lz7 := (show Below _ _ _ from b).size
      replace GB := hid (below_step GB.out b)
      replace U1 := hid (U1.out.now b)
      replace PB := hid (PB.out.step b)
      have M1 := hid hm
      obtain ⟨am, cm, rfl, -, -⟩ := hm.mx.form
      rw [HLA.out] at M1 ⊢
      clear hm
      clear b
      refine hK.out _ _ (fun _ => KB.out _ GB.out) ?_
      clear hK
      refine wpAnyT_take (i := 11) (oi := { dst := some 106, op := Op.move (Operand.tmp 117), type := 31, pos := "outright.go:52", after := #[{ on := 10, ground := Ground.data }], guard := none }) (v := (.tuple #[(.agg #[.int .i64 (r : Int), .int .i64 (c : Int), .slice am la cm]), (.int .i64 0)])) rfl (by kernel_rfl) (fun _ _ _ h => h) (Or.inl ⟨by rfl, ?_⟩) (KB.out _ GB.out) ?_
      · intro w hSw
        (try dsimp only at hSw)
        go_simp
      simp only [Act.put, List.setIfInBounds_toArray, List.set_cons_zero, List.set_cons_succ]
      refine wpAnyT_take (i := 12) (oi := { dst := some 118, op := Op.extract (Operand.tmp 106) 0, type := 24, pos := "outright.go:52", after := #[{ on := 11, ground := Ground.data }], guard := none }) (v := (.agg #[.int .i64 (r : Int), .int .i64 (c : Int), .slice am la cm])) rfl (by kernel_rfl) (fun _ _ _ h => h) (Or.inl ⟨by rfl, ?_⟩) (KB.out _ GB.out) ?_
      · intro w hSw
        (try dsimp only at hSw)
        go_simp
      simp only [Act.put, List.setIfInBounds_toArray, List.set_cons_zero, List.set_cons_succ]
      refine wpAnyT_take (i := 13) (oi := { dst := some 119, op := Op.extract (Operand.tmp 106) 1, type := 28, pos := "outright.go:52", after := #[{ on := 11, ground := Ground.data }, { on := 15, ground := Ground.gcOnly Departure.lateStores }], guard := none }) (v := (.int .i64 0)) rfl (by kernel_rfl) (fun _ _ _ h => h) (Or.inl ⟨by rfl, ?_⟩) (KB.out _ GB.out) ?_
      · intro w hSw
        (try dsimp only at hSw)
        go_simp
      simp only [Act.put, List.setIfInBounds_toArray, List.set_cons_zero, List.set_cons_succ]
      refine wpAnyT_one (i := 15) (o := { dst := none, op := Op.store 24 (Operand.tmp 10) (Operand.tmp 118), type := 0, pos := "outright.go:52", after := #[{ on := 14, ground := Ground.data }, { on := 12, ground := Ground.data }, { on := 10, ground := Ground.chain }, { on := 0, ground := Ground.phase }, { on := 1, ground := Ground.phase }, { on := 2, ground := Ground.phase }, { on := 3, ground := Ground.phase }, { on := 4, ground := Ground.phase }, { on := 5, ground := Ground.phase }, { on := 6, ground := Ground.phase }, { on := 7, ground := Ground.phase }, { on := 8, ground := Ground.phase }, { on := 9, ground := Ground.phase }, { on := 10, ground := Ground.phase }, { on := 11, ground := Ground.phase }, { on := 12, ground := Ground.phase }, { on := 13, ground := Ground.textOnly Departure.lateStores }, { on := 14, ground := Ground.phase }], guard := none }) (by kernel_rfl) rfl (fun K hK => ?_)
      have e0 := PB.out.at (i := 0) rfl
      have e1 := PB.out.at (i := 1) rfl
      have e2 := PB.out.at (i := 2) rfl
      have e3 := PB.out.fz 0
      have e4 := PB.out.fz 1
      have e5 := PB.out.fz 2
      go_simp
      clear e0 e1 e2 e3 e4 e5
      obtain ⟨V8, hW⟩ : ∃ V8, (((w7.setCell ⟨w2.heap.size, 0, none⟩ (.int .i64 (r : Int))).setCell ⟨w2.heap.size, 1, none⟩ (.int .i64 (c : Int))).setCell ⟨w2.heap.size, 2, none⟩ (.slice am la cm)) = V8 := ⟨_, rfl⟩
      have HN1 : Hid (Mc V8 (matv r c (.slice am la cm)) r c (prodL r r c (unitV r (i * r + j) z) zs) (max 1 kv + 1 + k + r) ∧ Cel V8 (w2.heap.size) 24 (matc r c (.slice am la cm)) ∧ Cel V8 (w.heap.size + 1 + 1) 24 [.int .i64 0, .int .i64 0, .slice none 0 0] ∧ Below w.heap.size w V8) := by
        unfold Hid
        rw [← hW]
        have q := QB.out
        have s := SZ.out
        have pr := PR.out.step GB.out
        exact ⟨M1.out.wk PB.out _ _ _, PB.out.put3 _ _ _, ((pr.ne (by omega)).ne (by omega)).ne (by omega), below_put3 (below_step G0.out GB.out) (by omega) _ _ _⟩
      replace GB : Hid (Below W0.heap.size W0 V8) := by unfold Hid; rw [← hW]; exact below_put3 GB.out QB.out _ _ _
      rw [hW]
      clear hW
      refine hK.out _ _ (fun _ => KB.out _ GB.out) ?_
      clear hK
      try simp only [Act.put]
      refine wpAnyT_one (i := 16) (o := { dst := some 11, op := Op.assign (Operand.tmp 119), type := 28, pos := "outright.go:52", after := #[{ on := 13, ground := Ground.data }, { on := 15, ground := Ground.chain }, { on := 0, ground := Ground.phase }, { on := 1, ground := Ground.phase }, { on := 2, ground := Ground.phase }, { on := 3, ground := Ground.phase }, { on := 4, ground := Ground.phase }, { on := 5, ground := Ground.phase }, { on := 6, ground := Ground.phase }, { on := 7, ground := Ground.phase }, { on := 8, ground := Ground.phase }, { on := 9, ground := Ground.phase }, { on := 10, ground := Ground.phase }, { on := 11, ground := Ground.phase }, { on := 12, ground := Ground.phase }, { on := 13, ground := Ground.phase }, { on := 14, ground := Ground.phase }, { on := 15, ground := Ground.phase }], guard := none }) (by kernel_rfl) rfl (fun K hK => ?_)
      go_simp
      refine hK.out _ _ (fun h => absurd h (by decide)) ?_
      clear hK
      try simp only [Act.put]
      refine wpAnyT_done (by kernel_rfl) ?_ _
      obtain ⟨hmc, pu, pr, hb⟩ := HN1.out
      have FIN : Hid (DnsYes w r c (prodL r r c (unitV r (i * r + j) z) zs) (max 1 kv + 1 + k + r) (.returned (.tuple #[.agg #[.int .i64 (r : Int), .int .i64 (c : Int), .slice am la cm], .bool true])) (put3 V8 (w.heap.size + 1 + 1) (.int .i64 (r : Int)) (.int .i64 (c : Int)) (.slice am la cm))) :=
        ⟨_, rfl, hmc.wk pr _ _ _, below_put3 hb (by omega) _ _ _⟩
      have PF := hid (pr.put3 (.int .i64 (r : Int)) (.int .i64 (c : Int)) (.slice am la cm))
      have z0 := pu.at (i := 0) rfl
      have z1 := pu.at (i := 1) rfl
      have z2 := pu.at (i := 2) rfl
      have r0 := pr.at (i := 0) rfl
      have r1 := pr.at (i := 1) rfl
      have r2 := pr.at (i := 2) rfl
      have f0 := pr.fz 0
      have f1 := pr.fz 1
      have f2 := pr.fz 2
      clear PR G0 M0 U1 M1 PB QB GB KB HN1 hmc pu pr hb
      go_wp2
      exact bodyPost_ret (mback1 Try.results9 PF.out _ (by rfl) (by rfl)) rfl FIN.out
  · skip
    go_simp
    obtain ⟨V9, hW⟩ : ∃ V9, D1.alloc mbox = V9 := ⟨_, rfl⟩
    obtain ⟨b, sz9⟩ := alo1 D1 mbox
    rw [hW] at b sz9
    replace GB := hid (below_step GB.out b)
    have PB := hid (mbox_new hW)
    have QB : Hid (W0.heap.size ≤ D1.heap.size) := by unfold Hid; omega
    rw [hW]
    clear hW b
    refine hK.out _ _ (fun _ => KB.out _ GB.out) ?_
    clear hK
    try simp only [Act.put]
    refine wpAnyT_one (i := 8) (o := { dst := some 115, op := Op.call { callee := Callee.value (Operand.func 36), args := #[Operand.tmp 108, Operand.tmp 110, Operand.tmp 112, Operand.tmp 114], argTypes := #[3, 3, 3, 35] }, type := 24, pos := "outright.go:52", after := #[{ on := 1, ground := Ground.data }, { on := 3, ground := Ground.data }, { on := 5, ground := Ground.data }, { on := 7, ground := Ground.data }], guard := none }) (by kernel_rfl) rfl (fun K hK => ?_)
    go_simp
    go_at_call 36
    refine (unitV_any hr hi hj (ZV.out.now GB.out) HK1.out).mono ?_
    rintro e w10 ⟨u, rfl, hu, b⟩
    have lz10 := (show Below _ _ _ from b).size
    replace GB := hid (below_step GB.out b)
    replace PB := hid (PB.out.step b)
    have U1 := hid hu
    obtain ⟨au, cu, rfl, -, -⟩ := hu.mx.form
    generalize r * r = lu at *
    clear hu
    clear b
    refine hK.out _ _ (fun _ => KB.out _ GB.out) ?_
    clear hK
    refine wpAnyT_one (i := 10) (o := { dst := some 117, op := Op.call { callee := Callee.value (Operand.func 18), args := #[Operand.tmp 115, Operand.tmp 116], argTypes := #[24, 24] }, type := 31, pos := "outright.go:52", after := #[{ on := 8, ground := Ground.data }, { on := 9, ground := Ground.data }, { on := 8, ground := Ground.chain }], guard := none }) (by kernel_rfl) rfl (fun K hK => ?_)
    go_simp
    go_at_call 18
    refine (mul_yes U1.out.mx (MD.out.now GB.out).mx HK2.out).mono ?_
    rintro e w11 ⟨m, rfl, hm, b⟩
    have lz11 := (show Below _ _ _ from b).size
    replace GB := hid (below_step GB.out b)
    replace PB := hid (PB.out.step b)
    replace U1 := hid (U1.out.now b)
    have M1 := hid hm
    obtain ⟨am, cm, rfl, -, -⟩ := hm.mx.form
    rw [HLA.out] at M1 ⊢
    clear hm
    clear b
    refine hK.out _ _ (fun _ => KB.out _ GB.out) ?_
    clear hK
    refine wpAnyT_take (i := 11) (oi := { dst := some 106, op := Op.move (Operand.tmp 117), type := 31, pos := "outright.go:52", after := #[{ on := 10, ground := Ground.data }], guard := none }) (v := (.tuple #[(.agg #[.int .i64 (r : Int), .int .i64 (c : Int), .slice am la cm]), (.int .i64 0)])) rfl (by kernel_rfl) (fun _ _ _ h => h) (Or.inl ⟨by rfl, ?_⟩) (KB.out _ GB.out) ?_
    · intro w hSw
      (try dsimp only at hSw)
      go_simp
    simp only [Act.put, List.setIfInBounds_toArray, List.set_cons_zero, List.set_cons_succ]
    refine wpAnyT_take (i := 12) (oi := { dst := some 118, op := Op.extract (Operand.tmp 106) 0, type := 24, pos := "outright.go:52", after := #[{ on := 11, ground := Ground.data }], guard := none }) (v := (.agg #[.int .i64 (r : Int), .int .i64 (c : Int), .slice am la cm])) rfl (by kernel_rfl) (fun _ _ _ h => h) (Or.inl ⟨by rfl, ?_⟩) (KB.out _ GB.out) ?_
    · intro w hSw
      (try dsimp only at hSw)
      go_simp
    simp only [Act.put, List.setIfInBounds_toArray, List.set_cons_zero, List.set_cons_succ]
    refine wpAnyT_take (i := 13) (oi := { dst := some 119, op := Op.extract (Operand.tmp 106) 1, type := 28, pos := "outright.go:52", after := #[{ on := 11, ground := Ground.data }, { on := 15, ground := Ground.gcOnly Departure.lateStores }], guard := none }) (v := (.int .i64 0)) rfl (by kernel_rfl) (fun _ _ _ h => h) (Or.inl ⟨by rfl, ?_⟩) (KB.out _ GB.out) ?_
    · intro w hSw
      (try dsimp only at hSw)
      go_simp
    simp only [Act.put, List.setIfInBounds_toArray, List.set_cons_zero, List.set_cons_succ]
    refine wpAnyT_one (i := 15) (o := { dst := none, op := Op.store 24 (Operand.tmp 10) (Operand.tmp 118), type := 0, pos := "outright.go:52", after := #[{ on := 14, ground := Ground.data }, { on := 12, ground := Ground.data }, { on := 10, ground := Ground.chain }, { on := 0, ground := Ground.phase }, { on := 1, ground := Ground.phase }, { on := 2, ground := Ground.phase }, { on := 3, ground := Ground.phase }, { on := 4, ground := Ground.phase }, { on := 5, ground := Ground.phase }, { on := 6, ground := Ground.phase }, { on := 7, ground := Ground.phase }, { on := 8, ground := Ground.phase }, { on := 9, ground := Ground.phase }, { on := 10, ground := Ground.phase }, { on := 11, ground := Ground.phase }, { on := 12, ground := Ground.phase }, { on := 13, ground := Ground.textOnly Departure.lateStores }, { on := 14, ground := Ground.phase }], guard := none }) (by kernel_rfl) rfl (fun K hK => ?_)
    have e0 := PB.out.at (i := 0) rfl
    have e1 := PB.out.at (i := 1) rfl
    have e2 := PB.out.at (i := 2) rfl
    have e3 := PB.out.fz 0
    have e4 := PB.out.fz 1
    have e5 := PB.out.fz 2
    go_simp
    clear e0 e1 e2 e3 e4 e5
    obtain ⟨V12, hW⟩ : ∃ V12, (((w11.setCell ⟨D1.heap.size, 0, none⟩ (.int .i64 (r : Int))).setCell ⟨D1.heap.size, 1, none⟩ (.int .i64 (c : Int))).setCell ⟨D1.heap.size, 2, none⟩ (.slice am la cm)) = V12 := ⟨_, rfl⟩
    have HN1 : Hid (Mc V12 (matv r c (.slice am la cm)) r c (prodL r r c (unitV r (i * r + j) z) zs) (max 1 kv + 1 + k + r) ∧ Cel V12 (D1.heap.size) 24 (matc r c (.slice am la cm)) ∧ Cel V12 (w.heap.size + 1 + 1) 24 [.int .i64 0, .int .i64 0, .slice none 0 0] ∧ Below w.heap.size w V12) := by
      unfold Hid
      rw [← hW]
      have q := QB.out
      have s := SZ.out
      have pr := PR.out.step GB.out
      exact ⟨M1.out.wk PB.out _ _ _, PB.out.put3 _ _ _, ((pr.ne (by omega)).ne (by omega)).ne (by omega), below_put3 (below_step G0.out GB.out) (by omega) _ _ _⟩
    replace GB : Hid (Below W0.heap.size W0 V12) := by unfold Hid; rw [← hW]; exact below_put3 GB.out QB.out _ _ _
    rw [hW]
    clear hW
    refine hK.out _ _ (fun _ => KB.out _ GB.out) ?_
    clear hK
    try simp only [Act.put]
    refine wpAnyT_one (i := 16) (o := { dst := some 11, op := Op.assign (Operand.tmp 119), type := 28, pos := "outright.go:52", after := #[{ on := 13, ground := Ground.data }, { on := 15, ground := Ground.chain }, { on := 0, ground := Ground.phase }, { on := 1, ground := Ground.phase }, { on := 2, ground := Ground.phase }, { on := 3, ground := Ground.phase }, { on := 4, ground := Ground.phase }, { on := 5, ground := Ground.phase }, { on := 6, ground := Ground.phase }, { on := 7, ground := Ground.phase }, { on := 8, ground := Ground.phase }, { on := 9, ground := Ground.phase }, { on := 10, ground := Ground.phase }, { on := 11, ground := Ground.phase }, { on := 12, ground := Ground.phase }, { on := 13, ground := Ground.phase }, { on := 14, ground := Ground.phase }, { on := 15, ground := Ground.phase }], guard := none }) (by kernel_rfl) rfl (fun K hK => ?_)
    go_simp
    refine hK.out _ _ (fun h => absurd h (by decide)) ?_
    clear hK
    try simp only [Act.put]
    refine wpAnyT_done (by kernel_rfl) ?_ _
    obtain ⟨hmc, pu, pr, hb⟩ := HN1.out
    have FIN : Hid (DnsYes w r c (prodL r r c (unitV r (i * r + j) z) zs) (max 1 kv + 1 + k + r) (.returned (.tuple #[.agg #[.int .i64 (r : Int), .int .i64 (c : Int), .slice am la cm], .bool true])) (put3 V12 (w.heap.size + 1 + 1) (.int .i64 (r : Int)) (.int .i64 (c : Int)) (.slice am la cm))) :=
      ⟨_, rfl, hmc.wk pr _ _ _, below_put3 hb (by omega) _ _ _⟩
    have PF := hid (pr.put3 (.int .i64 (r : Int)) (.int .i64 (c : Int)) (.slice am la cm))
    have z0 := pu.at (i := 0) rfl
    have z1 := pu.at (i := 1) rfl
    have z2 := pu.at (i := 2) rfl
    have r0 := pr.at (i := 0) rfl
    have r1 := pr.at (i := 1) rfl
    have r2 := pr.at (i := 2) rfl
    have f0 := pr.fz 0
    have f1 := pr.fz 1
    have f2 := pr.fz 2
    clear PR G0 M0 U1 M1 PB QB GB KB HN1 hmc pu pr hb
    go_wp2
    exact bodyPost_ret (mback1 Try.results9 PF.out _ (by rfl) (by rfl)) rfl FIN.out
set_option maxHeartbeats 3200000 in
set_option maxRecDepth 100000 in
theorem dense_clear {w : World} {va : Value} {r c k : Nat} {zs : List Int} (ha : Mc w va r c zs k) {J : Int} {nv : Bool} {av : Option Addr} {lv cv i : Nat} (hi : i < r) (hk2 : max 1 1 + 1 + k + r < 35184372088832) :
    Calls Try.prog 9 #[va, .agg #[.int .i64 8, .int .i64 (i : Int), .int .i64 J, .bool nv, .slice av lv cv]] w (DnsYes w r c (prodL r r c (unitV r (i * r + i) (-1)) zs) (max 1 1 + 1 + k + r)) := by
  have M0 := hid ha
  obtain ⟨aa, ca, rfl, hr, hc⟩ := ha.mx.form
  generalize hla : r * c = la at *
  have HLA := hid hla
  clear hla ha
  obtain ⟨W0, hW⟩ : ∃ W0, ((w.alloc (matO r c (.slice aa la ca))).alloc (.cells #[.int .i64 8, .int .i64 (i : Int), .int .i64 J, .bool nv, .slice av lv cv] 37)).alloc mbox = W0 := ⟨_, rfl⟩
  obtain ⟨b0, sz0⟩ := alloc3 w (matO r c (.slice aa la ca)) (.cells #[.int .i64 8, .int .i64 (i : Int), .int .i64 J, .bool nv, .slice av lv cv] 37) mbox
  rw [hW] at b0 sz0
  obtain ⟨pd, pa, pr⟩ := boxesD (o1 := matc r c (.slice aa la ca)) (o2 := [.int .i64 8, .int .i64 (i : Int), .int .i64 J, .bool nv, .slice av lv cv]) hW
  have PD := hid pd
  have PA := hid pa
  have PR := hid pr
  have x0 := pd.at (i := 0) rfl
  have x1 := pd.at (i := 1) rfl
  have x2 := pd.at (i := 2) rfl
  have y0 := pa.at (i := 0) rfl
  have y1 := pa.at (i := 1) rfl
  have y2 := pa.at (i := 2) rfl
  have y3 := pa.at (i := 3) rfl
  have y4 := pa.at (i := 4) rfl
  have r0 := pr.at (i := 0) rfl
  have r1 := pr.at (i := 1) rfl
  have r2 := pr.at (i := 2) rfl
  have f0 := pr.fz 0
  have f1 := pr.fz 1
  have f2 := pr.fz 2
  have MD := hid (M0.out.now b0)

  have HK2 := hid hk2
  have G0 := hid b0
  have SZ := hid sz0
  rw [← hW] at x0 x1 x2 y0 y1 y2 y3 y4
  have h0 : ¬ (i : Int) < 0 := by omega
  have h1 : ¬ (r : Int) ≤ (i : Int) := by omega
  have EW := hid hW
  clear hW b0 sz0 pd pa pr PD PA r0 r1 r2 f0 f1 f2
  go_enter Try.func9, Try.ntmps9
  go_wp2_with fail
  rw [EW.out] at x0 x1 x2 y0 y1 y2 y3 y4 ⊢
  clear EW
  have KB : Hid (∀ w', Below W0.heap.size W0 w' → w'.cell? ⟨w.heap.size, 0, none⟩ = some (.int .i64 (r : Int)) ∧ w'.cell? ⟨w.heap.size, 1, none⟩ = some (.int .i64 (c : Int)) ∧ w'.cell? ⟨w.heap.size, 2, none⟩ = some (.slice aa la ca) ∧ w'.cell? ⟨w.heap.size + 1, 1, none⟩ = some (.int .i64 (i : Int)) ∧ w'.cell? ⟨w.heap.size + 1, 2, none⟩ = some (.int .i64 J) ∧ w'.cell? ⟨w.heap.size + 1, 3, none⟩ = some (.bool nv) ∧ w'.cell? ⟨w.heap.size + 1, 4, none⟩ = some (.slice av lv cv)) := fun w' h => ⟨cnow h x0, cnow h x1, cnow h x2, cnow h y1, cnow h y2, cnow h y3, cnow h y4⟩
  refine wp_region_tail (fun w' => w'.cell? ⟨w.heap.size, 0, none⟩ = some (.int .i64 (r : Int)) ∧ w'.cell? ⟨w.heap.size, 1, none⟩ = some (.int .i64 (c : Int)) ∧ w'.cell? ⟨w.heap.size, 2, none⟩ = some (.slice aa la ca) ∧ w'.cell? ⟨w.heap.size + 1, 1, none⟩ = some (.int .i64 (i : Int)) ∧ w'.cell? ⟨w.heap.size + 1, 2, none⟩ = some (.int .i64 J) ∧ w'.cell? ⟨w.heap.size + 1, 3, none⟩ = some (.bool nv) ∧ w'.cell? ⟨w.heap.size + 1, 4, none⟩ = some (.slice av lv cv)) 15 (by kernel_rfl) ?_
  obtain ⟨D1, hD⟩ : ∃ D1, W0.drew = D1 := ⟨_, rfl⟩
  have GB : Hid (Below W0.heap.size W0 D1) := by unfold Hid; rw [← hD]; exact (Below.refl _ _).drew
  rw [hD]
  clear hD
  have lz0 := GB.out.size
  refine wpAnyT_take (i := 0) (oi := { dst := some 79, op := Op.fieldAddr 24 (Operand.tmp 2) 0, type := 0, pos := "outright.go:45", after := #[], guard := none }) (v := (.pointer (some ⟨w.heap.size, 0, none⟩))) rfl (by kernel_rfl) (fun _ _ _ h => h) (Or.inl ⟨by rfl, ?_⟩) (KB.out _ GB.out) ?_
  · intro w hSw
    (try dsimp only at hSw)
    go_simp
  simp only [Act.put, List.setIfInBounds_toArray, List.set_cons_zero, List.set_cons_succ]
  refine wpAnyT_take (i := 1) (oi := { dst := some 80, op := Op.load 3 (Operand.tmp 79), type := 3, pos := "outright.go:45", after := #[{ on := 0, ground := Ground.data }], guard := none }) (v := (.int .i64 (r : Int))) rfl (by kernel_rfl) (fun _ _ _ h => h) (Or.inl ⟨by rfl, ?_⟩) (KB.out _ GB.out) ?_
  · intro w hSw
    (try dsimp only at hSw)
    go_simp
  simp only [Act.put, List.setIfInBounds_toArray, List.set_cons_zero, List.set_cons_succ]
  refine wpAnyT_take (i := 2) (oi := { dst := some 81, op := Op.fieldAddr 37 (Operand.tmp 3) 1, type := 0, pos := "outright.go:45", after := #[], guard := none }) (v := (.pointer (some ⟨w.heap.size + 1, 1, none⟩))) rfl (by kernel_rfl) (fun _ _ _ h => h) (Or.inl ⟨by rfl, ?_⟩) (KB.out _ GB.out) ?_
  · intro w hSw
    (try dsimp only at hSw)
    go_simp
  simp only [Act.put, List.setIfInBounds_toArray, List.set_cons_zero, List.set_cons_succ]
  refine wpAnyT_take (i := 3) (oi := { dst := some 82, op := Op.load 3 (Operand.tmp 81), type := 3, pos := "outright.go:45", after := #[{ on := 2, ground := Ground.data }], guard := none }) (v := (.int .i64 (i : Int))) rfl (by kernel_rfl) (fun _ _ _ h => h) (Or.inl ⟨by rfl, ?_⟩) (KB.out _ GB.out) ?_
  · intro w hSw
    (try dsimp only at hSw)
    go_simp
  simp only [Act.put, List.setIfInBounds_toArray, List.set_cons_zero, List.set_cons_succ]
  refine wpAnyT_take (i := 4) (oi := { dst := some 83, op := Op.fieldAddr 37 (Operand.tmp 3) 1, type := 0, pos := "outright.go:45", after := #[], guard := none }) (v := (.pointer (some ⟨w.heap.size + 1, 1, none⟩))) rfl (by kernel_rfl) (fun _ _ _ h => h) (Or.inl ⟨by rfl, ?_⟩) (KB.out _ GB.out) ?_
  · intro w hSw
    (try dsimp only at hSw)
    go_simp
  simp only [Act.put, List.setIfInBounds_toArray, List.set_cons_zero, List.set_cons_succ]
  refine wpAnyT_take (i := 5) (oi := { dst := some 84, op := Op.load 3 (Operand.tmp 83), type := 3, pos := "outright.go:45", after := #[{ on := 4, ground := Ground.data }], guard := none }) (v := (.int .i64 (i : Int))) rfl (by kernel_rfl) (fun _ _ _ h => h) (Or.inl ⟨by rfl, ?_⟩) (KB.out _ GB.out) ?_
  · intro w hSw
    (try dsimp only at hSw)
    go_simp
  simp only [Act.put, List.setIfInBounds_toArray, List.set_cons_zero, List.set_cons_succ]
  refine wpAnyT_take (i := 8) (oi := { dst := some 87, op := Op.load 24 (Operand.tmp 2), type := 24, pos := "outright.go:45", after := #[], guard := none }) (v := (.agg #[.int .i64 (r : Int), .int .i64 (c : Int), .slice aa la ca])) rfl (by kernel_rfl) (fun _ _ _ h => h) (Or.inl ⟨by rfl, ?_⟩) (KB.out _ GB.out) ?_
  · intro w hSw
    (try dsimp only at hSw)
    go_simp
  simp only [Act.put, List.setIfInBounds_toArray, List.set_cons_zero, List.set_cons_succ]
  refine wpAnyT_two (i := 6) (j := 13) (oi := { dst := some 85, op := Op.call { callee := Callee.value (Operand.func 27), args := #[Operand.const (Value.int IntKind.i64 (-1))], argTypes := #[2] }, type := 35, pos := "outright.go:45", after := #[], guard := none }) (oj := { dst := some 8, op := Op.alloc 24, type := 0, pos := "outright.go:45", after := #[], guard := none }) (by kernel_rfl) rfl rfl (fun K hK => ?_) (fun K hK => ?_)
  · skip
    go_simp
    go_at_call 27
    refine (of_z (n := -1) (by omega) (by omega) D1).mono ?_
    rintro e w2 ⟨r, rfl, m1, b⟩
    have lz2 := (show Below _ _ _ from b).size
    replace GB := hid (below_step GB.out b)
    have O1 := hid m1.zc.zi
    obtain ⟨no, xo, ao, co, rfl⟩ := m1.parts
    clear m1
    clear b
    refine hK.out _ _ (fun _ => KB.out _ GB.out) ?_
    clear hK
    refine wpAnyT_two (i := 7) (j := 13) (oi := { dst := some 86, op := Op.call { callee := Callee.value (Operand.func 36), args := #[Operand.tmp 80, Operand.tmp 82, Operand.tmp 84, Operand.tmp 85], argTypes := #[3, 3, 3, 35] }, type := 24, pos := "outright.go:45", after := #[{ on := 1, ground := Ground.data }, { on := 3, ground := Ground.data }, { on := 5, ground := Ground.data }, { on := 6, ground := Ground.data }, { on := 6, ground := Ground.chain }], guard := none }) (oj := { dst := some 8, op := Op.alloc 24, type := 0, pos := "outright.go:45", after := #[], guard := none }) (by kernel_rfl) rfl rfl (fun K hK => ?_) (fun K hK => ?_)
    · skip
      go_simp
      go_at_call 36
      refine (unitV_any hr hi hi O1.out (by omega)).mono ?_
      rintro e w3 ⟨u, rfl, hu, b⟩
      have lz3 := (show Below _ _ _ from b).size
      replace GB := hid (below_step GB.out b)
      replace O1 := hid (O1.out.now b)
      have U1 := hid hu
      obtain ⟨au, cu, rfl, -, -⟩ := hu.mx.form
      generalize r * r = lu at *
      clear hu
      clear b
      refine hK.out _ _ (fun _ => KB.out _ GB.out) ?_
      clear hK
      refine wpAnyT_two (i := 9) (j := 13) (oi := { dst := some 88, op := Op.call { callee := Callee.value (Operand.func 18), args := #[Operand.tmp 86, Operand.tmp 87], argTypes := #[24, 24] }, type := 31, pos := "outright.go:45", after := #[{ on := 7, ground := Ground.data }, { on := 8, ground := Ground.data }, { on := 7, ground := Ground.chain }], guard := none }) (oj := { dst := some 8, op := Op.alloc 24, type := 0, pos := "outright.go:45", after := #[], guard := none }) (by kernel_rfl) rfl rfl (fun K hK => ?_) (fun K hK => ?_)
      · skip
        go_simp
        go_at_call 18
        refine (mul_yes U1.out.mx (MD.out.now GB.out).mx HK2.out).mono ?_
        rintro e w4 ⟨m, rfl, hm, b⟩
        have lz4 := (show Below _ _ _ from b).size
        replace GB := hid (below_step GB.out b)
        replace O1 := hid (O1.out.now b)
        replace U1 := hid (U1.out.now b)
        have M1 := hid hm
        obtain ⟨am, cm, rfl, -, -⟩ := hm.mx.form
        rw [HLA.out] at M1 ⊢
        clear hm
        clear b
        refine hK.out _ _ (fun _ => KB.out _ GB.out) ?_
        clear hK
        refine wpAnyT_take (i := 10) (oi := { dst := some 78, op := Op.move (Operand.tmp 88), type := 31, pos := "outright.go:45", after := #[{ on := 9, ground := Ground.data }], guard := none }) (v := (.tuple #[(.agg #[.int .i64 (r : Int), .int .i64 (c : Int), .slice am la cm]), (.int .i64 0)])) rfl (by kernel_rfl) (fun _ _ _ h => h) (Or.inl ⟨by rfl, ?_⟩) (KB.out _ GB.out) ?_
        · intro w hSw
          (try dsimp only at hSw)
          go_simp
        simp only [Act.put, List.setIfInBounds_toArray, List.set_cons_zero, List.set_cons_succ]
        refine wpAnyT_take (i := 11) (oi := { dst := some 89, op := Op.extract (Operand.tmp 78) 0, type := 24, pos := "outright.go:45", after := #[{ on := 10, ground := Ground.data }], guard := none }) (v := (.agg #[.int .i64 (r : Int), .int .i64 (c : Int), .slice am la cm])) rfl (by kernel_rfl) (fun _ _ _ h => h) (Or.inl ⟨by rfl, ?_⟩) (KB.out _ GB.out) ?_
        · intro w hSw
          (try dsimp only at hSw)
          go_simp
        simp only [Act.put, List.setIfInBounds_toArray, List.set_cons_zero, List.set_cons_succ]
        refine wpAnyT_take (i := 12) (oi := { dst := some 90, op := Op.extract (Operand.tmp 78) 1, type := 28, pos := "outright.go:45", after := #[{ on := 10, ground := Ground.data }, { on := 14, ground := Ground.gcOnly Departure.lateStores }], guard := none }) (v := (.int .i64 0)) rfl (by kernel_rfl) (fun _ _ _ h => h) (Or.inl ⟨by rfl, ?_⟩) (KB.out _ GB.out) ?_
        · intro w hSw
          (try dsimp only at hSw)
          go_simp
        simp only [Act.put, List.setIfInBounds_toArray, List.set_cons_zero, List.set_cons_succ]
        refine wpAnyT_one (i := 13) (o := { dst := some 8, op := Op.alloc 24, type := 0, pos := "outright.go:45", after := #[], guard := none }) (by kernel_rfl) rfl (fun K hK => ?_)
        go_simp
        obtain ⟨V5, hW⟩ : ∃ V5, w4.alloc mbox = V5 := ⟨_, rfl⟩
        obtain ⟨b, sz5⟩ := alo1 w4 mbox
        rw [hW] at b sz5
        replace GB := hid (below_step GB.out b)
        replace O1 := hid (O1.out.now b)
        replace U1 := hid (U1.out.now b)
        replace M1 := hid (M1.out.now b)
        have PB := hid (mbox_new hW)
        have QB : Hid (W0.heap.size ≤ w4.heap.size) := by unfold Hid; omega
        rw [hW]
        clear hW b
        refine hK.out _ _ (fun _ => KB.out _ GB.out) ?_
        clear hK
        try simp only [Act.put]
        refine wpAnyT_one (i := 14) (o := { dst := none, op := Op.store 24 (Operand.tmp 8) (Operand.tmp 89), type := 0, pos := "outright.go:45", after := #[{ on := 13, ground := Ground.data }, { on := 11, ground := Ground.data }, { on := 9, ground := Ground.chain }, { on := 0, ground := Ground.phase }, { on := 1, ground := Ground.phase }, { on := 2, ground := Ground.phase }, { on := 3, ground := Ground.phase }, { on := 4, ground := Ground.phase }, { on := 5, ground := Ground.phase }, { on := 6, ground := Ground.phase }, { on := 7, ground := Ground.phase }, { on := 8, ground := Ground.phase }, { on := 9, ground := Ground.phase }, { on := 10, ground := Ground.phase }, { on := 11, ground := Ground.phase }, { on := 12, ground := Ground.textOnly Departure.lateStores }, { on := 13, ground := Ground.phase }], guard := none }) (by kernel_rfl) rfl (fun K hK => ?_)
        have e0 := PB.out.at (i := 0) rfl
        have e1 := PB.out.at (i := 1) rfl
        have e2 := PB.out.at (i := 2) rfl
        have e3 := PB.out.fz 0
        have e4 := PB.out.fz 1
        have e5 := PB.out.fz 2
        go_simp
        clear e0 e1 e2 e3 e4 e5
        obtain ⟨V6, hW⟩ : ∃ V6, (((V5.setCell ⟨w4.heap.size, 0, none⟩ (.int .i64 (r : Int))).setCell ⟨w4.heap.size, 1, none⟩ (.int .i64 (c : Int))).setCell ⟨w4.heap.size, 2, none⟩ (.slice am la cm)) = V6 := ⟨_, rfl⟩
        have HN1 : Hid (Mc V6 (matv r c (.slice am la cm)) r c (prodL r r c (unitV r (i * r + i) (-1)) zs) (max 1 1 + 1 + k + r) ∧ Cel V6 (w4.heap.size) 24 (matc r c (.slice am la cm)) ∧ Cel V6 (w.heap.size + 1 + 1) 24 [.int .i64 0, .int .i64 0, .slice none 0 0] ∧ Below w.heap.size w V6) := by
          unfold Hid
          rw [← hW]
          have q := QB.out
          have s := SZ.out
          have pr := PR.out.step GB.out
          exact ⟨M1.out.wk PB.out _ _ _, PB.out.put3 _ _ _, ((pr.ne (by omega)).ne (by omega)).ne (by omega), below_put3 (below_step G0.out GB.out) (by omega) _ _ _⟩
        replace GB : Hid (Below W0.heap.size W0 V6) := by unfold Hid; rw [← hW]; exact below_put3 GB.out QB.out _ _ _
        rw [hW]
        clear hW
        refine hK.out _ _ (fun _ => KB.out _ GB.out) ?_
        clear hK
        try simp only [Act.put]
        refine wpAnyT_one (i := 15) (o := { dst := some 9, op := Op.assign (Operand.tmp 90), type := 28, pos := "outright.go:45", after := #[{ on := 12, ground := Ground.data }, { on := 14, ground := Ground.chain }, { on := 0, ground := Ground.phase }, { on := 1, ground := Ground.phase }, { on := 2, ground := Ground.phase }, { on := 3, ground := Ground.phase }, { on := 4, ground := Ground.phase }, { on := 5, ground := Ground.phase }, { on := 6, ground := Ground.phase }, { on := 7, ground := Ground.phase }, { on := 8, ground := Ground.phase }, { on := 9, ground := Ground.phase }, { on := 10, ground := Ground.phase }, { on := 11, ground := Ground.phase }, { on := 12, ground := Ground.phase }, { on := 13, ground := Ground.phase }, { on := 14, ground := Ground.phase }], guard := none }) (by kernel_rfl) rfl (fun K hK => ?_)
        go_simp
        refine hK.out _ _ (fun h => absurd h (by decide)) ?_
        clear hK
        try simp only [Act.put]
        refine wpAnyT_done (by kernel_rfl) ?_ _
        obtain ⟨hmc, pu, pr, hb⟩ := HN1.out
        have FIN : Hid (DnsYes w r c (prodL r r c (unitV r (i * r + i) (-1)) zs) (max 1 1 + 1 + k + r) (.returned (.tuple #[.agg #[.int .i64 (r : Int), .int .i64 (c : Int), .slice am la cm], .bool true])) (put3 V6 (w.heap.size + 1 + 1) (.int .i64 (r : Int)) (.int .i64 (c : Int)) (.slice am la cm))) :=
          ⟨_, rfl, hmc.wk pr _ _ _, below_put3 hb (by omega) _ _ _⟩
        have PF := hid (pr.put3 (.int .i64 (r : Int)) (.int .i64 (c : Int)) (.slice am la cm))
        have z0 := pu.at (i := 0) rfl
        have z1 := pu.at (i := 1) rfl
        have z2 := pu.at (i := 2) rfl
        have r0 := pr.at (i := 0) rfl
        have r1 := pr.at (i := 1) rfl
        have r2 := pr.at (i := 2) rfl
        have f0 := pr.fz 0
        have f1 := pr.fz 1
        have f2 := pr.fz 2
        clear PR G0 M0 U1 M1 PB QB GB KB HN1 hmc pu pr hb
        go_wp2
        exact bodyPost_ret (mback1 Try.results9 PF.out _ (by rfl) (by rfl)) rfl FIN.out
      · skip
        go_simp
        obtain ⟨V7, hW⟩ : ∃ V7, w3.alloc mbox = V7 := ⟨_, rfl⟩
        obtain ⟨b, sz7⟩ := alo1 w3 mbox
        rw [hW] at b sz7
        replace GB := hid (below_step GB.out b)
        replace O1 := hid (O1.out.now b)
        replace U1 := hid (U1.out.now b)
        have PB := hid (mbox_new hW)
        have QB : Hid (W0.heap.size ≤ w3.heap.size) := by unfold Hid; omega
        rw [hW]
        clear hW b
        refine hK.out _ _ (fun _ => KB.out _ GB.out) ?_
        clear hK
        try simp only [Act.put]
        refine wpAnyT_one (i := 9) (o := { dst := some 88, op := Op.call { callee := Callee.value (Operand.func 18), args := #[Operand.tmp 86, Operand.tmp 87], argTypes := #[24, 24] }, type := 31, pos := "outright.go:45", after := #[{ on := 7, ground := Ground.data }, { on := 8, ground := Ground.data }, { on := 7, ground := Ground.chain }], guard := none }) (by kernel_rfl) rfl (fun K hK => ?_)
        go_simp
        go_at_call 18
        refine (mul_yes U1.out.mx (MD.out.now GB.out).mx HK2.out).mono ?_
        rintro e w8 ⟨m, rfl, hm, b⟩
        have lz8 := (show Below _ _ _ from b).size
        replace GB := hid (below_step GB.out b)
        replace O1 := hid (O1.out.now b)
        replace U1 := hid (U1.out.now b)
        replace PB := hid (PB.out.step b)
        have M1 := hid hm
        obtain ⟨am, cm, rfl, -, -⟩ := hm.mx.form
        rw [HLA.out] at M1 ⊢
        clear hm
        clear b
        refine hK.out _ _ (fun _ => KB.out _ GB.out) ?_
        clear hK
        refine wpAnyT_take (i := 10) (oi := { dst := some 78, op := Op.move (Operand.tmp 88), type := 31, pos := "outright.go:45", after := #[{ on := 9, ground := Ground.data }], guard := none }) (v := (.tuple #[(.agg #[.int .i64 (r : Int), .int .i64 (c : Int), .slice am la cm]), (.int .i64 0)])) rfl (by kernel_rfl) (fun _ _ _ h => h) (Or.inl ⟨by rfl, ?_⟩) (KB.out _ GB.out) ?_
        · intro w hSw
          (try dsimp only at hSw)
          go_simp
        simp only [Act.put, List.setIfInBounds_toArray, List.set_cons_zero, List.set_cons_succ]
        refine wpAnyT_take (i := 11) (oi := { dst := some 89, op := Op.extract (Operand.tmp 78) 0, type := 24, pos := "outright.go:45", after := #[{ on := 10, ground := Ground.data }], guard := none }) (v := (.agg #[.int .i64 (r : Int), .int .i64 (c : Int), .slice am la cm])) rfl (by kernel_rfl) (fun _ _ _ h => h) (Or.inl ⟨by rfl, ?_⟩) (KB.out _ GB.out) ?_
        · intro w hSw
          (try dsimp only at hSw)
          go_simp
        simp only [Act.put, List.setIfInBounds_toArray, List.set_cons_zero, List.set_cons_succ]
        refine wpAnyT_take (i := 12) (oi := { dst := some 90, op := Op.extract (Operand.tmp 78) 1, type := 28, pos := "outright.go:45", after := #[{ on := 10, ground := Ground.data }, { on := 14, ground := Ground.gcOnly Departure.lateStores }], guard := none }) (v := (.int .i64 0)) rfl (by kernel_rfl) (fun _ _ _ h => h) (Or.inl ⟨by rfl, ?_⟩) (KB.out _ GB.out) ?_
        · intro w hSw
          (try dsimp only at hSw)
          go_simp
        simp only [Act.put, List.setIfInBounds_toArray, List.set_cons_zero, List.set_cons_succ]
        refine wpAnyT_one (i := 14) (o := { dst := none, op := Op.store 24 (Operand.tmp 8) (Operand.tmp 89), type := 0, pos := "outright.go:45", after := #[{ on := 13, ground := Ground.data }, { on := 11, ground := Ground.data }, { on := 9, ground := Ground.chain }, { on := 0, ground := Ground.phase }, { on := 1, ground := Ground.phase }, { on := 2, ground := Ground.phase }, { on := 3, ground := Ground.phase }, { on := 4, ground := Ground.phase }, { on := 5, ground := Ground.phase }, { on := 6, ground := Ground.phase }, { on := 7, ground := Ground.phase }, { on := 8, ground := Ground.phase }, { on := 9, ground := Ground.phase }, { on := 10, ground := Ground.phase }, { on := 11, ground := Ground.phase }, { on := 12, ground := Ground.textOnly Departure.lateStores }, { on := 13, ground := Ground.phase }], guard := none }) (by kernel_rfl) rfl (fun K hK => ?_)
        have e0 := PB.out.at (i := 0) rfl
        have e1 := PB.out.at (i := 1) rfl
        have e2 := PB.out.at (i := 2) rfl
        have e3 := PB.out.fz 0
        have e4 := PB.out.fz 1
        have e5 := PB.out.fz 2
        go_simp
        clear e0 e1 e2 e3 e4 e5
        obtain ⟨V9, hW⟩ : ∃ V9, (((w8.setCell ⟨w3.heap.size, 0, none⟩ (.int .i64 (r : Int))).setCell ⟨w3.heap.size, 1, none⟩ (.int .i64 (c : Int))).setCell ⟨w3.heap.size, 2, none⟩ (.slice am la cm)) = V9 := ⟨_, rfl⟩
        have HN1 : Hid (Mc V9 (matv r c (.slice am la cm)) r c (prodL r r c (unitV r (i * r + i) (-1)) zs) (max 1 1 + 1 + k + r) ∧ Cel V9 (w3.heap.size) 24 (matc r c (.slice am la cm)) ∧ Cel V9 (w.heap.size + 1 + 1) 24 [.int .i64 0, .int .i64 0, .slice none 0 0] ∧ Below w.heap.size w V9) := by
          unfold Hid
          rw [← hW]
          have q := QB.out
          have s := SZ.out
          have pr := PR.out.step GB.out
          exact ⟨M1.out.wk PB.out _ _ _, PB.out.put3 _ _ _, ((pr.ne (by omega)).ne (by omega)).ne (by omega), below_put3 (below_step G0.out GB.out) (by omega) _ _ _⟩
        replace GB : Hid (Below W0.heap.size W0 V9) := by unfold Hid; rw [← hW]; exact below_put3 GB.out QB.out _ _ _
        rw [hW]
        clear hW
        refine hK.out _ _ (fun _ => KB.out _ GB.out) ?_
        clear hK
        try simp only [Act.put]
        refine wpAnyT_one (i := 15) (o := { dst := some 9, op := Op.assign (Operand.tmp 90), type := 28, pos := "outright.go:45", after := #[{ on := 12, ground := Ground.data }, { on := 14, ground := Ground.chain }, { on := 0, ground := Ground.phase }, { on := 1, ground := Ground.phase }, { on := 2, ground := Ground.phase }, { on := 3, ground := Ground.phase }, { on := 4, ground := Ground.phase }, { on := 5, ground := Ground.phase }, { on := 6, ground := Ground.phase }, { on := 7, ground := Ground.phase }, { on := 8, ground := Ground.phase }, { on := 9, ground := Ground.phase }, { on := 10, ground := Ground.phase }, { on := 11, ground := Ground.phase }, { on := 12, ground := Ground.phase }, { on := 13, ground := Ground.phase }, { on := 14, ground := Ground.phase }], guard := none }) (by kernel_rfl) rfl (fun K hK => ?_)
        go_simp
        refine hK.out _ _ (fun h => absurd h (by decide)) ?_
        clear hK
        try simp only [Act.put]
        refine wpAnyT_done (by kernel_rfl) ?_ _
        obtain ⟨hmc, pu, pr, hb⟩ := HN1.out
        have FIN : Hid (DnsYes w r c (prodL r r c (unitV r (i * r + i) (-1)) zs) (max 1 1 + 1 + k + r) (.returned (.tuple #[.agg #[.int .i64 (r : Int), .int .i64 (c : Int), .slice am la cm], .bool true])) (put3 V9 (w.heap.size + 1 + 1) (.int .i64 (r : Int)) (.int .i64 (c : Int)) (.slice am la cm))) :=
          ⟨_, rfl, hmc.wk pr _ _ _, below_put3 hb (by omega) _ _ _⟩
        have PF := hid (pr.put3 (.int .i64 (r : Int)) (.int .i64 (c : Int)) (.slice am la cm))
        have z0 := pu.at (i := 0) rfl
        have z1 := pu.at (i := 1) rfl
        have z2 := pu.at (i := 2) rfl
        have r0 := pr.at (i := 0) rfl
        have r1 := pr.at (i := 1) rfl
        have r2 := pr.at (i := 2) rfl
        have f0 := pr.fz 0
        have f1 := pr.fz 1
        have f2 := pr.fz 2
        clear PR G0 M0 U1 M1 PB QB GB KB HN1 hmc pu pr hb
        go_wp2
        exact bodyPost_ret (mback1 Try.results9 PF.out _ (by rfl) (by rfl)) rfl FIN.out
    · skip
      go_simp
      obtain ⟨V10, hW⟩ : ∃ V10, w2.alloc mbox = V10 := ⟨_, rfl⟩
      obtain ⟨b, sz10⟩ := alo1 w2 mbox
      rw [hW] at b sz10
      replace GB := hid (below_step GB.out b)
      replace O1 := hid (O1.out.now b)
      have PB := hid (mbox_new hW)
      have QB : Hid (W0.heap.size ≤ w2.heap.size) := by unfold Hid; omega
      rw [hW]
      clear hW b
      refine hK.out _ _ (fun _ => KB.out _ GB.out) ?_
      clear hK
      try simp only [Act.put]
      refine wpAnyT_one (i := 7) (o := { dst := some 86, op := Op.call { callee := Callee.value (Operand.func 36), args := #[Operand.tmp 80, Operand.tmp 82, Operand.tmp 84, Operand.tmp 85], argTypes := #[3, 3, 3, 35] }, type := 24, pos := "outright.go:45", after := #[{ on := 1, ground := Ground.data }, { on := 3, ground := Ground.data }, { on := 5, ground := Ground.data }, { on := 6, ground := Ground.data }, { on := 6, ground := Ground.chain }], guard := none }) (by kernel_rfl) rfl (fun K hK => ?_)
      go_simp
      go_at_call 36
      refine (unitV_any hr hi hi O1.out (by omega)).mono ?_
      rintro e w11 ⟨u, rfl, hu, b⟩
      have lz11 := (show Below _ _ _ from b).size
      replace GB := hid (below_step GB.out b)
      replace O1 := hid (O1.out.now b)
      replace PB := hid (PB.out.step b)
      have U1 := hid hu
      obtain ⟨au, cu, rfl, -, -⟩ := hu.mx.form
      generalize r * r = lu at *
      clear hu
      clear b
      refine hK.out _ _ (fun _ => KB.out _ GB.out) ?_
      clear hK
      refine wpAnyT_one (i := 9) (o := { dst := some 88, op := Op.call { callee := Callee.value (Operand.func 18), args := #[Operand.tmp 86, Operand.tmp 87], argTypes := #[24, 24] }, type := 31, pos := "outright.go:45", after := #[{ on := 7, ground := Ground.data }, { on := 8, ground := Ground.data }, { on := 7, ground := Ground.chain }], guard := none }) (by kernel_rfl) rfl (fun K hK => ?_)
      go_simp
      go_at_call 18
      refine (mul_yes U1.out.mx (MD.out.now GB.out).mx HK2.out).mono ?_
      rintro e w12 ⟨m, rfl, hm, b⟩
      have lz12 := (show Below _ _ _ from b).size
      replace GB := hid (below_step GB.out b)
      replace O1 := hid (O1.out.now b)
      replace PB := hid (PB.out.step b)
      replace U1 := hid (U1.out.now b)
      have M1 := hid hm
      obtain ⟨am, cm, rfl, -, -⟩ := hm.mx.form
      rw [HLA.out] at M1 ⊢
      clear hm
      clear b
      refine hK.out _ _ (fun _ => KB.out _ GB.out) ?_
      clear hK
      refine wpAnyT_take (i := 10) (oi := { dst := some 78, op := Op.move (Operand.tmp 88), type := 31, pos := "outright.go:45", after := #[{ on := 9, ground := Ground.data }], guard := none }) (v := (.tuple #[(.agg #[.int .i64 (r : Int), .int .i64 (c : Int), .slice am la cm]), (.int .i64 0)])) rfl (by kernel_rfl) (fun _ _ _ h => h) (Or.inl ⟨by rfl, ?_⟩) (KB.out _ GB.out) ?_
      · intro w hSw
        (try dsimp only at hSw)
        go_simp
      simp only [Act.put, List.setIfInBounds_toArray, List.set_cons_zero, List.set_cons_succ]
      refine wpAnyT_take (i := 11) (oi := { dst := some 89, op := Op.extract (Operand.tmp 78) 0, type := 24, pos := "outright.go:45", after := #[{ on := 10, ground := Ground.data }], guard := none }) (v := (.agg #[.int .i64 (r : Int), .int .i64 (c : Int), .slice am la cm])) rfl (by kernel_rfl) (fun _ _ _ h => h) (Or.inl ⟨by rfl, ?_⟩) (KB.out _ GB.out) ?_
      · intro w hSw
        (try dsimp only at hSw)
        go_simp
      simp only [Act.put, List.setIfInBounds_toArray, List.set_cons_zero, List.set_cons_succ]
      refine wpAnyT_take (i := 12) (oi := { dst := some 90, op := Op.extract (Operand.tmp 78) 1, type := 28, pos := "outright.go:45", after := #[{ on := 10, ground := Ground.data }, { on := 14, ground := Ground.gcOnly Departure.lateStores }], guard := none }) (v := (.int .i64 0)) rfl (by kernel_rfl) (fun _ _ _ h => h) (Or.inl ⟨by rfl, ?_⟩) (KB.out _ GB.out) ?_
      · intro w hSw
        (try dsimp only at hSw)
        go_simp
      simp only [Act.put, List.setIfInBounds_toArray, List.set_cons_zero, List.set_cons_succ]
      refine wpAnyT_one (i := 14) (o := { dst := none, op := Op.store 24 (Operand.tmp 8) (Operand.tmp 89), type := 0, pos := "outright.go:45", after := #[{ on := 13, ground := Ground.data }, { on := 11, ground := Ground.data }, { on := 9, ground := Ground.chain }, { on := 0, ground := Ground.phase }, { on := 1, ground := Ground.phase }, { on := 2, ground := Ground.phase }, { on := 3, ground := Ground.phase }, { on := 4, ground := Ground.phase }, { on := 5, ground := Ground.phase }, { on := 6, ground := Ground.phase }, { on := 7, ground := Ground.phase }, { on := 8, ground := Ground.phase }, { on := 9, ground := Ground.phase }, { on := 10, ground := Ground.phase }, { on := 11, ground := Ground.phase }, { on := 12, ground := Ground.textOnly Departure.lateStores }, { on := 13, ground := Ground.phase }], guard := none }) (by kernel_rfl) rfl (fun K hK => ?_)
      have e0 := PB.out.at (i := 0) rfl
      have e1 := PB.out.at (i := 1) rfl
      have e2 := PB.out.at (i := 2) rfl
      have e3 := PB.out.fz 0
      have e4 := PB.out.fz 1
      have e5 := PB.out.fz 2
      go_simp
      clear e0 e1 e2 e3 e4 e5
      obtain ⟨V13, hW⟩ : ∃ V13, (((w12.setCell ⟨w2.heap.size, 0, none⟩ (.int .i64 (r : Int))).setCell ⟨w2.heap.size, 1, none⟩ (.int .i64 (c : Int))).setCell ⟨w2.heap.size, 2, none⟩ (.slice am la cm)) = V13 := ⟨_, rfl⟩
      have HN1 : Hid (Mc V13 (matv r c (.slice am la cm)) r c (prodL r r c (unitV r (i * r + i) (-1)) zs) (max 1 1 + 1 + k + r) ∧ Cel V13 (w2.heap.size) 24 (matc r c (.slice am la cm)) ∧ Cel V13 (w.heap.size + 1 + 1) 24 [.int .i64 0, .int .i64 0, .slice none 0 0] ∧ Below w.heap.size w V13) := by
        unfold Hid
        rw [← hW]
        have q := QB.out
        have s := SZ.out
        have pr := PR.out.step GB.out
        exact ⟨M1.out.wk PB.out _ _ _, PB.out.put3 _ _ _, ((pr.ne (by omega)).ne (by omega)).ne (by omega), below_put3 (below_step G0.out GB.out) (by omega) _ _ _⟩
      replace GB : Hid (Below W0.heap.size W0 V13) := by unfold Hid; rw [← hW]; exact below_put3 GB.out QB.out _ _ _
      rw [hW]
      clear hW
      refine hK.out _ _ (fun _ => KB.out _ GB.out) ?_
      clear hK
      try simp only [Act.put]
      refine wpAnyT_one (i := 15) (o := { dst := some 9, op := Op.assign (Operand.tmp 90), type := 28, pos := "outright.go:45", after := #[{ on := 12, ground := Ground.data }, { on := 14, ground := Ground.chain }, { on := 0, ground := Ground.phase }, { on := 1, ground := Ground.phase }, { on := 2, ground := Ground.phase }, { on := 3, ground := Ground.phase }, { on := 4, ground := Ground.phase }, { on := 5, ground := Ground.phase }, { on := 6, ground := Ground.phase }, { on := 7, ground := Ground.phase }, { on := 8, ground := Ground.phase }, { on := 9, ground := Ground.phase }, { on := 10, ground := Ground.phase }, { on := 11, ground := Ground.phase }, { on := 12, ground := Ground.phase }, { on := 13, ground := Ground.phase }, { on := 14, ground := Ground.phase }], guard := none }) (by kernel_rfl) rfl (fun K hK => ?_)
      go_simp
      refine hK.out _ _ (fun h => absurd h (by decide)) ?_
      clear hK
      try simp only [Act.put]
      refine wpAnyT_done (by kernel_rfl) ?_ _
      obtain ⟨hmc, pu, pr, hb⟩ := HN1.out
      have FIN : Hid (DnsYes w r c (prodL r r c (unitV r (i * r + i) (-1)) zs) (max 1 1 + 1 + k + r) (.returned (.tuple #[.agg #[.int .i64 (r : Int), .int .i64 (c : Int), .slice am la cm], .bool true])) (put3 V13 (w.heap.size + 1 + 1) (.int .i64 (r : Int)) (.int .i64 (c : Int)) (.slice am la cm))) :=
        ⟨_, rfl, hmc.wk pr _ _ _, below_put3 hb (by omega) _ _ _⟩
      have PF := hid (pr.put3 (.int .i64 (r : Int)) (.int .i64 (c : Int)) (.slice am la cm))
      have z0 := pu.at (i := 0) rfl
      have z1 := pu.at (i := 1) rfl
      have z2 := pu.at (i := 2) rfl
      have r0 := pr.at (i := 0) rfl
      have r1 := pr.at (i := 1) rfl
      have r2 := pr.at (i := 2) rfl
      have f0 := pr.fz 0
      have f1 := pr.fz 1
      have f2 := pr.fz 2
      clear PR G0 M0 U1 M1 PB QB GB KB HN1 hmc pu pr hb
      go_wp2
      exact bodyPost_ret (mback1 Try.results9 PF.out _ (by rfl) (by rfl)) rfl FIN.out
  · skip
    go_simp
    obtain ⟨V14, hW⟩ : ∃ V14, D1.alloc mbox = V14 := ⟨_, rfl⟩
    obtain ⟨b, sz14⟩ := alo1 D1 mbox
    rw [hW] at b sz14
    replace GB := hid (below_step GB.out b)
    have PB := hid (mbox_new hW)
    have QB : Hid (W0.heap.size ≤ D1.heap.size) := by unfold Hid; omega
    rw [hW]
    clear hW b
    refine hK.out _ _ (fun _ => KB.out _ GB.out) ?_
    clear hK
    try simp only [Act.put]
    refine wpAnyT_one (i := 6) (o := { dst := some 85, op := Op.call { callee := Callee.value (Operand.func 27), args := #[Operand.const (Value.int IntKind.i64 (-1))], argTypes := #[2] }, type := 35, pos := "outright.go:45", after := #[], guard := none }) (by kernel_rfl) rfl (fun K hK => ?_)
    go_simp
    go_at_call 27
    refine (of_z (n := -1) (by omega) (by omega) V14).mono ?_
    rintro e w15 ⟨r, rfl, m1, b⟩
    have lz15 := (show Below _ _ _ from b).size
    replace GB := hid (below_step GB.out b)
    replace PB := hid (PB.out.step b)
    have O1 := hid m1.zc.zi
    obtain ⟨no, xo, ao, co, rfl⟩ := m1.parts
    clear m1
    clear b
    refine hK.out _ _ (fun _ => KB.out _ GB.out) ?_
    clear hK
    refine wpAnyT_one (i := 7) (o := { dst := some 86, op := Op.call { callee := Callee.value (Operand.func 36), args := #[Operand.tmp 80, Operand.tmp 82, Operand.tmp 84, Operand.tmp 85], argTypes := #[3, 3, 3, 35] }, type := 24, pos := "outright.go:45", after := #[{ on := 1, ground := Ground.data }, { on := 3, ground := Ground.data }, { on := 5, ground := Ground.data }, { on := 6, ground := Ground.data }, { on := 6, ground := Ground.chain }], guard := none }) (by kernel_rfl) rfl (fun K hK => ?_)
    go_simp
    go_at_call 36
    refine (unitV_any hr hi hi O1.out (by omega)).mono ?_
    rintro e w16 ⟨u, rfl, hu, b⟩
    have lz16 := (show Below _ _ _ from b).size
    replace GB := hid (below_step GB.out b)
    replace PB := hid (PB.out.step b)
    replace O1 := hid (O1.out.now b)
    have U1 := hid hu
    obtain ⟨au, cu, rfl, -, -⟩ := hu.mx.form
    generalize r * r = lu at *
    clear hu
    clear b
    refine hK.out _ _ (fun _ => KB.out _ GB.out) ?_
    clear hK
    refine wpAnyT_one (i := 9) (o := { dst := some 88, op := Op.call { callee := Callee.value (Operand.func 18), args := #[Operand.tmp 86, Operand.tmp 87], argTypes := #[24, 24] }, type := 31, pos := "outright.go:45", after := #[{ on := 7, ground := Ground.data }, { on := 8, ground := Ground.data }, { on := 7, ground := Ground.chain }], guard := none }) (by kernel_rfl) rfl (fun K hK => ?_)
    go_simp
    go_at_call 18
    refine (mul_yes U1.out.mx (MD.out.now GB.out).mx HK2.out).mono ?_
    rintro e w17 ⟨m, rfl, hm, b⟩
    have lz17 := (show Below _ _ _ from b).size
    replace GB := hid (below_step GB.out b)
    replace PB := hid (PB.out.step b)
    replace O1 := hid (O1.out.now b)
    replace U1 := hid (U1.out.now b)
    have M1 := hid hm
    obtain ⟨am, cm, rfl, -, -⟩ := hm.mx.form
    rw [HLA.out] at M1 ⊢
    clear hm
    clear b
    refine hK.out _ _ (fun _ => KB.out _ GB.out) ?_
    clear hK
    refine wpAnyT_take (i := 10) (oi := { dst := some 78, op := Op.move (Operand.tmp 88), type := 31, pos := "outright.go:45", after := #[{ on := 9, ground := Ground.data }], guard := none }) (v := (.tuple #[(.agg #[.int .i64 (r : Int), .int .i64 (c : Int), .slice am la cm]), (.int .i64 0)])) rfl (by kernel_rfl) (fun _ _ _ h => h) (Or.inl ⟨by rfl, ?_⟩) (KB.out _ GB.out) ?_
    · intro w hSw
      (try dsimp only at hSw)
      go_simp
    simp only [Act.put, List.setIfInBounds_toArray, List.set_cons_zero, List.set_cons_succ]
    refine wpAnyT_take (i := 11) (oi := { dst := some 89, op := Op.extract (Operand.tmp 78) 0, type := 24, pos := "outright.go:45", after := #[{ on := 10, ground := Ground.data }], guard := none }) (v := (.agg #[.int .i64 (r : Int), .int .i64 (c : Int), .slice am la cm])) rfl (by kernel_rfl) (fun _ _ _ h => h) (Or.inl ⟨by rfl, ?_⟩) (KB.out _ GB.out) ?_
    · intro w hSw
      (try dsimp only at hSw)
      go_simp
    simp only [Act.put, List.setIfInBounds_toArray, List.set_cons_zero, List.set_cons_succ]
    refine wpAnyT_take (i := 12) (oi := { dst := some 90, op := Op.extract (Operand.tmp 78) 1, type := 28, pos := "outright.go:45", after := #[{ on := 10, ground := Ground.data }, { on := 14, ground := Ground.gcOnly Departure.lateStores }], guard := none }) (v := (.int .i64 0)) rfl (by kernel_rfl) (fun _ _ _ h => h) (Or.inl ⟨by rfl, ?_⟩) (KB.out _ GB.out) ?_
    · intro w hSw
      (try dsimp only at hSw)
      go_simp
    simp only [Act.put, List.setIfInBounds_toArray, List.set_cons_zero, List.set_cons_succ]
    refine wpAnyT_one (i := 14) (o := { dst := none, op := Op.store 24 (Operand.tmp 8) (Operand.tmp 89), type := 0, pos := "outright.go:45", after := #[{ on := 13, ground := Ground.data }, { on := 11, ground := Ground.data }, { on := 9, ground := Ground.chain }, { on := 0, ground := Ground.phase }, { on := 1, ground := Ground.phase }, { on := 2, ground := Ground.phase }, { on := 3, ground := Ground.phase }, { on := 4, ground := Ground.phase }, { on := 5, ground := Ground.phase }, { on := 6, ground := Ground.phase }, { on := 7, ground := Ground.phase }, { on := 8, ground := Ground.phase }, { on := 9, ground := Ground.phase }, { on := 10, ground := Ground.phase }, { on := 11, ground := Ground.phase }, { on := 12, ground := Ground.textOnly Departure.lateStores }, { on := 13, ground := Ground.phase }], guard := none }) (by kernel_rfl) rfl (fun K hK => ?_)
    have e0 := PB.out.at (i := 0) rfl
    have e1 := PB.out.at (i := 1) rfl
    have e2 := PB.out.at (i := 2) rfl
    have e3 := PB.out.fz 0
    have e4 := PB.out.fz 1
    have e5 := PB.out.fz 2
    go_simp
    clear e0 e1 e2 e3 e4 e5
    obtain ⟨V18, hW⟩ : ∃ V18, (((w17.setCell ⟨D1.heap.size, 0, none⟩ (.int .i64 (r : Int))).setCell ⟨D1.heap.size, 1, none⟩ (.int .i64 (c : Int))).setCell ⟨D1.heap.size, 2, none⟩ (.slice am la cm)) = V18 := ⟨_, rfl⟩
    have HN1 : Hid (Mc V18 (matv r c (.slice am la cm)) r c (prodL r r c (unitV r (i * r + i) (-1)) zs) (max 1 1 + 1 + k + r) ∧ Cel V18 (D1.heap.size) 24 (matc r c (.slice am la cm)) ∧ Cel V18 (w.heap.size + 1 + 1) 24 [.int .i64 0, .int .i64 0, .slice none 0 0] ∧ Below w.heap.size w V18) := by
      unfold Hid
      rw [← hW]
      have q := QB.out
      have s := SZ.out
      have pr := PR.out.step GB.out
      exact ⟨M1.out.wk PB.out _ _ _, PB.out.put3 _ _ _, ((pr.ne (by omega)).ne (by omega)).ne (by omega), below_put3 (below_step G0.out GB.out) (by omega) _ _ _⟩
    replace GB : Hid (Below W0.heap.size W0 V18) := by unfold Hid; rw [← hW]; exact below_put3 GB.out QB.out _ _ _
    rw [hW]
    clear hW
    refine hK.out _ _ (fun _ => KB.out _ GB.out) ?_
    clear hK
    try simp only [Act.put]
    refine wpAnyT_one (i := 15) (o := { dst := some 9, op := Op.assign (Operand.tmp 90), type := 28, pos := "outright.go:45", after := #[{ on := 12, ground := Ground.data }, { on := 14, ground := Ground.chain }, { on := 0, ground := Ground.phase }, { on := 1, ground := Ground.phase }, { on := 2, ground := Ground.phase }, { on := 3, ground := Ground.phase }, { on := 4, ground := Ground.phase }, { on := 5, ground := Ground.phase }, { on := 6, ground := Ground.phase }, { on := 7, ground := Ground.phase }, { on := 8, ground := Ground.phase }, { on := 9, ground := Ground.phase }, { on := 10, ground := Ground.phase }, { on := 11, ground := Ground.phase }, { on := 12, ground := Ground.phase }, { on := 13, ground := Ground.phase }, { on := 14, ground := Ground.phase }], guard := none }) (by kernel_rfl) rfl (fun K hK => ?_)
    go_simp
    refine hK.out _ _ (fun h => absurd h (by decide)) ?_
    clear hK
    try simp only [Act.put]
    refine wpAnyT_done (by kernel_rfl) ?_ _
    obtain ⟨hmc, pu, pr, hb⟩ := HN1.out
    have FIN : Hid (DnsYes w r c (prodL r r c (unitV r (i * r + i) (-1)) zs) (max 1 1 + 1 + k + r) (.returned (.tuple #[.agg #[.int .i64 (r : Int), .int .i64 (c : Int), .slice am la cm], .bool true])) (put3 V18 (w.heap.size + 1 + 1) (.int .i64 (r : Int)) (.int .i64 (c : Int)) (.slice am la cm))) :=
      ⟨_, rfl, hmc.wk pr _ _ _, below_put3 hb (by omega) _ _ _⟩
    have PF := hid (pr.put3 (.int .i64 (r : Int)) (.int .i64 (c : Int)) (.slice am la cm))
    have z0 := pu.at (i := 0) rfl
    have z1 := pu.at (i := 1) rfl
    have z2 := pu.at (i := 2) rfl
    have r0 := pr.at (i := 0) rfl
    have r1 := pr.at (i := 1) rfl
    have r2 := pr.at (i := 2) rfl
    have f0 := pr.fz 0
    have f1 := pr.fz 1
    have f2 := pr.fz 2
    clear PR G0 M0 U1 M1 PB QB GB KB HN1 hmc pu pr hb
    go_wp2
    exact bodyPost_ret (mback1 Try.results9 PF.out _ (by rfl) (by rfl)) rfl FIN.out
end Go.Proofs.Ytachdicdfhfoaaa
