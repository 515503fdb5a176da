/-
  Le13: the walk of BareissLeads.
-/
import Derived.Test.YtlhbcdapinacgaaGreatQWk13ToRf13
import Derived.Test.YtlhbcdapinacgaaGreatQGi10ToUp13
import Derived.Test.YtlhbcdapinacgaaGreatQPk13ToSd13
namespace Go.Proofs.YtlhbcdapinacgaaGreat
open Go.RowKit
set_option linter.unusedVariables false

theorem OwnP.now13 {B : Nat} {w w' : World} {v : Value} {ps : List (Value × Value)} (h : OwnP B w v ps) (hb : Below w.heap.size w w') : OwnP B w' v ps := h.keep13 fun b _ hlt => hb.block b hlt
theorem OwnP.box13 {B bd : Nat} {w : World} {v u u' : Value} {ps : List (Value × Value)} (h : OwnP B w v ps) (hne : ∀ b, v.ownBlock = some b → b ≠ bd) : OwnP B ((w.setCell ⟨bd, 0, none⟩ u).setCell ⟨bd, 1, none⟩ u') v ps := h.keep13 fun b hb _ => by
  have := hne b hb
  exact (Below.heap_setCell _ _ u' b (fun q => this (by simpa using q))).trans (Below.heap_setCell w _ u b (fun q => this (by simpa using q)))
set_option maxHeartbeats 6400000 in
set_option maxRecDepth 100000 in
theorem bareissLeads_any {w : World} {va : Value} {ra ca : Int} {la : Nat} {xs : List Int} {k : Int} (ha : Raw w va ra ca la xs) :
    Calls Tryz.prog 8 #[va, .int .i64 k] w (Tru w) := by
  have RA := hid ha
  obtain ⟨aa, qa, -, rfl, -, -, -, hla⟩ := ha
  obtain ⟨W0, hV⟩ : ∃ W0, w.alloc (.cells #[.int .i64 ra, .int .i64 ca, .slice aa la qa] 24) = W0 := ⟨_, rfl⟩
  obtain ⟨b0, sz0⟩ := alo1 w (.cells #[.int .i64 ra, .int .i64 ca, .slice aa la qa] 24)
  rw [hV] at b0 sz0
  have PA : Hid (Cel W0 w.heap.size 24 [.int .i64 ra, .int .i64 ca, .slice aa la qa]) := by unfold Hid; rw [← hV]; exact Cel.new w _ _
  replace RA := hid (RA.out.now b0)
  have G := hid b0
  clear b0 sz0
  have EV := hid hV
  clear hV
  go_enter Tryz.func8, Tryz.ntmps8
  go_wp2_with fail
  rw [EV.out]
  clear EV
  by_cases hsa : Snd ra ca la
  · obtain ⟨r, c, rfl, rfl⟩ := snd13 hsa
    obtain ⟨ma, -⟩ := RA.out.mx13 hsa
    have MA := hid ma
    clear ma hsa
    by_cases hrc : r = c
    · subst hrc
      clear RA
      have hr64 : r ≤ 64 := by obtain ⟨_, _, _, _, _, _, h, _⟩ := MA.out; exact h
      refine (refused_no MA.out (by decide)).mono ?_
      rintro e w1 ⟨rfl, b⟩
      replace PA := hid (PA.out.step b)
      replace MA := hid (MA.out.now b)
      replace G := hid (below_step G.out b)
      clear b
      go_wp2_with fail
      refine (awake13 _).mono ?_
      rintro e w2 ⟨rfl, b⟩
      replace PA := hid (PA.out.step b)
      replace MA := hid (MA.out.now b)
      replace G := hid (below_step G.out b)
      clear b
      have cA0 := PA.out.at (i := 0) rfl
      have cA1 := PA.out.at (i := 1) rfl
      have cA2 := PA.out.at (i := 2) rfl
      go_wp2_with fail
      clear cA0 cA1 cA2
      refine (lead_sq MA.out (by decide)).mono ?_
      rintro e w3 ⟨lv, qs, rfl, ho, hz, b⟩
      replace PA := hid (PA.out.step b)
      replace MA := hid (MA.out.now b)
      replace G := hid (below_step G.out b)
      obtain ⟨gl, nl, cpl, rfl, hnl, hcl⟩ := ho.form13 hz
      have HNL := hid hnl
      clear hnl
      have OL : Hid (OwnP 0 _ (.slice (some ⟨gl, 0, none⟩) nl cpl) qs) := owns_mono11 ho (Nat.zero_le _)
      have ZL := hid hz
      clear ho hz
      clear b
      have hgl := (OwnP.blk OL.out rfl).2.1
      have cA0 := PA.out.at (i := 0) rfl
      have cA1 := PA.out.at (i := 1) rfl
      have cA2 := PA.out.at (i := 2) rfl
      go_wp2_with fail
      clear cA0 cA1 cA2
      refine (ldet_sq MA.out (by decide)).mono ?_
      rintro e w4 ⟨nd, ad, ld, cd, rfl, m, b⟩
      replace PA := hid (PA.out.step b)
      replace MA := hid (MA.out.now b)
      replace OL := hid (OL.out.now13 b)
      replace ZL := hid (ZL.out.now b)
      replace G := hid (below_step G.out b)
      have Zd := hid (m.mono (Nat.zero_le _))
      have lzd := (show Below _ _ _ from b).size
      have lzg := G.out.size
      clear m
      clear b
      obtain ⟨V5, hV⟩ : ∃ V5, w4.alloc (duo (.bool nd) (.slice ad ld cd)) = V5 := ⟨_, rfl⟩
      obtain ⟨b, sz5⟩ := alo1 w4 (duo (.bool nd) (.slice ad ld cd))
      rw [hV] at b sz5
      replace PA := hid (PA.out.step b)
      replace MA := hid (MA.out.now b)
      replace OL := hid (OL.out.now13 b)
      replace ZL := hid (ZL.out.now b)
      replace Zd := hid (Zd.out.now b)
      replace G := hid (below_step G.out b)
      clear b sz5
      have Dd : Hid (Duo V5 w4.heap.size (.bool nd) (.slice ad ld cd)) := by unfold Hid; rw [← hV]; exact Duo.new w4 _ _
      have hgd : gl < w4.heap.size := by omega
      have GBD : Hid (w.heap.size ≤ w4.heap.size) := hid (by omega)
      obtain ⟨n0, a0, l0, c0, x0, x1, z0⟩ := OL.out.at13 ZL.out (t := 0) (by simp [ldL])
      obtain ⟨ny, ay, ly, cy, y0, y1, zy⟩ := OL.out.at13 ZL.out (t := r) (by simp [ldL])
      rw [ldL_at (Nat.zero_le _)] at z0
      rw [ldL_at (Nat.le_refl _)] at zy
      have Z0 : Hid (Zm 0 V5 (.agg #[.bool n0, .slice a0 l0 c0]) 1 (64 * 1048576 + 7)) := z0
      have ZY := hid zy
      clear z0 zy
      obtain ⟨dA, hdA⟩ : ∃ dA, det r (en r xs) = dA := ⟨_, rfl⟩
      rw [hdA] at Zd ZY
      clear hdA
      have EV : Hid (w4.alloc (duo (.bool nd) (.slice ad ld cd)) = V5) := hV
      clear hV
      go_upto_region 6 with fail
      rw [EV.out]
      clear EV
      have cd0 := Dd.out.c0
      have cd1 := Dd.out.c1
      have cA0 := PA.out.at (i := 0) rfl
      have hrl : (r : Int) < (nl : Int) := by have := HNL.out; omega
      have hr0 : (0 : Int) < (nl : Int) := by have := HNL.out; omega
      have hr0n : 0 < nl := by omega
      have HBD : Hid (w.heap.size ≤ w4.heap.size) := by unfold Hid; have := GBD.out; omega
      have KB : Hid (∀ w', Below V5.heap.size V5 w' → w'.cell? ⟨gl, 0, none⟩ = some (.bool n0) ∧ w'.cell? ⟨gl, 1, none⟩ = some (.slice a0 l0 c0) ∧ w'.cell? ⟨gl, r * 2, none⟩ = some (.bool ny) ∧ w'.cell? ⟨gl, r * 2 + 1, none⟩ = some (.slice ay ly cy) ∧ w'.cell? ⟨w4.heap.size, 0, none⟩ = some (.bool nd) ∧ w'.cell? ⟨w4.heap.size, 1, none⟩ = some (.slice ad ld cd) ∧ w'.cell? ⟨w.heap.size, 0, none⟩ = some (.int .i64 (r : Int))) := fun w' h => ⟨cnow h x0, cnow h x1, cnow h y0, cnow h y1, cnow h cd0, cnow h cd1, cnow h cA0⟩
      refine wp_region_tail (fun w' => w'.cell? ⟨gl, 0, none⟩ = some (.bool n0) ∧ w'.cell? ⟨gl, 1, none⟩ = some (.slice a0 l0 c0) ∧ w'.cell? ⟨gl, r * 2, none⟩ = some (.bool ny) ∧ w'.cell? ⟨gl, r * 2 + 1, none⟩ = some (.slice ay ly cy) ∧ w'.cell? ⟨w4.heap.size, 0, none⟩ = some (.bool nd) ∧ w'.cell? ⟨w4.heap.size, 1, none⟩ = some (.slice ad ld cd) ∧ w'.cell? ⟨w.heap.size, 0, none⟩ = some (.int .i64 (r : Int))) 15 (by kernel_rfl) ?_
      obtain ⟨D61, hD⟩ : ∃ D61, V5.drew = D61 := ⟨_, rfl⟩
      have GB : Hid (Below V5.heap.size V5 D61) := by unfold Hid; rw [← hD]; exact (Below.refl _ _).drew
      rw [hD]
      clear hD
      refine wpAnyT_take (i := 0) (oi := { dst := some 41, op := Op.move (Operand.tmp 7), type := 22, pos := "outright.go:224", after := #[], guard := none }) (v := (.slice (some ⟨gl, 0, none⟩) nl cpl)) rfl (by kernel_rfl) (fun _ _ _ h => h) (Or.inl ⟨by rfl, ?_⟩) (KB.out _ GB.out) ?_
      · intro w hSw
        (try dsimp only at hSw)
        go_simp
      simp only [Act.put, List.setIfInBounds_toArray, List.set_cons_zero, List.set_cons_succ]
      refine wpAnyT_take (i := 1) (oi := { dst := some 42, op := Op.indexAddr 22 (Operand.tmp 41) (Operand.const (Value.int IntKind.i64 0)), type := 0, pos := "outright.go:224", after := #[{ on := 0, ground := Ground.data }], guard := none }) (v := (.pointer (some ⟨gl, 0, none⟩))) rfl (by kernel_rfl) (fun _ _ _ h => h) (Or.inl ⟨by rfl, ?_⟩) (KB.out _ GB.out) ?_
      · intro w hSw
        (try dsimp only at hSw)
        go_simp
      simp only [Act.put, List.setIfInBounds_toArray, List.set_cons_zero, List.set_cons_succ]
      refine wpAnyT_take (i := 2) (oi := { dst := some 43, op := Op.load 30 (Operand.tmp 42), type := 30, pos := "outright.go:224", after := #[{ on := 1, ground := Ground.data }], guard := none }) (v := (.agg #[.bool n0, .slice a0 l0 c0])) rfl (by kernel_rfl) (fun _ _ _ h => h) (Or.inl ⟨by rfl, ?_⟩) (KB.out _ GB.out) ?_
      · intro w hSw
        (try dsimp only at hSw)
        go_simp
      simp only [Act.put, List.setIfInBounds_toArray, List.set_cons_zero, List.set_cons_succ]
      refine wpAnyT_one (i := 3) (o := { dst := some 44, op := Op.call { callee := Callee.value (Operand.func 13), args := #[Operand.const (Value.int IntKind.i64 1)], argTypes := #[2] }, type := 30, pos := "outright.go:224", after := #[], guard := none }) (by kernel_rfl) rfl (fun K hK => ?_)
      go_simp
      go_at_call 13
      refine (of_z (n := 1) (by decide) (by decide) _).mono ?_
      rintro e w62 ⟨r1, rfl, m1, b⟩
      have lz62 := (show Below _ _ _ from b).size
      replace GB := hid (below_step GB.out b)
      have MO := hid (m1.mono (Nat.zero_le _))
      obtain ⟨nm, xm, am, cm, rfl⟩ := m1.parts
      clear m1
      clear b
      refine hK.out _ _ (fun _ => KB.out _ GB.out) ?_
      clear hK
      refine wpAnyT_one (i := 4) (o := { dst := some 45, op := Op.call { callee := Callee.value (Operand.func 12), args := #[Operand.tmp 43, Operand.tmp 44], argTypes := #[30, 30] }, type := 3, pos := "outright.go:224", after := #[{ on := 2, ground := Ground.data }, { on := 3, ground := Ground.data }, { on := 3, ground := Ground.chain }], guard := none }) (by kernel_rfl) rfl (fun K hK => ?_)
      go_simp
      go_at_call 12
      refine (cmp_z (Z0.out.now GB.out).zi MO.out.zi).mono ?_
      rintro e w63 ⟨rfl, b⟩
      have lz63 := (show Below _ _ _ from b).size
      replace GB := hid (below_step GB.out b)
      have hq := cmpI_self (1 : Int)
      clear b
      refine hK.out _ _ (fun _ => KB.out _ GB.out) ?_
      clear hK
      refine wpAnyT_take (i := 5) (oi := { dst := some 46, op := Op.binOp BinOp.neq 3 (Operand.tmp 45) (Operand.const (Value.int IntKind.i64 0)) 3, type := 4, pos := "outright.go:224", after := #[{ on := 4, ground := Ground.data }], guard := none }) (v := (.bool false)) rfl (by kernel_rfl) (fun _ _ _ h => h) (Or.inl ⟨by rfl, ?_⟩) (KB.out _ GB.out) ?_
      · intro w hSw
        (try dsimp only at hSw)
        go_simp
      simp only [Act.put, List.setIfInBounds_toArray, List.set_cons_zero, List.set_cons_succ]
      refine wpAnyT_take (i := 6) (oi := { dst := some 47, op := Op.move (Operand.tmp 46), type := 4, pos := "outright.go:224", after := #[{ on := 5, ground := Ground.data }, { on := 4, ground := Ground.chain }], guard := none }) (v := (.bool false)) rfl (by kernel_rfl) (fun _ _ _ h => h) (Or.inl ⟨by rfl, ?_⟩) (KB.out _ GB.out) ?_
      · intro w hSw
        (try dsimp only at hSw)
        go_simp
      simp only [Act.put, List.setIfInBounds_toArray, List.set_cons_zero, List.set_cons_succ]
      refine wpAnyT_take (i := 7) (oi := { dst := some 48, op := Op.move (Operand.tmp 7), type := 22, pos := "outright.go:224", after := #[{ on := 6, ground := Ground.guard }], guard := some (6, false) }) (v := (.slice (some ⟨gl, 0, none⟩) nl cpl)) rfl (by kernel_rfl) (fun _ _ _ h => h) (Or.inl ⟨by rfl, ?_⟩) (KB.out _ GB.out) ?_
      · intro w hSw
        (try dsimp only at hSw)
        go_simp
      simp only [Act.put, List.setIfInBounds_toArray, List.set_cons_zero, List.set_cons_succ]
      refine wpAnyT_take (i := 8) (oi := { dst := some 49, op := Op.fieldAddr 24 (Operand.tmp 2) 0, type := 0, pos := "outright.go:224", after := #[{ on := 6, ground := Ground.guard }], guard := some (6, false) }) (v := (.pointer (some ⟨w.heap.size, 0, none⟩))) rfl (by kernel_rfl) (fun _ _ _ h => h) (Or.inl ⟨by rfl, ?_⟩) (KB.out _ GB.out) ?_
      · intro w hSw
        (try dsimp only at hSw)
        go_simp
      simp only [Act.put, List.setIfInBounds_toArray, List.set_cons_zero, List.set_cons_succ]
      refine wpAnyT_take (i := 9) (oi := { dst := some 50, op := Op.load 3 (Operand.tmp 49), type := 3, pos := "outright.go:224", after := #[{ on := 8, ground := Ground.data }, { on := 6, ground := Ground.guard }], guard := some (6, false) }) (v := (.int .i64 (r : Int))) rfl (by kernel_rfl) (fun _ _ _ h => h) (Or.inl ⟨by rfl, ?_⟩) (KB.out _ GB.out) ?_
      · intro w hSw
        (try dsimp only at hSw)
        go_simp
      simp only [Act.put, List.setIfInBounds_toArray, List.set_cons_zero, List.set_cons_succ]
      refine wpAnyT_take (i := 10) (oi := { dst := some 51, op := Op.indexAddr 22 (Operand.tmp 48) (Operand.tmp 50), type := 0, pos := "outright.go:224", after := #[{ on := 7, ground := Ground.data }, { on := 9, ground := Ground.data }, { on := 6, ground := Ground.guard }], guard := some (6, false) }) (v := (.pointer (some ⟨gl, r * 2, none⟩))) rfl (by kernel_rfl) (fun _ _ _ h => h) (Or.inl ⟨by rfl, ?_⟩) (KB.out _ GB.out) ?_
      · intro w hSw
        (try dsimp only at hSw)
        go_simp
      simp only [Act.put, List.setIfInBounds_toArray, List.set_cons_zero, List.set_cons_succ]
      refine wpAnyT_take (i := 11) (oi := { dst := some 52, op := Op.load 30 (Operand.tmp 51), type := 30, pos := "outright.go:224", after := #[{ on := 10, ground := Ground.data }, { on := 6, ground := Ground.guard }], guard := some (6, false) }) (v := (.agg #[.bool ny, .slice ay ly cy])) rfl (by kernel_rfl) (fun _ _ _ h => h) (Or.inl ⟨by rfl, ?_⟩) (KB.out _ GB.out) ?_
      · intro w hSw
        (try dsimp only at hSw)
        go_simp
      simp only [Act.put, List.setIfInBounds_toArray, List.set_cons_zero, List.set_cons_succ]
      refine wpAnyT_take (i := 12) (oi := { dst := some 53, op := Op.load 30 (Operand.tmp 9), type := 30, pos := "outright.go:224", after := #[{ on := 6, ground := Ground.guard }], guard := some (6, false) }) (v := (.agg #[.bool nd, .slice ad ld cd])) rfl (by kernel_rfl) (fun _ _ _ h => h) (Or.inl ⟨by rfl, ?_⟩) (KB.out _ GB.out) ?_
      · intro w hSw
        (try dsimp only at hSw)
        go_simp
      simp only [Act.put, List.setIfInBounds_toArray, List.set_cons_zero, List.set_cons_succ]
      refine wpAnyT_one (i := 13) (o := { dst := some 54, op := Op.call { callee := Callee.value (Operand.func 12), args := #[Operand.tmp 52, Operand.tmp 53], argTypes := #[30, 30] }, type := 3, pos := "outright.go:224", after := #[{ on := 11, ground := Ground.data }, { on := 12, ground := Ground.data }, { on := 6, ground := Ground.chain }, { on := 6, ground := Ground.guard }], guard := some (6, false) }) (by kernel_rfl) rfl (fun K hK => ?_)
      go_simp
      go_at_call 12
      refine (cmp_z (ZY.out.now GB.out).zi (Zd.out.now GB.out).zi).mono ?_
      rintro e w64 ⟨rfl, b⟩
      have lz64 := (show Below _ _ _ from b).size
      replace GB := hid (below_step GB.out b)
      have hq2 := cmpI_self dA
      clear b
      refine hK.out _ _ (fun _ => KB.out _ GB.out) ?_
      clear hK
      refine wpAnyT_take (i := 14) (oi := { dst := some 55, op := Op.binOp BinOp.neq 3 (Operand.tmp 54) (Operand.const (Value.int IntKind.i64 0)) 3, type := 4, pos := "outright.go:224", after := #[{ on := 13, ground := Ground.data }, { on := 6, ground := Ground.guard }], guard := some (6, false) }) (v := (.bool false)) rfl (by kernel_rfl) (fun _ _ _ h => h) (Or.inl ⟨by rfl, ?_⟩) (KB.out _ GB.out) ?_
      · intro w hSw
        (try dsimp only at hSw)
        go_simp
      simp only [Act.put, List.setIfInBounds_toArray, List.set_cons_zero, List.set_cons_succ]
      refine wpAnyT_one (i := 15) (o := { dst := some 56, op := Op.pick (Operand.tmp 47) (Operand.const (Value.bool true)) (Operand.tmp 55), type := 4, pos := "outright.go:224", after := #[{ on := 6, ground := Ground.data }, { on := 14, ground := Ground.data }], guard := none }) (by kernel_rfl) rfl (fun K hK => ?_)
      go_simp
      refine hK.out _ _ (fun h => absurd h (by decide)) ?_
      clear hK
      try simp only [Act.put]
      refine wpAnyT_done (by kernel_rfl) ?_ _
      clear hq hq2 x0 x1 y0 y1 cd0 cd1 cA0 MO Z0 ZY KB
      replace PA := hid (PA.out.step GB.out)
      replace MA := hid (MA.out.now GB.out)
      replace OL := hid (OL.out.now13 GB.out)
      replace ZL := hid (ZL.out.now GB.out)
      replace Zd := hid (Zd.out.now GB.out)
      replace Dd := hid (Dd.out.step GB.out)
      replace G := hid (below_step G.out GB.out)
      have lz6 := GB.out.size
      clear GB
      by_cases hk0 : k < 0
      · have cA0 := PA.out.at (i := 0) rfl
        go_wp2
        go_ret
        exact ⟨rfl, G.out⟩
      obtain ⟨kk, rfl⟩ : ∃ kk : Nat, k = (kk : Int) := ⟨k.toNat, by omega⟩
      have hk0i : ¬ (kk : Int) < 0 := hk0
      clear hk0
      by_cases hkr : (r : Int) < (kk : Int)
      · have cA0 := PA.out.at (i := 0) rfl
        go_wp2
        go_ret
        exact ⟨rfl, G.out⟩
      have hkn : kk ≤ r := by omega
      have hkl : (kk : Int) < (nl : Int) := by have := HNL.out; omega
      have cA0 := PA.out.at (i := 0) rfl
      go_upto_region 10 with fail
      clear cA0
      go_cut [11, 12] from 65 (fun s1 s2 wx => PkM w64 wx s1 s2 kk (pickL r r xs (List.range kk) (List.range kk)))
      case first =>
        have cA0 := PA.out.at (i := 0) rfl
        have cA1 := PA.out.at (i := 1) rfl
        have cA2 := PA.out.at (i := 2) rfl
        have HRL : Hid ((List.range kk).length ≤ 1048576) := by unfold Hid; simp; omega
        have HRC : Hid ((List.range kk).length ≤ 64) := by unfold Hid; simp; omega
        have HRB : Hid (∀ i ∈ List.range kk, i < r) := fun i hi => by have : i < kk := by simpa using hi
                                                                      omega
        have KB : Hid (∀ w', Below w64.heap.size w64 w' → w'.cell? ⟨w.heap.size, 0, none⟩ = some (.int .i64 (r : Int)) ∧ w'.cell? ⟨w.heap.size, 1, none⟩ = some (.int .i64 (r : Int)) ∧ w'.cell? ⟨w.heap.size, 2, none⟩ = some (.slice aa la qa)) := fun w' h => ⟨cnow h cA0, cnow h cA1, cnow h cA2⟩
        refine wp_region_tail (fun w' => w'.cell? ⟨w.heap.size, 0, none⟩ = some (.int .i64 (r : Int)) ∧ w'.cell? ⟨w.heap.size, 1, none⟩ = some (.int .i64 (r : Int)) ∧ w'.cell? ⟨w.heap.size, 2, none⟩ = some (.slice aa la qa)) 11 (by kernel_rfl) ?_
        obtain ⟨D81, hD⟩ : ∃ D81, w64.drew = D81 := ⟨_, rfl⟩
        have GB : Hid (Below w64.heap.size w64 D81) := by unfold Hid; rw [← hD]; exact (Below.refl _ _).drew
        rw [hD]
        clear hD
        have GZ : Hid (w64.heap.size ≤ D81.heap.size) := GB.out.size
        refine wpAnyT_take (i := 0) (oi := { dst := some 66, op := Op.load 24 (Operand.tmp 2), type := 24, pos := "outright.go:230", after := #[], guard := none }) (v := (.agg #[.int .i64 (r : Int), .int .i64 (r : Int), .slice aa la qa])) rfl (by kernel_rfl) (fun _ _ _ h => h) (Or.inl ⟨by rfl, ?_⟩) (KB.out _ GB.out) ?_
        · intro w hSw
          (try dsimp only at hSw)
          go_simp
        simp only [Act.put, List.setIfInBounds_toArray, List.set_cons_zero, List.set_cons_succ]
        refine wpAnyT_take (i := 1) (oi := { dst := some 67, op := Op.move (Operand.tmp 1), type := 3, pos := "outright.go:230", after := #[], guard := none }) (v := (.int .i64 (kk : Int))) rfl (by kernel_rfl) (fun _ _ _ h => h) (Or.inl ⟨by rfl, ?_⟩) (KB.out _ GB.out) ?_
        · intro w hSw
          (try dsimp only at hSw)
          go_simp
        simp only [Act.put, List.setIfInBounds_toArray, List.set_cons_zero, List.set_cons_succ]
        refine wpAnyT_take (i := 3) (oi := { dst := some 69, op := Op.move (Operand.tmp 1), type := 3, pos := "outright.go:230", after := #[], guard := none }) (v := (.int .i64 (kk : Int))) rfl (by kernel_rfl) (fun _ _ _ h => h) (Or.inl ⟨by rfl, ?_⟩) (KB.out _ GB.out) ?_
        · intro w hSw
          (try dsimp only at hSw)
          go_simp
        simp only [Act.put, List.setIfInBounds_toArray, List.set_cons_zero, List.set_cons_succ]
        refine wpAnyT_two (i := 2) (j := 9) (oi := { dst := some 68, op := Op.call { callee := Callee.value (Operand.func 28), args := #[Operand.tmp 67], argTypes := #[3] }, type := 38, pos := "outright.go:230", after := #[{ on := 1, ground := Ground.data }], guard := none }) (oj := { dst := some 11, op := Op.alloc 24, type := 0, pos := "outright.go:230", after := #[], guard := none }) (by kernel_rfl) rfl rfl (fun K hK => ?_) (fun K hK => ?_)
        · skip
          replace GZ : Hid (w64.heap.size ≤ D81.heap.size) := GB.out.size
          go_simp
          go_at_call 28
          refine (upto13 (w := _) (n := kk) (by omega)).mono ?_
          rintro e w82 ⟨v1, rfl, u1, b⟩
          have lz82 := (show Below _ _ _ from b).size
          replace GB := hid (below_step GB.out b)
          obtain ⟨au1, cu1, hv, -, -⟩ := u1.form
          rw [List.length_range] at hv
          subst hv
          have U1 := hid u1
          clear u1
          clear b
          refine hK.out _ _ (fun _ => KB.out _ GB.out) ?_
          clear hK
          refine wpAnyT_two (i := 4) (j := 9) (oi := { dst := some 70, op := Op.call { callee := Callee.value (Operand.func 28), args := #[Operand.tmp 69], argTypes := #[3] }, type := 38, pos := "outright.go:230", after := #[{ on := 3, ground := Ground.data }, { on := 2, ground := Ground.chain }], guard := none }) (oj := { dst := some 11, op := Op.alloc 24, type := 0, pos := "outright.go:230", after := #[], guard := none }) (by kernel_rfl) rfl rfl (fun K hK => ?_) (fun K hK => ?_)
          · skip
            replace GZ : Hid (w64.heap.size ≤ w82.heap.size) := GB.out.size
            go_simp
            go_at_call 28
            refine (upto13 (w := _) (n := kk) (by omega)).mono ?_
            rintro e w83 ⟨v1, rfl, u1, b⟩
            have lz83 := (show Below _ _ _ from b).size
            replace GB := hid (below_step GB.out b)
            obtain ⟨au2, cu2, hv, -, -⟩ := u1.form
            rw [List.length_range] at hv
            subst hv
            have U2 := hid u1
            clear u1
            replace U1 := hid (U1.out.now b)
            clear b
            refine hK.out _ _ (fun _ => KB.out _ GB.out) ?_
            clear hK
            refine wpAnyT_two (i := 5) (j := 9) (oi := { dst := some 71, op := Op.call { callee := Callee.value (Operand.func 14), args := #[Operand.tmp 66, Operand.tmp 68, Operand.tmp 70], argTypes := #[24, 38, 38] }, type := 36, pos := "outright.go:230", after := #[{ on := 0, ground := Ground.data }, { on := 2, ground := Ground.data }, { on := 4, ground := Ground.data }, { on := 4, ground := Ground.chain }], guard := none }) (oj := { dst := some 11, op := Op.alloc 24, type := 0, pos := "outright.go:230", after := #[], guard := none }) (by kernel_rfl) rfl rfl (fun K hK => ?_) (fun K hK => ?_)
            · skip
              replace GZ : Hid (w64.heap.size ≤ w83.heap.size) := GB.out.size
              go_simp
              go_at_call 14
              refine (pick_yes (MA.out.now GB.out) (U1.out.in9 HRL.out) (U2.out.in9 HRL.out) HRB.out HRB.out HRC.out HRC.out).mono ?_
              rintro e w84 ⟨vp, rfl, mp, b⟩
              have lz84 := (show Below _ _ _ from b).size
              replace GB := hid (below_step GB.out b)
              rw [List.length_range] at mp
              obtain ⟨ap, qp, hvp, -, -⟩ := mp.mx.form
              obtain ⟨lp, hlp⟩ : ∃ lp, kk * kk = lp := ⟨_, rfl⟩
              rw [hlp] at hvp
              subst hvp
              have MP := hid mp.mx
              clear mp U1 U2 hlp
              clear b
              refine hK.out _ _ (fun _ => KB.out _ GB.out) ?_
              clear hK
              refine wpAnyT_take (i := 6) (oi := { dst := some 65, op := Op.move (Operand.tmp 71), type := 36, pos := "outright.go:230", after := #[{ on := 5, ground := Ground.data }], guard := none }) (v := (.tuple #[(.agg #[.int .i64 (kk : Int), .int .i64 (kk : Int), .slice ap lp qp]), (.int .i64 0)])) rfl (by kernel_rfl) (fun _ _ _ h => h) (Or.inl ⟨by rfl, ?_⟩) (KB.out _ GB.out) ?_
              · intro w hSw
                (try dsimp only at hSw)
                go_simp
              simp only [Act.put, List.setIfInBounds_toArray, List.set_cons_zero, List.set_cons_succ]
              refine wpAnyT_take (i := 7) (oi := { dst := some 72, op := Op.extract (Operand.tmp 65) 0, type := 24, pos := "outright.go:230", after := #[{ on := 6, ground := Ground.data }], guard := none }) (v := (.agg #[.int .i64 (kk : Int), .int .i64 (kk : Int), .slice ap lp qp])) rfl (by kernel_rfl) (fun _ _ _ h => h) (Or.inl ⟨by rfl, ?_⟩) (KB.out _ GB.out) ?_
              · intro w hSw
                (try dsimp only at hSw)
                go_simp
              simp only [Act.put, List.setIfInBounds_toArray, List.set_cons_zero, List.set_cons_succ]
              refine wpAnyT_take (i := 8) (oi := { dst := some 73, op := Op.extract (Operand.tmp 65) 1, type := 35, pos := "outright.go:230", after := #[{ on := 6, ground := Ground.data }, { on := 10, ground := Ground.gcOnly Departure.lateStores }], guard := none }) (v := (.int .i64 0)) rfl (by kernel_rfl) (fun _ _ _ h => h) (Or.inl ⟨by rfl, ?_⟩) (KB.out _ GB.out) ?_
              · intro w hSw
                (try dsimp only at hSw)
                go_simp
              simp only [Act.put, List.setIfInBounds_toArray, List.set_cons_zero, List.set_cons_succ]
              refine wpAnyT_one (i := 9) (o := { dst := some 11, op := Op.alloc 24, type := 0, pos := "outright.go:230", after := #[], guard := none }) (by kernel_rfl) rfl (fun K hK => ?_)
              replace GZ : Hid (w64.heap.size ≤ w84.heap.size) := GB.out.size
              go_simp
              obtain ⟨V85, hW⟩ : ∃ V85, w84.alloc mbox = V85 := ⟨_, rfl⟩
              obtain ⟨b, sz85⟩ := alo1 w84 mbox
              rw [hW] at b sz85
              replace GB := hid (below_step GB.out b)
              have DB : Hid (Cel V85 w84.heap.size 24 [.int .i64 0, .int .i64 0, .slice none 0 0]) := by unfold Hid; rw [← hW]; exact Cel.new w84 _ _
              clear sz85
              have SB := hid (show w64.heap.size ≤ w84.heap.size from GZ.out)
              replace MP := hid (MP.out.now b)
              rw [hW]
              clear hW b
              refine hK.out _ _ (fun _ => KB.out _ GB.out) ?_
              clear hK
              try simp only [Act.put]
              refine wpAnyT_one (i := 10) (o := { dst := none, op := Op.store 24 (Operand.tmp 11) (Operand.tmp 72), type := 0, pos := "outright.go:230", after := #[{ on := 9, ground := Ground.data }, { on := 7, ground := Ground.data }, { on := 5, ground := Ground.chain }, { on := 0, ground := Ground.phase }, { on := 1, ground := Ground.phase }, { on := 2, ground := Ground.phase }, { on := 3, ground := Ground.phase }, { on := 4, ground := Ground.phase }, { on := 5, ground := Ground.phase }, { on := 6, ground := Ground.phase }, { on := 7, ground := Ground.phase }, { on := 8, ground := Ground.textOnly Departure.lateStores }, { on := 9, ground := Ground.phase }], guard := none }) (by kernel_rfl) rfl (fun K hK => ?_)
              have e0 := DB.out.at (i := 0) rfl
              have e1 := DB.out.at (i := 1) rfl
              have e2 := DB.out.at (i := 2) rfl
              have e3 := DB.out.fz 0
              have e4 := DB.out.fz 1
              have e5 := DB.out.fz 2
              go_simp
              clear e0 e1 e2 e3 e4 e5
              obtain ⟨V86, hW⟩ : ∃ V86, (((V85.setCell ⟨w84.heap.size, 0, none⟩ (.int .i64 (kk : Int))).setCell ⟨w84.heap.size, 1, none⟩ (.int .i64 (kk : Int))).setCell ⟨w84.heap.size, 2, none⟩ (.slice ap lp qp)) = V86 := ⟨_, rfl⟩
              have FP : Hid (PkM w64 V86 (.pointer (some ⟨w84.heap.size, 0, none⟩)) (.int .i64 0) kk (pickL r r xs (List.range kk) (List.range kk))) := by
                unfold Hid; rw [← hW]
                have := pkm_put DB.out MP.out GB.out SB.out rfl
                exact this
              replace GB : Hid (Below w64.heap.size w64 V86) := by unfold Hid; rw [← hW]; exact bset (bset (bset GB.out SB.out) SB.out) SB.out
              rw [hW]
              clear hW
              refine hK.out _ _ (fun _ => KB.out _ GB.out) ?_
              clear hK
              try simp only [Act.put]
              refine wpAnyT_one (i := 11) (o := { dst := some 12, op := Op.assign (Operand.tmp 73), type := 35, pos := "outright.go:230", after := #[{ on := 8, ground := Ground.data }, { on := 10, ground := Ground.chain }, { on := 0, ground := Ground.phase }, { on := 1, ground := Ground.phase }, { on := 2, ground := Ground.phase }, { on := 3, ground := Ground.phase }, { on := 4, ground := Ground.phase }, { on := 5, ground := Ground.phase }, { on := 6, ground := Ground.phase }, { on := 7, ground := Ground.phase }, { on := 8, ground := Ground.phase }, { on := 9, ground := Ground.phase }, { on := 10, ground := Ground.phase }], guard := none }) (by kernel_rfl) rfl (fun K hK => ?_)
              go_simp
              refine hK.out _ _ (fun h => absurd h (by decide)) ?_
              clear hK
              try simp only [Act.put]
              refine wpAnyT_done (by kernel_rfl) ?_ _
              clear DB SB MP GB GZ
              go_wp2_with fail
              go_meet
              exact FP.out
            · skip
              replace GZ : Hid (w64.heap.size ≤ w83.heap.size) := GB.out.size
              go_simp
              obtain ⟨V87, hW⟩ : ∃ V87, w83.alloc mbox = V87 := ⟨_, rfl⟩
              obtain ⟨b, sz87⟩ := alo1 w83 mbox
              rw [hW] at b sz87
              replace GB := hid (below_step GB.out b)
              have DB : Hid (Cel V87 w83.heap.size 24 [.int .i64 0, .int .i64 0, .slice none 0 0]) := by unfold Hid; rw [← hW]; exact Cel.new w83 _ _
              clear sz87
              have SB := hid (show w64.heap.size ≤ w83.heap.size from GZ.out)
              replace U1 := hid (U1.out.now b)
              replace U2 := hid (U2.out.now b)
              rw [hW]
              clear hW b
              refine hK.out _ _ (fun _ => KB.out _ GB.out) ?_
              clear hK
              try simp only [Act.put]
              refine wpAnyT_one (i := 5) (o := { dst := some 71, op := Op.call { callee := Callee.value (Operand.func 14), args := #[Operand.tmp 66, Operand.tmp 68, Operand.tmp 70], argTypes := #[24, 38, 38] }, type := 36, pos := "outright.go:230", after := #[{ on := 0, ground := Ground.data }, { on := 2, ground := Ground.data }, { on := 4, ground := Ground.data }, { on := 4, ground := Ground.chain }], guard := none }) (by kernel_rfl) rfl (fun K hK => ?_)
              replace GZ : Hid (w64.heap.size ≤ V87.heap.size) := GB.out.size
              go_simp
              go_at_call 14
              refine (pick_yes (MA.out.now GB.out) (U1.out.in9 HRL.out) (U2.out.in9 HRL.out) HRB.out HRB.out HRC.out HRC.out).mono ?_
              rintro e w88 ⟨vp, rfl, mp, b⟩
              have lz88 := (show Below _ _ _ from b).size
              replace GB := hid (below_step GB.out b)
              rw [List.length_range] at mp
              obtain ⟨ap, qp, hvp, -, -⟩ := mp.mx.form
              obtain ⟨lp, hlp⟩ : ∃ lp, kk * kk = lp := ⟨_, rfl⟩
              rw [hlp] at hvp
              subst hvp
              have MP := hid mp.mx
              clear mp U1 U2 hlp
              replace DB := hid (DB.out.step b)
              clear b
              refine hK.out _ _ (fun _ => KB.out _ GB.out) ?_
              clear hK
              refine wpAnyT_take (i := 6) (oi := { dst := some 65, op := Op.move (Operand.tmp 71), type := 36, pos := "outright.go:230", after := #[{ on := 5, ground := Ground.data }], guard := none }) (v := (.tuple #[(.agg #[.int .i64 (kk : Int), .int .i64 (kk : Int), .slice ap lp qp]), (.int .i64 0)])) rfl (by kernel_rfl) (fun _ _ _ h => h) (Or.inl ⟨by rfl, ?_⟩) (KB.out _ GB.out) ?_
              · intro w hSw
                (try dsimp only at hSw)
                go_simp
              simp only [Act.put, List.setIfInBounds_toArray, List.set_cons_zero, List.set_cons_succ]
              refine wpAnyT_take (i := 7) (oi := { dst := some 72, op := Op.extract (Operand.tmp 65) 0, type := 24, pos := "outright.go:230", after := #[{ on := 6, ground := Ground.data }], guard := none }) (v := (.agg #[.int .i64 (kk : Int), .int .i64 (kk : Int), .slice ap lp qp])) rfl (by kernel_rfl) (fun _ _ _ h => h) (Or.inl ⟨by rfl, ?_⟩) (KB.out _ GB.out) ?_
              · intro w hSw
                (try dsimp only at hSw)
                go_simp
              simp only [Act.put, List.setIfInBounds_toArray, List.set_cons_zero, List.set_cons_succ]
              refine wpAnyT_take (i := 8) (oi := { dst := some 73, op := Op.extract (Operand.tmp 65) 1, type := 35, pos := "outright.go:230", after := #[{ on := 6, ground := Ground.data }, { on := 10, ground := Ground.gcOnly Departure.lateStores }], guard := none }) (v := (.int .i64 0)) rfl (by kernel_rfl) (fun _ _ _ h => h) (Or.inl ⟨by rfl, ?_⟩) (KB.out _ GB.out) ?_
              · intro w hSw
                (try dsimp only at hSw)
                go_simp
              simp only [Act.put, List.setIfInBounds_toArray, List.set_cons_zero, List.set_cons_succ]
              refine wpAnyT_one (i := 10) (o := { dst := none, op := Op.store 24 (Operand.tmp 11) (Operand.tmp 72), type := 0, pos := "outright.go:230", after := #[{ on := 9, ground := Ground.data }, { on := 7, ground := Ground.data }, { on := 5, ground := Ground.chain }, { on := 0, ground := Ground.phase }, { on := 1, ground := Ground.phase }, { on := 2, ground := Ground.phase }, { on := 3, ground := Ground.phase }, { on := 4, ground := Ground.phase }, { on := 5, ground := Ground.phase }, { on := 6, ground := Ground.phase }, { on := 7, ground := Ground.phase }, { on := 8, ground := Ground.textOnly Departure.lateStores }, { on := 9, ground := Ground.phase }], guard := none }) (by kernel_rfl) rfl (fun K hK => ?_)
              have e0 := DB.out.at (i := 0) rfl
              have e1 := DB.out.at (i := 1) rfl
              have e2 := DB.out.at (i := 2) rfl
              have e3 := DB.out.fz 0
              have e4 := DB.out.fz 1
              have e5 := DB.out.fz 2
              go_simp
              clear e0 e1 e2 e3 e4 e5
              obtain ⟨V89, hW⟩ : ∃ V89, (((w88.setCell ⟨w83.heap.size, 0, none⟩ (.int .i64 (kk : Int))).setCell ⟨w83.heap.size, 1, none⟩ (.int .i64 (kk : Int))).setCell ⟨w83.heap.size, 2, none⟩ (.slice ap lp qp)) = V89 := ⟨_, rfl⟩
              have FP : Hid (PkM w64 V89 (.pointer (some ⟨w83.heap.size, 0, none⟩)) (.int .i64 0) kk (pickL r r xs (List.range kk) (List.range kk))) := by
                unfold Hid; rw [← hW]
                have := pkm_put DB.out MP.out GB.out SB.out rfl
                exact this
              replace GB : Hid (Below w64.heap.size w64 V89) := by unfold Hid; rw [← hW]; exact bset (bset (bset GB.out SB.out) SB.out) SB.out
              rw [hW]
              clear hW
              refine hK.out _ _ (fun _ => KB.out _ GB.out) ?_
              clear hK
              try simp only [Act.put]
              refine wpAnyT_one (i := 11) (o := { dst := some 12, op := Op.assign (Operand.tmp 73), type := 35, pos := "outright.go:230", after := #[{ on := 8, ground := Ground.data }, { on := 10, ground := Ground.chain }, { on := 0, ground := Ground.phase }, { on := 1, ground := Ground.phase }, { on := 2, ground := Ground.phase }, { on := 3, ground := Ground.phase }, { on := 4, ground := Ground.phase }, { on := 5, ground := Ground.phase }, { on := 6, ground := Ground.phase }, { on := 7, ground := Ground.phase }, { on := 8, ground := Ground.phase }, { on := 9, ground := Ground.phase }, { on := 10, ground := Ground.phase }], guard := none }) (by kernel_rfl) rfl (fun K hK => ?_)
              go_simp
              refine hK.out _ _ (fun h => absurd h (by decide)) ?_
              clear hK
              try simp only [Act.put]
              refine wpAnyT_done (by kernel_rfl) ?_ _
              clear DB SB MP GB GZ
              go_wp2_with fail
              go_meet
              exact FP.out
          · skip
            replace GZ : Hid (w64.heap.size ≤ w82.heap.size) := GB.out.size
            go_simp
            obtain ⟨V90, hW⟩ : ∃ V90, w82.alloc mbox = V90 := ⟨_, rfl⟩
            obtain ⟨b, sz90⟩ := alo1 w82 mbox
            rw [hW] at b sz90
            replace GB := hid (below_step GB.out b)
            have DB : Hid (Cel V90 w82.heap.size 24 [.int .i64 0, .int .i64 0, .slice none 0 0]) := by unfold Hid; rw [← hW]; exact Cel.new w82 _ _
            clear sz90
            have SB := hid (show w64.heap.size ≤ w82.heap.size from GZ.out)
            replace U1 := hid (U1.out.now b)
            rw [hW]
            clear hW b
            refine hK.out _ _ (fun _ => KB.out _ GB.out) ?_
            clear hK
            try simp only [Act.put]
            refine wpAnyT_one (i := 4) (o := { dst := some 70, op := Op.call { callee := Callee.value (Operand.func 28), args := #[Operand.tmp 69], argTypes := #[3] }, type := 38, pos := "outright.go:230", after := #[{ on := 3, ground := Ground.data }, { on := 2, ground := Ground.chain }], guard := none }) (by kernel_rfl) rfl (fun K hK => ?_)
            replace GZ : Hid (w64.heap.size ≤ V90.heap.size) := GB.out.size
            go_simp
            go_at_call 28
            refine (upto13 (w := _) (n := kk) (by omega)).mono ?_
            rintro e w91 ⟨v1, rfl, u1, b⟩
            have lz91 := (show Below _ _ _ from b).size
            replace GB := hid (below_step GB.out b)
            obtain ⟨au2, cu2, hv, -, -⟩ := u1.form
            rw [List.length_range] at hv
            subst hv
            have U2 := hid u1
            clear u1
            replace U1 := hid (U1.out.now b)
            replace DB := hid (DB.out.step b)
            clear b
            refine hK.out _ _ (fun _ => KB.out _ GB.out) ?_
            clear hK
            refine wpAnyT_one (i := 5) (o := { dst := some 71, op := Op.call { callee := Callee.value (Operand.func 14), args := #[Operand.tmp 66, Operand.tmp 68, Operand.tmp 70], argTypes := #[24, 38, 38] }, type := 36, pos := "outright.go:230", after := #[{ on := 0, ground := Ground.data }, { on := 2, ground := Ground.data }, { on := 4, ground := Ground.data }, { on := 4, ground := Ground.chain }], guard := none }) (by kernel_rfl) rfl (fun K hK => ?_)
            replace GZ : Hid (w64.heap.size ≤ w91.heap.size) := GB.out.size
            go_simp
            go_at_call 14
            refine (pick_yes (MA.out.now GB.out) (U1.out.in9 HRL.out) (U2.out.in9 HRL.out) HRB.out HRB.out HRC.out HRC.out).mono ?_
            rintro e w92 ⟨vp, rfl, mp, b⟩
            have lz92 := (show Below _ _ _ from b).size
            replace GB := hid (below_step GB.out b)
            rw [List.length_range] at mp
            obtain ⟨ap, qp, hvp, -, -⟩ := mp.mx.form
            obtain ⟨lp, hlp⟩ : ∃ lp, kk * kk = lp := ⟨_, rfl⟩
            rw [hlp] at hvp
            subst hvp
            have MP := hid mp.mx
            clear mp U1 U2 hlp
            replace DB := hid (DB.out.step b)
            clear b
            refine hK.out _ _ (fun _ => KB.out _ GB.out) ?_
            clear hK
            refine wpAnyT_take (i := 6) (oi := { dst := some 65, op := Op.move (Operand.tmp 71), type := 36, pos := "outright.go:230", after := #[{ on := 5, ground := Ground.data }], guard := none }) (v := (.tuple #[(.agg #[.int .i64 (kk : Int), .int .i64 (kk : Int), .slice ap lp qp]), (.int .i64 0)])) rfl (by kernel_rfl) (fun _ _ _ h => h) (Or.inl ⟨by rfl, ?_⟩) (KB.out _ GB.out) ?_
            · intro w hSw
              (try dsimp only at hSw)
              go_simp
            simp only [Act.put, List.setIfInBounds_toArray, List.set_cons_zero, List.set_cons_succ]
            refine wpAnyT_take (i := 7) (oi := { dst := some 72, op := Op.extract (Operand.tmp 65) 0, type := 24, pos := "outright.go:230", after := #[{ on := 6, ground := Ground.data }], guard := none }) (v := (.agg #[.int .i64 (kk : Int), .int .i64 (kk : Int), .slice ap lp qp])) rfl (by kernel_rfl) (fun _ _ _ h => h) (Or.inl ⟨by rfl, ?_⟩) (KB.out _ GB.out) ?_
            · intro w hSw
              (try dsimp only at hSw)
              go_simp
            simp only [Act.put, List.setIfInBounds_toArray, List.set_cons_zero, List.set_cons_succ]
            refine wpAnyT_take (i := 8) (oi := { dst := some 73, op := Op.extract (Operand.tmp 65) 1, type := 35, pos := "outright.go:230", after := #[{ on := 6, ground := Ground.data }, { on := 10, ground := Ground.gcOnly Departure.lateStores }], guard := none }) (v := (.int .i64 0)) rfl (by kernel_rfl) (fun _ _ _ h => h) (Or.inl ⟨by rfl, ?_⟩) (KB.out _ GB.out) ?_
            · intro w hSw
              (try dsimp only at hSw)
              go_simp
            simp only [Act.put, List.setIfInBounds_toArray, List.set_cons_zero, List.set_cons_succ]
            refine wpAnyT_one (i := 10) (o := { dst := none, op := Op.store 24 (Operand.tmp 11) (Operand.tmp 72), type := 0, pos := "outright.go:230", after := #[{ on := 9, ground := Ground.data }, { on := 7, ground := Ground.data }, { on := 5, ground := Ground.chain }, { on := 0, ground := Ground.phase }, { on := 1, ground := Ground.phase }, { on := 2, ground := Ground.phase }, { on := 3, ground := Ground.phase }, { on := 4, ground := Ground.phase }, { on := 5, ground := Ground.phase }, { on := 6, ground := Ground.phase }, { on := 7, ground := Ground.phase }, { on := 8, ground := Ground.textOnly Departure.lateStores }, { on := 9, ground := Ground.phase }], guard := none }) (by kernel_rfl) rfl (fun K hK => ?_)
            have e0 := DB.out.at (i := 0) rfl
            have e1 := DB.out.at (i := 1) rfl
            have e2 := DB.out.at (i := 2) rfl
            have e3 := DB.out.fz 0
            have e4 := DB.out.fz 1
            have e5 := DB.out.fz 2
            go_simp
            clear e0 e1 e2 e3 e4 e5
            obtain ⟨V93, hW⟩ : ∃ V93, (((w92.setCell ⟨w82.heap.size, 0, none⟩ (.int .i64 (kk : Int))).setCell ⟨w82.heap.size, 1, none⟩ (.int .i64 (kk : Int))).setCell ⟨w82.heap.size, 2, none⟩ (.slice ap lp qp)) = V93 := ⟨_, rfl⟩
            have FP : Hid (PkM w64 V93 (.pointer (some ⟨w82.heap.size, 0, none⟩)) (.int .i64 0) kk (pickL r r xs (List.range kk) (List.range kk))) := by
              unfold Hid; rw [← hW]
              have := pkm_put DB.out MP.out GB.out SB.out rfl
              exact this
            replace GB : Hid (Below w64.heap.size w64 V93) := by unfold Hid; rw [← hW]; exact bset (bset (bset GB.out SB.out) SB.out) SB.out
            rw [hW]
            clear hW
            refine hK.out _ _ (fun _ => KB.out _ GB.out) ?_
            clear hK
            try simp only [Act.put]
            refine wpAnyT_one (i := 11) (o := { dst := some 12, op := Op.assign (Operand.tmp 73), type := 35, pos := "outright.go:230", after := #[{ on := 8, ground := Ground.data }, { on := 10, ground := Ground.chain }, { on := 0, ground := Ground.phase }, { on := 1, ground := Ground.phase }, { on := 2, ground := Ground.phase }, { on := 3, ground := Ground.phase }, { on := 4, ground := Ground.phase }, { on := 5, ground := Ground.phase }, { on := 6, ground := Ground.phase }, { on := 7, ground := Ground.phase }, { on := 8, ground := Ground.phase }, { on := 9, ground := Ground.phase }, { on := 10, ground := Ground.phase }], guard := none }) (by kernel_rfl) rfl (fun K hK => ?_)
            go_simp
            refine hK.out _ _ (fun h => absurd h (by decide)) ?_
            clear hK
            try simp only [Act.put]
            refine wpAnyT_done (by kernel_rfl) ?_ _
            clear DB SB MP GB GZ
            go_wp2_with fail
            go_meet
            exact FP.out
        · skip
          replace GZ : Hid (w64.heap.size ≤ D81.heap.size) := GB.out.size
          go_simp
          obtain ⟨V94, hW⟩ : ∃ V94, D81.alloc mbox = V94 := ⟨_, rfl⟩
          obtain ⟨b, sz94⟩ := alo1 D81 mbox
          rw [hW] at b sz94
          replace GB := hid (below_step GB.out b)
          have DB : Hid (Cel V94 D81.heap.size 24 [.int .i64 0, .int .i64 0, .slice none 0 0]) := by unfold Hid; rw [← hW]; exact Cel.new D81 _ _
          clear sz94
          have SB := hid (show w64.heap.size ≤ D81.heap.size from GZ.out)
          rw [hW]
          clear hW b
          refine hK.out _ _ (fun _ => KB.out _ GB.out) ?_
          clear hK
          try simp only [Act.put]
          refine wpAnyT_one (i := 2) (o := { dst := some 68, op := Op.call { callee := Callee.value (Operand.func 28), args := #[Operand.tmp 67], argTypes := #[3] }, type := 38, pos := "outright.go:230", after := #[{ on := 1, ground := Ground.data }], guard := none }) (by kernel_rfl) rfl (fun K hK => ?_)
          replace GZ : Hid (w64.heap.size ≤ V94.heap.size) := GB.out.size
          go_simp
          go_at_call 28
          refine (upto13 (w := _) (n := kk) (by omega)).mono ?_
          rintro e w95 ⟨v1, rfl, u1, b⟩
          have lz95 := (show Below _ _ _ from b).size
          replace GB := hid (below_step GB.out b)
          obtain ⟨au1, cu1, hv, -, -⟩ := u1.form
          rw [List.length_range] at hv
          subst hv
          have U1 := hid u1
          clear u1
          replace DB := hid (DB.out.step b)
          clear b
          refine hK.out _ _ (fun _ => KB.out _ GB.out) ?_
          clear hK
          refine wpAnyT_one (i := 4) (o := { dst := some 70, op := Op.call { callee := Callee.value (Operand.func 28), args := #[Operand.tmp 69], argTypes := #[3] }, type := 38, pos := "outright.go:230", after := #[{ on := 3, ground := Ground.data }, { on := 2, ground := Ground.chain }], guard := none }) (by kernel_rfl) rfl (fun K hK => ?_)
          replace GZ : Hid (w64.heap.size ≤ w95.heap.size) := GB.out.size
          go_simp
          go_at_call 28
          refine (upto13 (w := _) (n := kk) (by omega)).mono ?_
          rintro e w96 ⟨v1, rfl, u1, b⟩
          have lz96 := (show Below _ _ _ from b).size
          replace GB := hid (below_step GB.out b)
          obtain ⟨au2, cu2, hv, -, -⟩ := u1.form
          rw [List.length_range] at hv
          subst hv
          have U2 := hid u1
          clear u1
          replace U1 := hid (U1.out.now b)
          replace DB := hid (DB.out.step b)
          clear b
          refine hK.out _ _ (fun _ => KB.out _ GB.out) ?_
          clear hK
          refine wpAnyT_one (i := 5) (o := { dst := some 71, op := Op.call { callee := Callee.value (Operand.func 14), args := #[Operand.tmp 66, Operand.tmp 68, Operand.tmp 70], argTypes := #[24, 38, 38] }, type := 36, pos := "outright.go:230", after := #[{ on := 0, ground := Ground.data }, { on := 2, ground := Ground.data }, { on := 4, ground := Ground.data }, { on := 4, ground := Ground.chain }], guard := none }) (by kernel_rfl) rfl (fun K hK => ?_)
          replace GZ : Hid (w64.heap.size ≤ w96.heap.size) := GB.out.size
          go_simp
          go_at_call 14
          refine (pick_yes (MA.out.now GB.out) (U1.out.in9 HRL.out) (U2.out.in9 HRL.out) HRB.out HRB.out HRC.out HRC.out).mono ?_
          rintro e w97 ⟨vp, rfl, mp, b⟩
          have lz97 := (show Below _ _ _ from b).size
          replace GB := hid (below_step GB.out b)
          rw [List.length_range] at mp
          obtain ⟨ap, qp, hvp, -, -⟩ := mp.mx.form
          obtain ⟨lp, hlp⟩ : ∃ lp, kk * kk = lp := ⟨_, rfl⟩
          rw [hlp] at hvp
          subst hvp
          have MP := hid mp.mx
          clear mp U1 U2 hlp
          replace DB := hid (DB.out.step b)
          clear b
          refine hK.out _ _ (fun _ => KB.out _ GB.out) ?_
          clear hK
          refine wpAnyT_take (i := 6) (oi := { dst := some 65, op := Op.move (Operand.tmp 71), type := 36, pos := "outright.go:230", after := #[{ on := 5, ground := Ground.data }], guard := none }) (v := (.tuple #[(.agg #[.int .i64 (kk : Int), .int .i64 (kk : Int), .slice ap lp qp]), (.int .i64 0)])) rfl (by kernel_rfl) (fun _ _ _ h => h) (Or.inl ⟨by rfl, ?_⟩) (KB.out _ GB.out) ?_
          · intro w hSw
            (try dsimp only at hSw)
            go_simp
          simp only [Act.put, List.setIfInBounds_toArray, List.set_cons_zero, List.set_cons_succ]
          refine wpAnyT_take (i := 7) (oi := { dst := some 72, op := Op.extract (Operand.tmp 65) 0, type := 24, pos := "outright.go:230", after := #[{ on := 6, ground := Ground.data }], guard := none }) (v := (.agg #[.int .i64 (kk : Int), .int .i64 (kk : Int), .slice ap lp qp])) rfl (by kernel_rfl) (fun _ _ _ h => h) (Or.inl ⟨by rfl, ?_⟩) (KB.out _ GB.out) ?_
          · intro w hSw
            (try dsimp only at hSw)
            go_simp
          simp only [Act.put, List.setIfInBounds_toArray, List.set_cons_zero, List.set_cons_succ]
          refine wpAnyT_take (i := 8) (oi := { dst := some 73, op := Op.extract (Operand.tmp 65) 1, type := 35, pos := "outright.go:230", after := #[{ on := 6, ground := Ground.data }, { on := 10, ground := Ground.gcOnly Departure.lateStores }], guard := none }) (v := (.int .i64 0)) rfl (by kernel_rfl) (fun _ _ _ h => h) (Or.inl ⟨by rfl, ?_⟩) (KB.out _ GB.out) ?_
          · intro w hSw
            (try dsimp only at hSw)
            go_simp
          simp only [Act.put, List.setIfInBounds_toArray, List.set_cons_zero, List.set_cons_succ]
          refine wpAnyT_one (i := 10) (o := { dst := none, op := Op.store 24 (Operand.tmp 11) (Operand.tmp 72), type := 0, pos := "outright.go:230", after := #[{ on := 9, ground := Ground.data }, { on := 7, ground := Ground.data }, { on := 5, ground := Ground.chain }, { on := 0, ground := Ground.phase }, { on := 1, ground := Ground.phase }, { on := 2, ground := Ground.phase }, { on := 3, ground := Ground.phase }, { on := 4, ground := Ground.phase }, { on := 5, ground := Ground.phase }, { on := 6, ground := Ground.phase }, { on := 7, ground := Ground.phase }, { on := 8, ground := Ground.textOnly Departure.lateStores }, { on := 9, ground := Ground.phase }], guard := none }) (by kernel_rfl) rfl (fun K hK => ?_)
          have e0 := DB.out.at (i := 0) rfl
          have e1 := DB.out.at (i := 1) rfl
          have e2 := DB.out.at (i := 2) rfl
          have e3 := DB.out.fz 0
          have e4 := DB.out.fz 1
          have e5 := DB.out.fz 2
          go_simp
          clear e0 e1 e2 e3 e4 e5
          obtain ⟨V98, hW⟩ : ∃ V98, (((w97.setCell ⟨D81.heap.size, 0, none⟩ (.int .i64 (kk : Int))).setCell ⟨D81.heap.size, 1, none⟩ (.int .i64 (kk : Int))).setCell ⟨D81.heap.size, 2, none⟩ (.slice ap lp qp)) = V98 := ⟨_, rfl⟩
          have FP : Hid (PkM w64 V98 (.pointer (some ⟨D81.heap.size, 0, none⟩)) (.int .i64 0) kk (pickL r r xs (List.range kk) (List.range kk))) := by
            unfold Hid; rw [← hW]
            have := pkm_put DB.out MP.out GB.out SB.out rfl
            exact this
          replace GB : Hid (Below w64.heap.size w64 V98) := by unfold Hid; rw [← hW]; exact bset (bset (bset GB.out SB.out) SB.out) SB.out
          rw [hW]
          clear hW
          refine hK.out _ _ (fun _ => KB.out _ GB.out) ?_
          clear hK
          try simp only [Act.put]
          refine wpAnyT_one (i := 11) (o := { dst := some 12, op := Op.assign (Operand.tmp 73), type := 35, pos := "outright.go:230", after := #[{ on := 8, ground := Ground.data }, { on := 10, ground := Ground.chain }, { on := 0, ground := Ground.phase }, { on := 1, ground := Ground.phase }, { on := 2, ground := Ground.phase }, { on := 3, ground := Ground.phase }, { on := 4, ground := Ground.phase }, { on := 5, ground := Ground.phase }, { on := 6, ground := Ground.phase }, { on := 7, ground := Ground.phase }, { on := 8, ground := Ground.phase }, { on := 9, ground := Ground.phase }, { on := 10, ground := Ground.phase }], guard := none }) (by kernel_rfl) rfl (fun K hK => ?_)
          go_simp
          refine hK.out _ _ (fun h => absurd h (by decide)) ?_
          clear hK
          try simp only [Act.put]
          refine wpAnyT_done (by kernel_rfl) ?_ _
          clear DB SB MP GB GZ
          go_wp2_with fail
          go_meet
          exact FP.out
      case rest =>
      obtain ⟨bk, ap, lp, qp, rfl, rfl, b, hbk, dp, mp⟩ := hcut
      replace PA := hid (PA.out.step b)
      replace MA := hid (MA.out.now b)
      replace OL := hid (OL.out.now13 b)
      replace ZL := hid (ZL.out.now b)
      replace Zd := hid (Zd.out.now b)
      replace Dd := hid (Dd.out.step b)
      replace G := hid (below_step G.out b)
      have PP := hid dp
      have MP := hid mp
      clear dp mp b
      have EDL : Hid (det kk (en kk (pickL r r xs (List.range kk) (List.range kk))) = det kk (en r xs)) := lead_det hkn
      have cP0 := PP.out.at (i := 0) rfl
      have cP1 := PP.out.at (i := 1) rfl
      have cP2 := PP.out.at (i := 2) rfl
      go_wp2_with fail
      clear cP0 cP1 cP2
      refine (ldet_sq MP.out (by decide)).mono ?_
      rintro e w6 ⟨ne, ae, le, ce, rfl, m, b⟩
      replace PA := hid (PA.out.step b)
      replace MA := hid (MA.out.now b)
      replace OL := hid (OL.out.now13 b)
      replace ZL := hid (ZL.out.now b)
      replace Zd := hid (Zd.out.now b)
      replace Dd := hid (Dd.out.step b)
      replace PP := hid (PP.out.step b)
      replace MP := hid (MP.out.now b)
      replace G := hid (below_step G.out b)
      have Ze := hid (m.mono (Nat.zero_le _))
      clear m
      clear b
      rw [EDL.out] at Ze
      obtain ⟨nz, az, lz, cz, z0, z1, zz⟩ := OL.out.at13 ZL.out (t := kk) (by simp [ldL]; omega)
      rw [ldL_at hkn] at zz
      have ZZ := hid zz
      clear zz
      obtain ⟨dK, hdK⟩ : ∃ dK, det kk (en r xs) = dK := ⟨_, rfl⟩
      rw [hdK] at Ze ZZ
      clear hdK EDL
      have d0 := Dd.out.c0
      have d1 := Dd.out.c1
      have d2 := Dd.out.fz 0
      have d3 := Dd.out.fz 1
      obtain ⟨V, hV⟩ : ∃ V, (w6.setCell ⟨w4.heap.size, 0, none⟩ (.bool ne)).setCell ⟨w4.heap.size, 1, none⟩ (.slice ae le ce) = V := ⟨_, rfl⟩
      have tyv := Dd.out.ty13 (.bool ne) (.slice ae le ce)
      rw [hV] at tyv
      have DV : Hid (Duo V w4.heap.size (.bool ne) (.slice ae le ce)) := by unfold Hid; rw [← hV]; exact Dd.out.set _ _
      have OV : Hid (OwnP 0 V (.slice (some ⟨gl, 0, none⟩) nl cpl) qs) := by
        unfold Hid; rw [← hV]
        exact OL.out.box13 fun b hb => by simp only [Value.ownBlock, Option.some.injEq] at hb; omega
      have ZLV := hid (ZL.out.ty tyv (by decide))
      have ZeV := hid (Ze.out.ty tyv (by decide))
      have ZZV := hid (ZZ.out.ty tyv (by decide))
      have GV : Hid (Below w.heap.size w V) := by unfold Hid; rw [← hV]; exact bset (bset G.out HBD.out) HBD.out
      have hne2 : gl ≠ w4.heap.size := by omega
      have v0 : V.cell? ⟨gl, kk * 2, none⟩ = some (.bool nz) := by rw [← hV, World.cell?_setCell_other _ _ _ _ (by simp <;> omega), World.cell?_setCell_other _ _ _ _ (by simp <;> omega)]; exact z0
      have v1 : V.cell? ⟨gl, kk * 2 + 1, none⟩ = some (.slice az lz cz) := by rw [← hV, World.cell?_setCell_other _ _ _ _ (by simp <;> omega), World.cell?_setCell_other _ _ _ _ (by simp <;> omega)]; exact z1
      have v2 := DV.out.c0
      have v3 := DV.out.c1
      have EV := hid hV
      clear hV tyv OL ZL Ze ZZ G Dd z0 z1 OV ZLV PP MP Zd PA MA
      go_upto_region 12 with fail
      rw [EV.out]
      clear EV d0 d1 d2 d3
      have KB : Hid (∀ w', Below V.heap.size V w' → w'.cell? ⟨gl, kk * 2, none⟩ = some (.bool nz) ∧ w'.cell? ⟨gl, kk * 2 + 1, none⟩ = some (.slice az lz cz) ∧ w'.cell? ⟨w4.heap.size, 0, none⟩ = some (.bool ne) ∧ w'.cell? ⟨w4.heap.size, 1, none⟩ = some (.slice ae le ce)) := fun w' h => ⟨cnow h v0, cnow h v1, cnow h v2, cnow h v3⟩
      refine wp_region_tail (fun w' => w'.cell? ⟨gl, kk * 2, none⟩ = some (.bool nz) ∧ w'.cell? ⟨gl, kk * 2 + 1, none⟩ = some (.slice az lz cz) ∧ w'.cell? ⟨w4.heap.size, 0, none⟩ = some (.bool ne) ∧ w'.cell? ⟨w4.heap.size, 1, none⟩ = some (.slice ae le ce)) 10 (by kernel_rfl) ?_
      obtain ⟨D121, hD⟩ : ∃ D121, V.drew = D121 := ⟨_, rfl⟩
      have GB : Hid (Below V.heap.size V D121) := by unfold Hid; rw [← hD]; exact (Below.refl _ _).drew
      rw [hD]
      clear hD
      refine wpAnyT_take (i := 0) (oi := { dst := some 79, op := Op.move (Operand.tmp 5), type := 4, pos := "outright.go:232", after := #[], guard := none }) (v := (.bool true)) rfl (by kernel_rfl) (fun _ _ _ h => h) (Or.inl ⟨by rfl, ?_⟩) (KB.out _ GB.out) ?_
      · intro w hSw
        (try dsimp only at hSw)
        go_simp
      simp only [Act.put, List.setIfInBounds_toArray, List.set_cons_zero, List.set_cons_succ]
      refine wpAnyT_take (i := 1) (oi := { dst := some 80, op := Op.move (Operand.tmp 79), type := 4, pos := "outright.go:232", after := #[{ on := 0, ground := Ground.data }], guard := none }) (v := (.bool true)) rfl (by kernel_rfl) (fun _ _ _ h => h) (Or.inl ⟨by rfl, ?_⟩) (KB.out _ GB.out) ?_
      · intro w hSw
        (try dsimp only at hSw)
        go_simp
      simp only [Act.put, List.setIfInBounds_toArray, List.set_cons_zero, List.set_cons_succ]
      refine wpAnyT_take (i := 2) (oi := { dst := some 81, op := Op.move (Operand.tmp 7), type := 22, pos := "outright.go:232", after := #[{ on := 1, ground := Ground.guard }], guard := some (1, true) }) (v := (.slice (some ⟨gl, 0, none⟩) nl cpl)) rfl (by kernel_rfl) (fun _ _ _ h => h) (Or.inl ⟨by rfl, ?_⟩) (KB.out _ GB.out) ?_
      · intro w hSw
        (try dsimp only at hSw)
        go_simp
      simp only [Act.put, List.setIfInBounds_toArray, List.set_cons_zero, List.set_cons_succ]
      refine wpAnyT_take (i := 3) (oi := { dst := some 82, op := Op.move (Operand.tmp 1), type := 3, pos := "outright.go:232", after := #[{ on := 1, ground := Ground.guard }], guard := some (1, true) }) (v := (.int .i64 (kk : Int))) rfl (by kernel_rfl) (fun _ _ _ h => h) (Or.inl ⟨by rfl, ?_⟩) (KB.out _ GB.out) ?_
      · intro w hSw
        (try dsimp only at hSw)
        go_simp
      simp only [Act.put, List.setIfInBounds_toArray, List.set_cons_zero, List.set_cons_succ]
      refine wpAnyT_take (i := 4) (oi := { dst := some 83, op := Op.indexAddr 22 (Operand.tmp 81) (Operand.tmp 82), type := 0, pos := "outright.go:232", after := #[{ on := 2, ground := Ground.data }, { on := 3, ground := Ground.data }, { on := 1, ground := Ground.guard }], guard := some (1, true) }) (v := (.pointer (some ⟨gl, kk * 2, none⟩))) rfl (by kernel_rfl) (fun _ _ _ h => h) (Or.inl ⟨by rfl, ?_⟩) (KB.out _ GB.out) ?_
      · intro w hSw
        (try dsimp only at hSw)
        go_simp
      simp only [Act.put, List.setIfInBounds_toArray, List.set_cons_zero, List.set_cons_succ]
      refine wpAnyT_take (i := 5) (oi := { dst := some 84, op := Op.load 30 (Operand.tmp 83), type := 30, pos := "outright.go:232", after := #[{ on := 4, ground := Ground.data }, { on := 1, ground := Ground.guard }], guard := some (1, true) }) (v := (.agg #[.bool nz, .slice az lz cz])) rfl (by kernel_rfl) (fun _ _ _ h => h) (Or.inl ⟨by rfl, ?_⟩) (KB.out _ GB.out) ?_
      · intro w hSw
        (try dsimp only at hSw)
        go_simp
      simp only [Act.put, List.setIfInBounds_toArray, List.set_cons_zero, List.set_cons_succ]
      refine wpAnyT_take (i := 6) (oi := { dst := some 85, op := Op.load 30 (Operand.tmp 9), type := 30, pos := "outright.go:232", after := #[{ on := 1, ground := Ground.guard }], guard := some (1, true) }) (v := (.agg #[.bool ne, .slice ae le ce])) rfl (by kernel_rfl) (fun _ _ _ h => h) (Or.inl ⟨by rfl, ?_⟩) (KB.out _ GB.out) ?_
      · intro w hSw
        (try dsimp only at hSw)
        go_simp
      simp only [Act.put, List.setIfInBounds_toArray, List.set_cons_zero, List.set_cons_succ]
      refine wpAnyT_one (i := 7) (o := { dst := some 86, op := Op.call { callee := Callee.value (Operand.func 12), args := #[Operand.tmp 84, Operand.tmp 85], argTypes := #[30, 30] }, type := 3, pos := "outright.go:232", after := #[{ on := 5, ground := Ground.data }, { on := 6, ground := Ground.data }, { on := 1, ground := Ground.chain }, { on := 1, ground := Ground.guard }], guard := some (1, true) }) (by kernel_rfl) rfl (fun K hK => ?_)
      go_simp
      go_at_call 12
      refine (cmp_z (ZZV.out.now GB.out).zi (ZeV.out.now GB.out).zi).mono ?_
      rintro e w122 ⟨rfl, b⟩
      have lz122 := (show Below _ _ _ from b).size
      replace GB := hid (below_step GB.out b)
      have hq := cmpI_self dK
      clear b
      refine hK.out _ _ (fun _ => KB.out _ GB.out) ?_
      clear hK
      refine wpAnyT_take (i := 8) (oi := { dst := some 87, op := Op.binOp BinOp.eql 3 (Operand.tmp 86) (Operand.const (Value.int IntKind.i64 0)) 3, type := 4, pos := "outright.go:232", after := #[{ on := 7, ground := Ground.data }, { on := 1, ground := Ground.guard }], guard := some (1, true) }) (v := (.bool true)) rfl (by kernel_rfl) (fun _ _ _ h => h) (Or.inl ⟨by rfl, ?_⟩) (KB.out _ GB.out) ?_
      · intro w hSw
        (try dsimp only at hSw)
        go_simp
      simp only [Act.put, List.setIfInBounds_toArray, List.set_cons_zero, List.set_cons_succ]
      refine wpAnyT_take (i := 9) (oi := { dst := some 88, op := Op.pick (Operand.tmp 80) (Operand.tmp 87) (Operand.const (Value.bool false)), type := 4, pos := "outright.go:232", after := #[{ on := 1, ground := Ground.data }, { on := 8, ground := Ground.data }], guard := none }) (v := (.bool true)) rfl (by kernel_rfl) (fun _ _ _ h => h) (Or.inl ⟨by rfl, ?_⟩) (KB.out _ GB.out) ?_
      · intro w hSw
        (try dsimp only at hSw)
        go_simp
      simp only [Act.put, List.setIfInBounds_toArray, List.set_cons_zero, List.set_cons_succ]
      refine wpAnyT_one (i := 10) (o := { dst := some 4, op := Op.assign (Operand.tmp 88), type := 4, pos := "outright.go:232", after := #[{ on := 9, ground := Ground.data }, { on := 7, ground := Ground.chain }, { on := 0, ground := Ground.phase }, { on := 1, ground := Ground.phase }, { on := 2, ground := Ground.phase }, { on := 3, ground := Ground.phase }, { on := 4, ground := Ground.phase }, { on := 5, ground := Ground.phase }, { on := 6, ground := Ground.phase }, { on := 7, ground := Ground.phase }, { on := 8, ground := Ground.phase }, { on := 9, ground := Ground.phase }], guard := none }) (by kernel_rfl) rfl (fun K hK => ?_)
      go_simp
      refine hK.out _ _ (fun h => absurd h (by decide)) ?_
      clear hK
      try simp only [Act.put]
      refine wpAnyT_done (by kernel_rfl) ?_ _
      have FIN : Hid (Tru w (.returned (.bool true)) w122) := ⟨rfl, below_step GV.out GB.out⟩
      clear GB KB
      go_wp2
      go_ret
      exact FIN.out
    · have hrc2 := hid hrc
      refine (refused_fit MA.out hrc).mono ?_
      rintro e w7 ⟨rfl, b⟩
      replace PA := hid (PA.out.step b)
      replace RA := hid (RA.out.now b)
      replace MA := hid (MA.out.now b)
      replace G := hid (below_step G.out b)
      clear b
      go_wp2_with fail
      refine (awake13 _).mono ?_
      rintro e w8 ⟨rfl, b⟩
      replace PA := hid (PA.out.step b)
      replace RA := hid (RA.out.now b)
      replace MA := hid (MA.out.now b)
      replace G := hid (below_step G.out b)
      clear b
      go_wp2_with fail
      refine (awake13 _).mono ?_
      rintro e w9 ⟨rfl, b⟩
      replace PA := hid (PA.out.step b)
      replace RA := hid (RA.out.now b)
      replace MA := hid (MA.out.now b)
      replace G := hid (below_step G.out b)
      clear b
      go_wp2
      go_ret
      exact ⟨rfl, G.out⟩
  · have hsa2 := hid hsa
    refine (refused_un hsa).mono ?_
    rintro e w10 ⟨rfl, b⟩
    replace PA := hid (PA.out.step b)
    replace RA := hid (RA.out.now b)
    replace G := hid (below_step G.out b)
    clear b
    go_wp2_with fail
    refine (awake13 _).mono ?_
    rintro e w11 ⟨rfl, b⟩
    replace PA := hid (PA.out.step b)
    replace RA := hid (RA.out.now b)
    replace G := hid (below_step G.out b)
    clear b
    go_wp2_with fail
    refine (awake13 _).mono ?_
    rintro e w12 ⟨rfl, b⟩
    replace PA := hid (PA.out.step b)
    replace RA := hid (RA.out.now b)
    replace G := hid (below_step G.out b)
    clear b
    go_wp2
    go_ret
    exact ⟨rfl, G.out⟩
end Go.Proofs.YtlhbcdapinacgaaGreat
