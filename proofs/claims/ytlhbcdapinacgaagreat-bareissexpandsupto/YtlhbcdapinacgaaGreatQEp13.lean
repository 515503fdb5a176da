/-
  Ep13: the walk of BareissExpands.
-/
import Derived.Test.YtlhbcdapinacgaaGreatQWk13ToRf13
import Derived.Test.YtlhbcdapinacgaaGreatQGi10ToUp13
import Derived.Test.YtlhbcdapinacgaaGreatQEx13
import Derived.Deep.CutRange
namespace Go.Proofs.YtlhbcdapinacgaaGreat
open Go.RowKit
set_option linter.unusedVariables false

/-- The sum so far. -/
def ExH (W0 : World) (bs n nn row : Nat) (zs : List Int) (kw gk : Nat) (s : Value) (wx : World) : Prop :=
  ∃ (j : Nat) (ns : Bool) (as_ : Option Addr) (ls cs : Nat), s = .int .i64 (j : Int) ∧ j ≤ n ∧ gk = n - j ∧ Duo wx bs (.bool ns) (.slice as_ ls cs) ∧ Zm 0 wx (.agg #[.bool ns, .slice as_ ls cs]) (su j (exT (en n zs) nn row)) kw ∧ Below W0.heap.size W0 wx
set_option maxHeartbeats 6400000 in
set_option maxRecDepth 100000 in
theorem bareissExpands_any {w : World} {va : Value} {ra ca : Int} {la : Nat} {xs : List Int} {k : Int} (ha : Raw w va ra ca la xs) :
    Calls Tryz.prog 3 #[va, .int .i64 k] w (Tru w) := by
  have RA := hid ha
  obtain ⟨aa, qa, -, rfl, -, -, -, hla⟩ := ha
  obtain ⟨W0, hV⟩ : ∃ W0, w.alloc (.cells #[.int .i64 ra, .int .i64 ca, .slice aa la qa] 24) = W0 := ⟨_, rfl⟩
  obtain ⟨b0, sz0⟩ := alo1 w (.cells #[.int .i64 ra, .int .i64 ca, .slice aa la qa] 24)
  rw [hV] at b0 sz0
  have PA : Hid (Cel W0 w.heap.size 24 [.int .i64 ra, .int .i64 ca, .slice aa la qa]) := by unfold Hid; rw [← hV]; exact Cel.new w _ _
  replace RA := hid (RA.out.now b0)
  have G := hid b0
  clear b0 sz0
  have EV := hid hV
  clear hV
  go_enter Tryz.func3, Tryz.ntmps3
  go_wp2_with fail
  rw [EV.out]
  clear EV
  by_cases hsa : Snd ra ca la
  · obtain ⟨n, c, rfl, rfl⟩ := snd13 hsa
    obtain ⟨ma, -⟩ := RA.out.mx13 hsa
    have MA := hid ma
    clear ma hsa
    by_cases hrc : n = c
    · subst hrc
      clear RA
      have hn64 : n ≤ 64 := by obtain ⟨_, _, _, _, _, _, h, _⟩ := MA.out; exact h
      have HZA : Hid (∀ z ∈ xs, (z.natAbs : Int) < pw 1048576) := by obtain ⟨_, _, _, _, h, _⟩ := MA.out; exact h.lt
      refine (refused_no MA.out (by decide)).mono ?_
      rintro e w1 ⟨rfl, b⟩
      replace PA := hid (PA.out.step b)
      replace MA := hid (MA.out.now b)
      replace G := hid (below_step G.out b)
      clear b
      go_wp2_with fail
      refine (awake13 _).mono ?_
      rintro e w2 ⟨rfl, b⟩
      replace PA := hid (PA.out.step b)
      replace MA := hid (MA.out.now b)
      replace G := hid (below_step G.out b)
      clear b
      have cA0 := PA.out.at (i := 0) rfl
      have cA1 := PA.out.at (i := 1) rfl
      have cA2 := PA.out.at (i := 2) rfl
      go_wp2_with fail
      clear cA0 cA1 cA2
      refine (ldet_sq MA.out (by decide)).mono ?_
      rintro e w3 ⟨nd, ad, ld, cd, rfl, m, b⟩
      replace PA := hid (PA.out.step b)
      replace MA := hid (MA.out.now b)
      replace G := hid (below_step G.out b)
      have Zd := hid (m.mono (Nat.zero_le _))
      clear m
      clear b
      obtain ⟨V4, hV⟩ : ∃ V4, w3.alloc (duo (.bool nd) (.slice ad ld cd)) = V4 := ⟨_, rfl⟩
      obtain ⟨b, sz4⟩ := alo1 w3 (duo (.bool nd) (.slice ad ld cd))
      rw [hV] at b sz4
      replace PA := hid (PA.out.step b)
      replace MA := hid (MA.out.now b)
      replace Zd := hid (Zd.out.now b)
      replace G := hid (below_step G.out b)
      clear b sz4
      have Dd : Hid (Duo V4 w3.heap.size (.bool nd) (.slice ad ld cd)) := by unfold Hid; rw [← hV]; exact Duo.new w3 _ _
      by_cases hn0 : n = 0
      · have hni : ((n : Int) == 0) = true := by subst hn0; rfl
        have Z1 : Hid (Zm 0 V4 (.agg #[.bool nd, .slice ad ld cd]) 1 (64 * 1048576 + 7)) := by
          have := Zd.out
          rw [show det n (en n xs) = 1 by subst hn0; rfl] at this
          exact this
        clear hn0
        have cA0 := PA.out.at (i := 0) rfl
        rw [← hV] at cA0
        have EV : Hid (w3.alloc (duo (.bool nd) (.slice ad ld cd)) = V4) := hV
        clear hV
        go_upto_region 7 with fail
        rw [EV.out]
        clear EV cA0
        have cd0 := Dd.out.c0
        have cd1 := Dd.out.c1
        have KB : Hid (∀ w', Below V4.heap.size V4 w' → w'.cell? ⟨w3.heap.size, 0, none⟩ = some (.bool nd) ∧ w'.cell? ⟨w3.heap.size, 1, none⟩ = some (.slice ad ld cd)) := fun w' h => ⟨cnow h cd0, cnow h cd1⟩
        refine wp_region_tail (fun w' => w'.cell? ⟨w3.heap.size, 0, none⟩ = some (.bool nd) ∧ w'.cell? ⟨w3.heap.size, 1, none⟩ = some (.slice ad ld cd)) 4 (by kernel_rfl) ?_
        obtain ⟨D61, hD⟩ : ∃ D61, V4.drew = D61 := ⟨_, rfl⟩
        have GB : Hid (Below V4.heap.size V4 D61) := by unfold Hid; rw [← hD]; exact (Below.refl _ _).drew
        rw [hD]
        clear hD
        refine wpAnyT_take (i := 0) (oi := { dst := some 43, op := Op.load 30 (Operand.tmp 7), type := 30, pos := "outright.go:62", after := #[], guard := none }) (v := (.agg #[.bool nd, .slice ad ld cd])) rfl (by kernel_rfl) (fun _ _ _ h => h) (Or.inl ⟨by rfl, ?_⟩) (KB.out _ GB.out) ?_
        · intro w hSw
          (try dsimp only at hSw)
          go_simp
        simp only [Act.put, List.setIfInBounds_toArray, List.set_cons_zero, List.set_cons_succ]
        refine wpAnyT_one (i := 1) (o := { dst := some 44, op := Op.call { callee := Callee.value (Operand.func 13), args := #[Operand.const (Value.int IntKind.i64 1)], argTypes := #[2] }, type := 30, pos := "outright.go:62", after := #[], guard := none }) (by kernel_rfl) rfl (fun K hK => ?_)
        go_simp
        go_at_call 13
        refine (of_z (n := 1) (by decide) (by decide) _).mono ?_
        rintro e w62 ⟨r1, rfl, m1, b⟩
        have lz62 := (show Below _ _ _ from b).size
        replace GB := hid (below_step GB.out b)
        have MO := hid (m1.mono (Nat.zero_le _))
        obtain ⟨nm, xm, am, cm, rfl⟩ := m1.parts
        clear m1
        clear b
        refine hK.out _ _ (fun _ => KB.out _ GB.out) ?_
        clear hK
        refine wpAnyT_one (i := 2) (o := { dst := some 45, op := Op.call { callee := Callee.value (Operand.func 12), args := #[Operand.tmp 43, Operand.tmp 44], argTypes := #[30, 30] }, type := 3, pos := "outright.go:62", after := #[{ on := 0, ground := Ground.data }, { on := 1, ground := Ground.data }, { on := 1, ground := Ground.chain }], guard := none }) (by kernel_rfl) rfl (fun K hK => ?_)
        go_simp
        go_at_call 12
        refine (cmp_z (Z1.out.now GB.out).zi MO.out.zi).mono ?_
        rintro e w63 ⟨rfl, b⟩
        have lz63 := (show Below _ _ _ from b).size
        replace GB := hid (below_step GB.out b)
        have hq := cmpI_self (1 : Int)
        clear b
        refine hK.out _ _ (fun _ => KB.out _ GB.out) ?_
        clear hK
        refine wpAnyT_take (i := 3) (oi := { dst := some 46, op := Op.binOp BinOp.eql 3 (Operand.tmp 45) (Operand.const (Value.int IntKind.i64 0)) 3, type := 4, pos := "outright.go:62", after := #[{ on := 2, ground := Ground.data }], guard := none }) (v := (.bool true)) rfl (by kernel_rfl) (fun _ _ _ h => h) (Or.inl ⟨by rfl, ?_⟩) (KB.out _ GB.out) ?_
        · intro w hSw
          (try dsimp only at hSw)
          go_simp
        simp only [Act.put, List.setIfInBounds_toArray, List.set_cons_zero, List.set_cons_succ]
        refine wpAnyT_one (i := 4) (o := { dst := some 4, op := Op.assign (Operand.tmp 46), type := 4, pos := "outright.go:62", after := #[{ on := 3, ground := Ground.data }, { on := 2, ground := Ground.chain }, { on := 0, ground := Ground.phase }, { on := 1, ground := Ground.phase }, { on := 2, ground := Ground.phase }, { on := 3, ground := Ground.phase }], guard := none }) (by kernel_rfl) rfl (fun K hK => ?_)
        go_simp
        refine hK.out _ _ (fun h => absurd h (by decide)) ?_
        clear hK
        try simp only [Act.put]
        refine wpAnyT_done (by kernel_rfl) ?_ _
        have FIN : Hid (Tru w (.returned (.bool true)) w63) := ⟨rfl, below_step G.out GB.out⟩
        clear GB KB
        go_wp2
        go_ret
        exact FIN.out
      obtain ⟨nn, hnn⟩ : ∃ nn, n = nn + 1 := ⟨n - 1, by omega⟩
      have HNN := hid hnn
      have hni : ((n : Int) == 0) = false := by simp; omega
      have hnz : ¬ (n : Int) = 0 := by omega
      clear hnn hn0
      have cA0 := PA.out.at (i := 0) rfl
      rw [← hV] at cA0
      have EV : Hid (w3.alloc (duo (.bool nd) (.slice ad ld cd)) = V4) := hV
      clear hV
      go_upto_region 8 with fail
      rw [EV.out]
      clear EV cA0
      go_cut [53] from 47 (fun s1 wx => s1 = .bool (decide (k < 0 ∨ (n : Int) ≤ k)) ∧ wx = V4)
      case first =>
        by_cases hk0 : k < 0
        · go_wp2_with fail
          go_meet
          exact ⟨congrArg Value.bool (decide_eq_true (p := k < 0 ∨ (n : Int) ≤ k) (.inl hk0)).symm, rfl⟩
        · by_cases hk1 : (n : Int) ≤ k
          · go_wp2_with fail
            go_meet
            exact ⟨congrArg Value.bool (decide_eq_true (p := k < 0 ∨ (n : Int) ≤ k) (.inr hk1)).symm, rfl⟩
          · go_wp2_with fail
            go_meet
            exact ⟨congrArg Value.bool (decide_eq_false (p := k < 0 ∨ (n : Int) ≤ k) (by omega)).symm, rfl⟩
      case rest =>
      obtain ⟨rfl, hwc⟩ := hcut
      rw [hwc]
      clear hwc wc
      go_upto_if 53 with fail
      go_cut [1] from 47 (fun s1 wx => (∃ row : Nat, s1 = .int .i64 (row : Int) ∧ row < n) ∧ wx = V4)
      case first =>
        by_cases hbad : k < 0 ∨ (n : Int) ≤ k
        · have hd : decide (k < 0 ∨ (n : Int) ≤ k) = true := decide_eq_true hbad
          rw [hd]
          go_wp2_with fail
          go_meet
          exact ⟨⟨0, rfl, by have := HNN.out; omega⟩, rfl⟩
        · have hd : decide (k < 0 ∨ (n : Int) ≤ k) = false := decide_eq_false hbad
          rw [hd]
          obtain ⟨kk, rfl⟩ : ∃ kk : Nat, k = (kk : Int) := ⟨k.toNat, by omega⟩
          go_wp2_with fail
          go_meet
          exact ⟨⟨kk, rfl, by omega⟩, rfl⟩
      case rest =>
      obtain ⟨⟨row, rfl, hrow⟩, hwc⟩ := hcut
      rw [hwc]
      clear hwc wc
      have HRN := hid hrow
      clear hrow
      go_wp2_with fail
      refine (of_z (n := 0) (by decide) (by decide) _).mono ?_
      rintro e w5 ⟨r0, rfl, m, b⟩
      replace PA := hid (PA.out.step b)
      replace MA := hid (MA.out.now b)
      replace Zd := hid (Zd.out.now b)
      replace Dd := hid (Dd.out.step b)
      replace G := hid (below_step G.out b)
      obtain ⟨nz, xz, az, cz, rfl⟩ := m.parts
      have Zz := hid (m.mono (Nat.zero_le _))
      clear m
      clear b
      have KB0 := PA
      have lzd := Dd.out.blk
      have lzg := G.out.size
      obtain ⟨V, hV⟩ : ∃ V, w5.alloc (duo (.bool nz) (.slice az xz.length cz)) = V := ⟨_, rfl⟩
      obtain ⟨b, sz⟩ := alo1 w5 (duo (.bool nz) (.slice az xz.length cz))
      rw [hV] at b sz
      have H0 : Hid (ExH w5 w5.heap.size n nn row xs (64 * 1048576 + 7) n (.int .i64 0) V) := ⟨0, nz, az, xz.length, cz, rfl, Nat.zero_le _, by omega, by rw [← hV]; exact Duo.new w5 _ _, (Zz.out.now b).more (by decide), b⟩
      have EV := hid hV
      clear hV b sz Zz KB0
      obtain ⟨bs, hbs⟩ : ∃ bs, w5.heap.size = bs := ⟨_, rfl⟩
      have EBS := hid hbs
      rw [hbs] at H0
      clear hbs
      go_wp2_with fail
      rw [EV.out, EBS.out]
      clear EV
      go_loopg [11] n (fun gk s11 wx => ExH w5 bs n nn row xs (64 * 1048576 + 7) gk s11 wx)
      case atStart => exact H0.out
      case round =>
        clear H0
        obtain ⟨j, ns, as_, ls, cs, rfl, hjn, hgk, hds, hzs, hbw⟩ := hrel
        have DS := hid hds
        have ZS := hid hzs
        have BW := hid hbw
        have HG := hid hgk
        have PA1 := hid (PA.out.step hbw)
        have MA1 := hid (MA.out.now hbw)
        have Dd1 := hid (Dd.out.step hbw)
        have Zd1 := hid (Zd.out.now hbw)
        have GW := hid (below_step G.out hbw)
        clear hds hzs hbw hgk
        by_cases hlt : j < n
        · have hlt' : (j : Int) < (n : Int) := by omega
          have hjn2 : j ≤ nn := by have := HNN.out; omega
          have hwj := wrapI9 (i := j) (by omega)
          have HMM : Hid (n - (j + 1) < gk) := by unfold Hid; rw [HG.out]; omega
          clear HG
          go_upto_region 14 with fail
          go_cut [12, 13] from 58 to 96 (fun s1 s2 wx => PkM wr wx s1 s2 nn (pickL n n xs ((List.range n).filter fun t => t != row) ((List.range n).filter fun t => t != j)))
          case first =>
            have cA0 := PA1.out.at (i := 0) rfl
            have cA1 := PA1.out.at (i := 1) rfl
            have cA2 := PA1.out.at (i := 2) rfl
            have HW1 : Hid (((List.range n).filter fun t => t != row).length = nn) := by unfold Hid; rw [HNN.out]; exact without_len (by have := HNN.out; have := HRN.out; omega)
            have HW2 : Hid (((List.range n).filter fun t => t != j).length = nn) := by unfold Hid; rw [HNN.out]; exact without_len (by omega)
            have HB1 : Hid (∀ i ∈ ((List.range n).filter fun t => t != row), i < n) := fun i hi => by
              have := (List.mem_filter.1 hi).1
              simpa using this
            have HB2 : Hid (∀ i ∈ ((List.range n).filter fun t => t != j), i < n) := fun i hi => by
              have := (List.mem_filter.1 hi).1
              simpa using this
            have hnn64 : nn ≤ 64 := by have := HNN.out; omega
            have HWAA : Hid (∀ w', Calls Tryz.prog 15 #[.int .i64 (n : Int), (.int .i64 (row : Int))] w' (GivesI w' ((List.range n).filter fun t => t != row))) := fun w' => without13 (k := row) hn64
            have HWBB : Hid (∀ w', Calls Tryz.prog 15 #[.int .i64 (n : Int), .int .i64 (j : Int)] w' (GivesI w' ((List.range n).filter fun t => t != j))) := fun w' => without13 (k := j) hn64
            generalize ((List.range n).filter fun t => t != row) = L1 at *
            generalize ((List.range n).filter fun t => t != j) = L2 at *
            have HWA : Hid (∀ w', Calls Tryz.prog 15 #[.int .i64 (n : Int), (.int .i64 (row : Int))] w' (GivesI w' L1)) := HWAA.out
            have HWB : Hid (∀ w', Calls Tryz.prog 15 #[.int .i64 (n : Int), .int .i64 (j : Int)] w' (GivesI w' L2)) := HWBB.out
            have KB : Hid (∀ w', Below wr.heap.size wr w' → w'.cell? ⟨w.heap.size, 0, none⟩ = some (.int .i64 (n : Int)) ∧ w'.cell? ⟨w.heap.size, 1, none⟩ = some (.int .i64 (n : Int)) ∧ w'.cell? ⟨w.heap.size, 2, none⟩ = some (.slice aa la qa)) := fun w' h => ⟨cnow h cA0, cnow h cA1, cnow h cA2⟩
            refine wp_region_tail (fun w' => w'.cell? ⟨w.heap.size, 0, none⟩ = some (.int .i64 (n : Int)) ∧ w'.cell? ⟨w.heap.size, 1, none⟩ = some (.int .i64 (n : Int)) ∧ w'.cell? ⟨w.heap.size, 2, none⟩ = some (.slice aa la qa)) 13 (by kernel_rfl) ?_
            obtain ⟨D81, hD⟩ : ∃ D81, wr.drew = D81 := ⟨_, rfl⟩
            have GB : Hid (Below wr.heap.size wr D81) := by unfold Hid; rw [← hD]; exact (Below.refl _ _).drew
            rw [hD]
            clear hD
            have GZ : Hid (wr.heap.size ≤ D81.heap.size) := GB.out.size
            refine wpAnyT_take (i := 0) (oi := { dst := some 61, op := Op.load 24 (Operand.tmp 2), type := 24, pos := "outright.go:69", after := #[], guard := none }) (v := (.agg #[.int .i64 (n : Int), .int .i64 (n : Int), .slice aa la qa])) rfl (by kernel_rfl) (fun _ _ _ h => h) (Or.inl ⟨by rfl, ?_⟩) (KB.out _ GB.out) ?_
            · intro w hSw
              (try dsimp only at hSw)
              go_simp
            simp only [Act.put, List.setIfInBounds_toArray, List.set_cons_zero, List.set_cons_succ]
            refine wpAnyT_take (i := 1) (oi := { dst := some 62, op := Op.move (Operand.tmp 9), type := 3, pos := "outright.go:69", after := #[], guard := none }) (v := (.int .i64 (n : Int))) rfl (by kernel_rfl) (fun _ _ _ h => h) (Or.inl ⟨by rfl, ?_⟩) (KB.out _ GB.out) ?_
            · intro w hSw
              (try dsimp only at hSw)
              go_simp
            simp only [Act.put, List.setIfInBounds_toArray, List.set_cons_zero, List.set_cons_succ]
            refine wpAnyT_take (i := 2) (oi := { dst := some 63, op := Op.move (Operand.tmp 1), type := 3, pos := "outright.go:69", after := #[], guard := none }) (v := (.int .i64 (row : Int))) rfl (by kernel_rfl) (fun _ _ _ h => h) (Or.inl ⟨by rfl, ?_⟩) (KB.out _ GB.out) ?_
            · intro w hSw
              (try dsimp only at hSw)
              go_simp
            simp only [Act.put, List.setIfInBounds_toArray, List.set_cons_zero, List.set_cons_succ]
            refine wpAnyT_take (i := 4) (oi := { dst := some 65, op := Op.move (Operand.tmp 9), type := 3, pos := "outright.go:69", after := #[], guard := none }) (v := (.int .i64 (n : Int))) rfl (by kernel_rfl) (fun _ _ _ h => h) (Or.inl ⟨by rfl, ?_⟩) (KB.out _ GB.out) ?_
            · intro w hSw
              (try dsimp only at hSw)
              go_simp
            simp only [Act.put, List.setIfInBounds_toArray, List.set_cons_zero, List.set_cons_succ]
            refine wpAnyT_take (i := 5) (oi := { dst := some 66, op := Op.move (Operand.tmp 11), type := 3, pos := "outright.go:69", after := #[], guard := none }) (v := (.int .i64 (j : Int))) rfl (by kernel_rfl) (fun _ _ _ h => h) (Or.inl ⟨by rfl, ?_⟩) (KB.out _ GB.out) ?_
            · intro w hSw
              (try dsimp only at hSw)
              go_simp
            simp only [Act.put, List.setIfInBounds_toArray, List.set_cons_zero, List.set_cons_succ]
            refine wpAnyT_two (i := 3) (j := 11) (oi := { dst := some 64, op := Op.call { callee := Callee.value (Operand.func 15), args := #[Operand.tmp 62, Operand.tmp 63], argTypes := #[3, 3] }, type := 38, pos := "outright.go:69", after := #[{ on := 1, ground := Ground.data }, { on := 2, ground := Ground.data }], guard := none }) (oj := { dst := some 12, op := Op.alloc 24, type := 0, pos := "outright.go:69", after := #[], guard := none }) (by kernel_rfl) rfl rfl (fun K hK => ?_) (fun K hK => ?_)
            · skip
              replace GZ : Hid (wr.heap.size ≤ D81.heap.size) := GB.out.size
              go_simp
              go_at_call 15
              refine (HWA.out _).mono ?_
              rintro e w82 ⟨v1, rfl, u1, b⟩
              have lz82 := (show Below _ _ _ from b).size
              replace GB := hid (below_step GB.out b)
              obtain ⟨au1, cu1, hv, -, -⟩ := u1.form
              rw [HW1.out] at hv
              subst hv
              have U1 := hid u1
              clear u1
              clear b
              refine hK.out _ _ (fun _ => KB.out _ GB.out) ?_
              clear hK
              refine wpAnyT_two (i := 6) (j := 11) (oi := { dst := some 67, op := Op.call { callee := Callee.value (Operand.func 15), args := #[Operand.tmp 65, Operand.tmp 66], argTypes := #[3, 3] }, type := 38, pos := "outright.go:69", after := #[{ on := 4, ground := Ground.data }, { on := 5, ground := Ground.data }, { on := 3, ground := Ground.chain }], guard := none }) (oj := { dst := some 12, op := Op.alloc 24, type := 0, pos := "outright.go:69", after := #[], guard := none }) (by kernel_rfl) rfl rfl (fun K hK => ?_) (fun K hK => ?_)
              · skip
                replace GZ : Hid (wr.heap.size ≤ w82.heap.size) := GB.out.size
                go_simp
                go_at_call 15
                refine (HWB.out _).mono ?_
                rintro e w83 ⟨v1, rfl, u1, b⟩
                have lz83 := (show Below _ _ _ from b).size
                replace GB := hid (below_step GB.out b)
                obtain ⟨au2, cu2, hv, -, -⟩ := u1.form
                rw [HW2.out] at hv
                subst hv
                have U2 := hid u1
                clear u1
                replace U1 := hid (U1.out.now b)
                clear b
                refine hK.out _ _ (fun _ => KB.out _ GB.out) ?_
                clear hK
                refine wpAnyT_two (i := 7) (j := 11) (oi := { dst := some 68, op := Op.call { callee := Callee.value (Operand.func 14), args := #[Operand.tmp 61, Operand.tmp 64, Operand.tmp 67], argTypes := #[24, 38, 38] }, type := 36, pos := "outright.go:69", after := #[{ on := 0, ground := Ground.data }, { on := 3, ground := Ground.data }, { on := 6, ground := Ground.data }, { on := 6, ground := Ground.chain }], guard := none }) (oj := { dst := some 12, op := Op.alloc 24, type := 0, pos := "outright.go:69", after := #[], guard := none }) (by kernel_rfl) rfl rfl (fun K hK => ?_) (fun K hK => ?_)
                · skip
                  replace GZ : Hid (wr.heap.size ≤ w83.heap.size) := GB.out.size
                  go_simp
                  go_at_call 14
                  refine (pick_yes (MA1.out.now GB.out) (U1.out.in9 (by rw [HW1.out]; omega)) (U2.out.in9 (by rw [HW2.out]; omega)) HB1.out HB2.out (by rw [HW1.out]; omega) (by rw [HW2.out]; omega)).mono ?_
                  rintro e w84 ⟨vp, rfl, mp, b⟩
                  have lz84 := (show Below _ _ _ from b).size
                  replace GB := hid (below_step GB.out b)
                  rw [HW1.out, HW2.out] at mp
                  obtain ⟨ap, qp, hvp, -, -⟩ := mp.mx.form
                  obtain ⟨lp, hlp⟩ : ∃ lp, nn * nn = lp := ⟨_, rfl⟩
                  rw [hlp] at hvp
                  subst hvp
                  have MP := hid mp.mx
                  clear mp U1 U2 hlp
                  clear b
                  refine hK.out _ _ (fun _ => KB.out _ GB.out) ?_
                  clear hK
                  refine wpAnyT_take (i := 8) (oi := { dst := some 60, op := Op.move (Operand.tmp 68), type := 36, pos := "outright.go:69", after := #[{ on := 7, ground := Ground.data }], guard := none }) (v := (.tuple #[(.agg #[.int .i64 (nn : Int), .int .i64 (nn : Int), .slice ap lp qp]), (.int .i64 0)])) rfl (by kernel_rfl) (fun _ _ _ h => h) (Or.inl ⟨by rfl, ?_⟩) (KB.out _ GB.out) ?_
                  · intro w hSw
                    (try dsimp only at hSw)
                    go_simp
                  simp only [Act.put, List.setIfInBounds_toArray, List.set_cons_zero, List.set_cons_succ]
                  refine wpAnyT_take (i := 9) (oi := { dst := some 69, op := Op.extract (Operand.tmp 60) 0, type := 24, pos := "outright.go:69", after := #[{ on := 8, ground := Ground.data }], guard := none }) (v := (.agg #[.int .i64 (nn : Int), .int .i64 (nn : Int), .slice ap lp qp])) rfl (by kernel_rfl) (fun _ _ _ h => h) (Or.inl ⟨by rfl, ?_⟩) (KB.out _ GB.out) ?_
                  · intro w hSw
                    (try dsimp only at hSw)
                    go_simp
                  simp only [Act.put, List.setIfInBounds_toArray, List.set_cons_zero, List.set_cons_succ]
                  refine wpAnyT_take (i := 10) (oi := { dst := some 70, op := Op.extract (Operand.tmp 60) 1, type := 35, pos := "outright.go:69", after := #[{ on := 8, ground := Ground.data }, { on := 12, ground := Ground.gcOnly Departure.lateStores }], guard := none }) (v := (.int .i64 0)) rfl (by kernel_rfl) (fun _ _ _ h => h) (Or.inl ⟨by rfl, ?_⟩) (KB.out _ GB.out) ?_
                  · intro w hSw
                    (try dsimp only at hSw)
                    go_simp
                  simp only [Act.put, List.setIfInBounds_toArray, List.set_cons_zero, List.set_cons_succ]
                  refine wpAnyT_one (i := 11) (o := { dst := some 12, op := Op.alloc 24, type := 0, pos := "outright.go:69", after := #[], guard := none }) (by kernel_rfl) rfl (fun K hK => ?_)
                  replace GZ : Hid (wr.heap.size ≤ w84.heap.size) := GB.out.size
                  go_simp
                  obtain ⟨V85, hW⟩ : ∃ V85, w84.alloc mbox = V85 := ⟨_, rfl⟩
                  obtain ⟨b, sz85⟩ := alo1 w84 mbox
                  rw [hW] at b sz85
                  replace GB := hid (below_step GB.out b)
                  have DB : Hid (Cel V85 w84.heap.size 24 [.int .i64 0, .int .i64 0, .slice none 0 0]) := by unfold Hid; rw [← hW]; exact Cel.new w84 _ _
                  clear sz85
                  have SB := hid (show wr.heap.size ≤ w84.heap.size from GZ.out)
                  replace MP := hid (MP.out.now b)
                  rw [hW]
                  clear hW b
                  refine hK.out _ _ (fun _ => KB.out _ GB.out) ?_
                  clear hK
                  try simp only [Act.put]
                  refine wpAnyT_one (i := 12) (o := { dst := none, op := Op.store 24 (Operand.tmp 12) (Operand.tmp 69), type := 0, pos := "outright.go:69", after := #[{ on := 11, ground := Ground.data }, { on := 9, ground := Ground.data }, { on := 7, ground := Ground.chain }, { on := 0, ground := Ground.phase }, { on := 1, ground := Ground.phase }, { on := 2, ground := Ground.phase }, { on := 3, ground := Ground.phase }, { on := 4, ground := Ground.phase }, { on := 5, ground := Ground.phase }, { on := 6, ground := Ground.phase }, { on := 7, ground := Ground.phase }, { on := 8, ground := Ground.phase }, { on := 9, ground := Ground.phase }, { on := 10, ground := Ground.textOnly Departure.lateStores }, { on := 11, ground := Ground.phase }], guard := none }) (by kernel_rfl) rfl (fun K hK => ?_)
                  have e0 := DB.out.at (i := 0) rfl
                  have e1 := DB.out.at (i := 1) rfl
                  have e2 := DB.out.at (i := 2) rfl
                  have e3 := DB.out.fz 0
                  have e4 := DB.out.fz 1
                  have e5 := DB.out.fz 2
                  go_simp
                  clear e0 e1 e2 e3 e4 e5
                  obtain ⟨V86, hW⟩ : ∃ V86, (((V85.setCell ⟨w84.heap.size, 0, none⟩ (.int .i64 (nn : Int))).setCell ⟨w84.heap.size, 1, none⟩ (.int .i64 (nn : Int))).setCell ⟨w84.heap.size, 2, none⟩ (.slice ap lp qp)) = V86 := ⟨_, rfl⟩
                  have FP : Hid (PkM wr V86 (.pointer (some ⟨w84.heap.size, 0, none⟩)) (.int .i64 0) nn (pickL n n xs L1 L2)) := by
                    unfold Hid; rw [← hW]
                    exact pkm_put DB.out MP.out GB.out SB.out rfl
                  replace GB : Hid (Below wr.heap.size wr V86) := by unfold Hid; rw [← hW]; exact bset (bset (bset GB.out SB.out) SB.out) SB.out
                  rw [hW]
                  clear hW
                  refine hK.out _ _ (fun _ => KB.out _ GB.out) ?_
                  clear hK
                  try simp only [Act.put]
                  refine wpAnyT_one (i := 13) (o := { dst := some 13, op := Op.assign (Operand.tmp 70), type := 35, pos := "outright.go:69", after := #[{ on := 10, ground := Ground.data }, { on := 12, ground := Ground.chain }, { on := 0, ground := Ground.phase }, { on := 1, ground := Ground.phase }, { on := 2, ground := Ground.phase }, { on := 3, ground := Ground.phase }, { on := 4, ground := Ground.phase }, { on := 5, ground := Ground.phase }, { on := 6, ground := Ground.phase }, { on := 7, ground := Ground.phase }, { on := 8, ground := Ground.phase }, { on := 9, ground := Ground.phase }, { on := 10, ground := Ground.phase }, { on := 11, ground := Ground.phase }, { on := 12, ground := Ground.phase }], guard := none }) (by kernel_rfl) rfl (fun K hK => ?_)
                  go_simp
                  refine hK.out _ _ (fun h => absurd h (by decide)) ?_
                  clear hK
                  try simp only [Act.put]
                  refine wpAnyT_done (by kernel_rfl) ?_ _
                  clear DB SB MP GB GZ
                  go_wp2_with fail
                  go_meet
                  exact FP.out
                · skip
                  replace GZ : Hid (wr.heap.size ≤ w83.heap.size) := GB.out.size
                  go_simp
                  obtain ⟨V87, hW⟩ : ∃ V87, w83.alloc mbox = V87 := ⟨_, rfl⟩
                  obtain ⟨b, sz87⟩ := alo1 w83 mbox
                  rw [hW] at b sz87
                  replace GB := hid (below_step GB.out b)
                  have DB : Hid (Cel V87 w83.heap.size 24 [.int .i64 0, .int .i64 0, .slice none 0 0]) := by unfold Hid; rw [← hW]; exact Cel.new w83 _ _
                  clear sz87
                  have SB := hid (show wr.heap.size ≤ w83.heap.size from GZ.out)
                  replace U1 := hid (U1.out.now b)
                  replace U2 := hid (U2.out.now b)
                  rw [hW]
                  clear hW b
                  refine hK.out _ _ (fun _ => KB.out _ GB.out) ?_
                  clear hK
                  try simp only [Act.put]
                  refine wpAnyT_one (i := 7) (o := { dst := some 68, op := Op.call { callee := Callee.value (Operand.func 14), args := #[Operand.tmp 61, Operand.tmp 64, Operand.tmp 67], argTypes := #[24, 38, 38] }, type := 36, pos := "outright.go:69", after := #[{ on := 0, ground := Ground.data }, { on := 3, ground := Ground.data }, { on := 6, ground := Ground.data }, { on := 6, ground := Ground.chain }], guard := none }) (by kernel_rfl) rfl (fun K hK => ?_)
                  replace GZ : Hid (wr.heap.size ≤ V87.heap.size) := GB.out.size
                  go_simp
                  go_at_call 14
                  refine (pick_yes (MA1.out.now GB.out) (U1.out.in9 (by rw [HW1.out]; omega)) (U2.out.in9 (by rw [HW2.out]; omega)) HB1.out HB2.out (by rw [HW1.out]; omega) (by rw [HW2.out]; omega)).mono ?_
                  rintro e w88 ⟨vp, rfl, mp, b⟩
                  have lz88 := (show Below _ _ _ from b).size
                  replace GB := hid (below_step GB.out b)
                  rw [HW1.out, HW2.out] at mp
                  obtain ⟨ap, qp, hvp, -, -⟩ := mp.mx.form
                  obtain ⟨lp, hlp⟩ : ∃ lp, nn * nn = lp := ⟨_, rfl⟩
                  rw [hlp] at hvp
                  subst hvp
                  have MP := hid mp.mx
                  clear mp U1 U2 hlp
                  replace DB := hid (DB.out.step b)
                  clear b
                  refine hK.out _ _ (fun _ => KB.out _ GB.out) ?_
                  clear hK
                  refine wpAnyT_take (i := 8) (oi := { dst := some 60, op := Op.move (Operand.tmp 68), type := 36, pos := "outright.go:69", after := #[{ on := 7, ground := Ground.data }], guard := none }) (v := (.tuple #[(.agg #[.int .i64 (nn : Int), .int .i64 (nn : Int), .slice ap lp qp]), (.int .i64 0)])) rfl (by kernel_rfl) (fun _ _ _ h => h) (Or.inl ⟨by rfl, ?_⟩) (KB.out _ GB.out) ?_
                  · intro w hSw
                    (try dsimp only at hSw)
                    go_simp
                  simp only [Act.put, List.setIfInBounds_toArray, List.set_cons_zero, List.set_cons_succ]
                  refine wpAnyT_take (i := 9) (oi := { dst := some 69, op := Op.extract (Operand.tmp 60) 0, type := 24, pos := "outright.go:69", after := #[{ on := 8, ground := Ground.data }], guard := none }) (v := (.agg #[.int .i64 (nn : Int), .int .i64 (nn : Int), .slice ap lp qp])) rfl (by kernel_rfl) (fun _ _ _ h => h) (Or.inl ⟨by rfl, ?_⟩) (KB.out _ GB.out) ?_
                  · intro w hSw
                    (try dsimp only at hSw)
                    go_simp
                  simp only [Act.put, List.setIfInBounds_toArray, List.set_cons_zero, List.set_cons_succ]
                  refine wpAnyT_take (i := 10) (oi := { dst := some 70, op := Op.extract (Operand.tmp 60) 1, type := 35, pos := "outright.go:69", after := #[{ on := 8, ground := Ground.data }, { on := 12, ground := Ground.gcOnly Departure.lateStores }], guard := none }) (v := (.int .i64 0)) rfl (by kernel_rfl) (fun _ _ _ h => h) (Or.inl ⟨by rfl, ?_⟩) (KB.out _ GB.out) ?_
                  · intro w hSw
                    (try dsimp only at hSw)
                    go_simp
                  simp only [Act.put, List.setIfInBounds_toArray, List.set_cons_zero, List.set_cons_succ]
                  refine wpAnyT_one (i := 12) (o := { dst := none, op := Op.store 24 (Operand.tmp 12) (Operand.tmp 69), type := 0, pos := "outright.go:69", after := #[{ on := 11, ground := Ground.data }, { on := 9, ground := Ground.data }, { on := 7, ground := Ground.chain }, { on := 0, ground := Ground.phase }, { on := 1, ground := Ground.phase }, { on := 2, ground := Ground.phase }, { on := 3, ground := Ground.phase }, { on := 4, ground := Ground.phase }, { on := 5, ground := Ground.phase }, { on := 6, ground := Ground.phase }, { on := 7, ground := Ground.phase }, { on := 8, ground := Ground.phase }, { on := 9, ground := Ground.phase }, { on := 10, ground := Ground.textOnly Departure.lateStores }, { on := 11, ground := Ground.phase }], guard := none }) (by kernel_rfl) rfl (fun K hK => ?_)
                  have e0 := DB.out.at (i := 0) rfl
                  have e1 := DB.out.at (i := 1) rfl
                  have e2 := DB.out.at (i := 2) rfl
                  have e3 := DB.out.fz 0
                  have e4 := DB.out.fz 1
                  have e5 := DB.out.fz 2
                  go_simp
                  clear e0 e1 e2 e3 e4 e5
                  obtain ⟨V89, hW⟩ : ∃ V89, (((w88.setCell ⟨w83.heap.size, 0, none⟩ (.int .i64 (nn : Int))).setCell ⟨w83.heap.size, 1, none⟩ (.int .i64 (nn : Int))).setCell ⟨w83.heap.size, 2, none⟩ (.slice ap lp qp)) = V89 := ⟨_, rfl⟩
                  have FP : Hid (PkM wr V89 (.pointer (some ⟨w83.heap.size, 0, none⟩)) (.int .i64 0) nn (pickL n n xs L1 L2)) := by
                    unfold Hid; rw [← hW]
                    exact pkm_put DB.out MP.out GB.out SB.out rfl
                  replace GB : Hid (Below wr.heap.size wr V89) := by unfold Hid; rw [← hW]; exact bset (bset (bset GB.out SB.out) SB.out) SB.out
                  rw [hW]
                  clear hW
                  refine hK.out _ _ (fun _ => KB.out _ GB.out) ?_
                  clear hK
                  try simp only [Act.put]
                  refine wpAnyT_one (i := 13) (o := { dst := some 13, op := Op.assign (Operand.tmp 70), type := 35, pos := "outright.go:69", after := #[{ on := 10, ground := Ground.data }, { on := 12, ground := Ground.chain }, { on := 0, ground := Ground.phase }, { on := 1, ground := Ground.phase }, { on := 2, ground := Ground.phase }, { on := 3, ground := Ground.phase }, { on := 4, ground := Ground.phase }, { on := 5, ground := Ground.phase }, { on := 6, ground := Ground.phase }, { on := 7, ground := Ground.phase }, { on := 8, ground := Ground.phase }, { on := 9, ground := Ground.phase }, { on := 10, ground := Ground.phase }, { on := 11, ground := Ground.phase }, { on := 12, ground := Ground.phase }], guard := none }) (by kernel_rfl) rfl (fun K hK => ?_)
                  go_simp
                  refine hK.out _ _ (fun h => absurd h (by decide)) ?_
                  clear hK
                  try simp only [Act.put]
                  refine wpAnyT_done (by kernel_rfl) ?_ _
                  clear DB SB MP GB GZ
                  go_wp2_with fail
                  go_meet
                  exact FP.out
              · skip
                replace GZ : Hid (wr.heap.size ≤ w82.heap.size) := GB.out.size
                go_simp
                obtain ⟨V90, hW⟩ : ∃ V90, w82.alloc mbox = V90 := ⟨_, rfl⟩
                obtain ⟨b, sz90⟩ := alo1 w82 mbox
                rw [hW] at b sz90
                replace GB := hid (below_step GB.out b)
                have DB : Hid (Cel V90 w82.heap.size 24 [.int .i64 0, .int .i64 0, .slice none 0 0]) := by unfold Hid; rw [← hW]; exact Cel.new w82 _ _
                clear sz90
                have SB := hid (show wr.heap.size ≤ w82.heap.size from GZ.out)
                replace U1 := hid (U1.out.now b)
                rw [hW]
                clear hW b
                refine hK.out _ _ (fun _ => KB.out _ GB.out) ?_
                clear hK
                try simp only [Act.put]
                refine wpAnyT_one (i := 6) (o := { dst := some 67, op := Op.call { callee := Callee.value (Operand.func 15), args := #[Operand.tmp 65, Operand.tmp 66], argTypes := #[3, 3] }, type := 38, pos := "outright.go:69", after := #[{ on := 4, ground := Ground.data }, { on := 5, ground := Ground.data }, { on := 3, ground := Ground.chain }], guard := none }) (by kernel_rfl) rfl (fun K hK => ?_)
                replace GZ : Hid (wr.heap.size ≤ V90.heap.size) := GB.out.size
                go_simp
                go_at_call 15
                refine (HWB.out _).mono ?_
                rintro e w91 ⟨v1, rfl, u1, b⟩
                have lz91 := (show Below _ _ _ from b).size
                replace GB := hid (below_step GB.out b)
                obtain ⟨au2, cu2, hv, -, -⟩ := u1.form
                rw [HW2.out] at hv
                subst hv
                have U2 := hid u1
                clear u1
                replace U1 := hid (U1.out.now b)
                replace DB := hid (DB.out.step b)
                clear b
                refine hK.out _ _ (fun _ => KB.out _ GB.out) ?_
                clear hK
                refine wpAnyT_one (i := 7) (o := { dst := some 68, op := Op.call { callee := Callee.value (Operand.func 14), args := #[Operand.tmp 61, Operand.tmp 64, Operand.tmp 67], argTypes := #[24, 38, 38] }, type := 36, pos := "outright.go:69", after := #[{ on := 0, ground := Ground.data }, { on := 3, ground := Ground.data }, { on := 6, ground := Ground.data }, { on := 6, ground := Ground.chain }], guard := none }) (by kernel_rfl) rfl (fun K hK => ?_)
                replace GZ : Hid (wr.heap.size ≤ w91.heap.size) := GB.out.size
                go_simp
                go_at_call 14
                refine (pick_yes (MA1.out.now GB.out) (U1.out.in9 (by rw [HW1.out]; omega)) (U2.out.in9 (by rw [HW2.out]; omega)) HB1.out HB2.out (by rw [HW1.out]; omega) (by rw [HW2.out]; omega)).mono ?_
                rintro e w92 ⟨vp, rfl, mp, b⟩
                have lz92 := (show Below _ _ _ from b).size
                replace GB := hid (below_step GB.out b)
                rw [HW1.out, HW2.out] at mp
                obtain ⟨ap, qp, hvp, -, -⟩ := mp.mx.form
                obtain ⟨lp, hlp⟩ : ∃ lp, nn * nn = lp := ⟨_, rfl⟩
                rw [hlp] at hvp
                subst hvp
                have MP := hid mp.mx
                clear mp U1 U2 hlp
                replace DB := hid (DB.out.step b)
                clear b
                refine hK.out _ _ (fun _ => KB.out _ GB.out) ?_
                clear hK
                refine wpAnyT_take (i := 8) (oi := { dst := some 60, op := Op.move (Operand.tmp 68), type := 36, pos := "outright.go:69", after := #[{ on := 7, ground := Ground.data }], guard := none }) (v := (.tuple #[(.agg #[.int .i64 (nn : Int), .int .i64 (nn : Int), .slice ap lp qp]), (.int .i64 0)])) rfl (by kernel_rfl) (fun _ _ _ h => h) (Or.inl ⟨by rfl, ?_⟩) (KB.out _ GB.out) ?_
                · intro w hSw
                  (try dsimp only at hSw)
                  go_simp
                simp only [Act.put, List.setIfInBounds_toArray, List.set_cons_zero, List.set_cons_succ]
                refine wpAnyT_take (i := 9) (oi := { dst := some 69, op := Op.extract (Operand.tmp 60) 0, type := 24, pos := "outright.go:69", after := #[{ on := 8, ground := Ground.data }], guard := none }) (v := (.agg #[.int .i64 (nn : Int), .int .i64 (nn : Int), .slice ap lp qp])) rfl (by kernel_rfl) (fun _ _ _ h => h) (Or.inl ⟨by rfl, ?_⟩) (KB.out _ GB.out) ?_
                · intro w hSw
                  (try dsimp only at hSw)
                  go_simp
                simp only [Act.put, List.setIfInBounds_toArray, List.set_cons_zero, List.set_cons_succ]
                refine wpAnyT_take (i := 10) (oi := { dst := some 70, op := Op.extract (Operand.tmp 60) 1, type := 35, pos := "outright.go:69", after := #[{ on := 8, ground := Ground.data }, { on := 12, ground := Ground.gcOnly Departure.lateStores }], guard := none }) (v := (.int .i64 0)) rfl (by kernel_rfl) (fun _ _ _ h => h) (Or.inl ⟨by rfl, ?_⟩) (KB.out _ GB.out) ?_
                · intro w hSw
                  (try dsimp only at hSw)
                  go_simp
                simp only [Act.put, List.setIfInBounds_toArray, List.set_cons_zero, List.set_cons_succ]
                refine wpAnyT_one (i := 12) (o := { dst := none, op := Op.store 24 (Operand.tmp 12) (Operand.tmp 69), type := 0, pos := "outright.go:69", after := #[{ on := 11, ground := Ground.data }, { on := 9, ground := Ground.data }, { on := 7, ground := Ground.chain }, { on := 0, ground := Ground.phase }, { on := 1, ground := Ground.phase }, { on := 2, ground := Ground.phase }, { on := 3, ground := Ground.phase }, { on := 4, ground := Ground.phase }, { on := 5, ground := Ground.phase }, { on := 6, ground := Ground.phase }, { on := 7, ground := Ground.phase }, { on := 8, ground := Ground.phase }, { on := 9, ground := Ground.phase }, { on := 10, ground := Ground.textOnly Departure.lateStores }, { on := 11, ground := Ground.phase }], guard := none }) (by kernel_rfl) rfl (fun K hK => ?_)
                have e0 := DB.out.at (i := 0) rfl
                have e1 := DB.out.at (i := 1) rfl
                have e2 := DB.out.at (i := 2) rfl
                have e3 := DB.out.fz 0
                have e4 := DB.out.fz 1
                have e5 := DB.out.fz 2
                go_simp
                clear e0 e1 e2 e3 e4 e5
                obtain ⟨V93, hW⟩ : ∃ V93, (((w92.setCell ⟨w82.heap.size, 0, none⟩ (.int .i64 (nn : Int))).setCell ⟨w82.heap.size, 1, none⟩ (.int .i64 (nn : Int))).setCell ⟨w82.heap.size, 2, none⟩ (.slice ap lp qp)) = V93 := ⟨_, rfl⟩
                have FP : Hid (PkM wr V93 (.pointer (some ⟨w82.heap.size, 0, none⟩)) (.int .i64 0) nn (pickL n n xs L1 L2)) := by
                  unfold Hid; rw [← hW]
                  exact pkm_put DB.out MP.out GB.out SB.out rfl
                replace GB : Hid (Below wr.heap.size wr V93) := by unfold Hid; rw [← hW]; exact bset (bset (bset GB.out SB.out) SB.out) SB.out
                rw [hW]
                clear hW
                refine hK.out _ _ (fun _ => KB.out _ GB.out) ?_
                clear hK
                try simp only [Act.put]
                refine wpAnyT_one (i := 13) (o := { dst := some 13, op := Op.assign (Operand.tmp 70), type := 35, pos := "outright.go:69", after := #[{ on := 10, ground := Ground.data }, { on := 12, ground := Ground.chain }, { on := 0, ground := Ground.phase }, { on := 1, ground := Ground.phase }, { on := 2, ground := Ground.phase }, { on := 3, ground := Ground.phase }, { on := 4, ground := Ground.phase }, { on := 5, ground := Ground.phase }, { on := 6, ground := Ground.phase }, { on := 7, ground := Ground.phase }, { on := 8, ground := Ground.phase }, { on := 9, ground := Ground.phase }, { on := 10, ground := Ground.phase }, { on := 11, ground := Ground.phase }, { on := 12, ground := Ground.phase }], guard := none }) (by kernel_rfl) rfl (fun K hK => ?_)
                go_simp
                refine hK.out _ _ (fun h => absurd h (by decide)) ?_
                clear hK
                try simp only [Act.put]
                refine wpAnyT_done (by kernel_rfl) ?_ _
                clear DB SB MP GB GZ
                go_wp2_with fail
                go_meet
                exact FP.out
            · skip
              replace GZ : Hid (wr.heap.size ≤ D81.heap.size) := GB.out.size
              go_simp
              obtain ⟨V94, hW⟩ : ∃ V94, D81.alloc mbox = V94 := ⟨_, rfl⟩
              obtain ⟨b, sz94⟩ := alo1 D81 mbox
              rw [hW] at b sz94
              replace GB := hid (below_step GB.out b)
              have DB : Hid (Cel V94 D81.heap.size 24 [.int .i64 0, .int .i64 0, .slice none 0 0]) := by unfold Hid; rw [← hW]; exact Cel.new D81 _ _
              clear sz94
              have SB := hid (show wr.heap.size ≤ D81.heap.size from GZ.out)
              rw [hW]
              clear hW b
              refine hK.out _ _ (fun _ => KB.out _ GB.out) ?_
              clear hK
              try simp only [Act.put]
              refine wpAnyT_one (i := 3) (o := { dst := some 64, op := Op.call { callee := Callee.value (Operand.func 15), args := #[Operand.tmp 62, Operand.tmp 63], argTypes := #[3, 3] }, type := 38, pos := "outright.go:69", after := #[{ on := 1, ground := Ground.data }, { on := 2, ground := Ground.data }], guard := none }) (by kernel_rfl) rfl (fun K hK => ?_)
              replace GZ : Hid (wr.heap.size ≤ V94.heap.size) := GB.out.size
              go_simp
              go_at_call 15
              refine (HWA.out _).mono ?_
              rintro e w95 ⟨v1, rfl, u1, b⟩
              have lz95 := (show Below _ _ _ from b).size
              replace GB := hid (below_step GB.out b)
              obtain ⟨au1, cu1, hv, -, -⟩ := u1.form
              rw [HW1.out] at hv
              subst hv
              have U1 := hid u1
              clear u1
              replace DB := hid (DB.out.step b)
              clear b
              refine hK.out _ _ (fun _ => KB.out _ GB.out) ?_
              clear hK
              refine wpAnyT_one (i := 6) (o := { dst := some 67, op := Op.call { callee := Callee.value (Operand.func 15), args := #[Operand.tmp 65, Operand.tmp 66], argTypes := #[3, 3] }, type := 38, pos := "outright.go:69", after := #[{ on := 4, ground := Ground.data }, { on := 5, ground := Ground.data }, { on := 3, ground := Ground.chain }], guard := none }) (by kernel_rfl) rfl (fun K hK => ?_)
              replace GZ : Hid (wr.heap.size ≤ w95.heap.size) := GB.out.size
              go_simp
              go_at_call 15
              refine (HWB.out _).mono ?_
              rintro e w96 ⟨v1, rfl, u1, b⟩
              have lz96 := (show Below _ _ _ from b).size
              replace GB := hid (below_step GB.out b)
              obtain ⟨au2, cu2, hv, -, -⟩ := u1.form
              rw [HW2.out] at hv
              subst hv
              have U2 := hid u1
              clear u1
              replace U1 := hid (U1.out.now b)
              replace DB := hid (DB.out.step b)
              clear b
              refine hK.out _ _ (fun _ => KB.out _ GB.out) ?_
              clear hK
              refine wpAnyT_one (i := 7) (o := { dst := some 68, op := Op.call { callee := Callee.value (Operand.func 14), args := #[Operand.tmp 61, Operand.tmp 64, Operand.tmp 67], argTypes := #[24, 38, 38] }, type := 36, pos := "outright.go:69", after := #[{ on := 0, ground := Ground.data }, { on := 3, ground := Ground.data }, { on := 6, ground := Ground.data }, { on := 6, ground := Ground.chain }], guard := none }) (by kernel_rfl) rfl (fun K hK => ?_)
              replace GZ : Hid (wr.heap.size ≤ w96.heap.size) := GB.out.size
              go_simp
              go_at_call 14
              refine (pick_yes (MA1.out.now GB.out) (U1.out.in9 (by rw [HW1.out]; omega)) (U2.out.in9 (by rw [HW2.out]; omega)) HB1.out HB2.out (by rw [HW1.out]; omega) (by rw [HW2.out]; omega)).mono ?_
              rintro e w97 ⟨vp, rfl, mp, b⟩
              have lz97 := (show Below _ _ _ from b).size
              replace GB := hid (below_step GB.out b)
              rw [HW1.out, HW2.out] at mp
              obtain ⟨ap, qp, hvp, -, -⟩ := mp.mx.form
              obtain ⟨lp, hlp⟩ : ∃ lp, nn * nn = lp := ⟨_, rfl⟩
              rw [hlp] at hvp
              subst hvp
              have MP := hid mp.mx
              clear mp U1 U2 hlp
              replace DB := hid (DB.out.step b)
              clear b
              refine hK.out _ _ (fun _ => KB.out _ GB.out) ?_
              clear hK
              refine wpAnyT_take (i := 8) (oi := { dst := some 60, op := Op.move (Operand.tmp 68), type := 36, pos := "outright.go:69", after := #[{ on := 7, ground := Ground.data }], guard := none }) (v := (.tuple #[(.agg #[.int .i64 (nn : Int), .int .i64 (nn : Int), .slice ap lp qp]), (.int .i64 0)])) rfl (by kernel_rfl) (fun _ _ _ h => h) (Or.inl ⟨by rfl, ?_⟩) (KB.out _ GB.out) ?_
              · intro w hSw
                (try dsimp only at hSw)
                go_simp
              simp only [Act.put, List.setIfInBounds_toArray, List.set_cons_zero, List.set_cons_succ]
              refine wpAnyT_take (i := 9) (oi := { dst := some 69, op := Op.extract (Operand.tmp 60) 0, type := 24, pos := "outright.go:69", after := #[{ on := 8, ground := Ground.data }], guard := none }) (v := (.agg #[.int .i64 (nn : Int), .int .i64 (nn : Int), .slice ap lp qp])) rfl (by kernel_rfl) (fun _ _ _ h => h) (Or.inl ⟨by rfl, ?_⟩) (KB.out _ GB.out) ?_
              · intro w hSw
                (try dsimp only at hSw)
                go_simp
              simp only [Act.put, List.setIfInBounds_toArray, List.set_cons_zero, List.set_cons_succ]
              refine wpAnyT_take (i := 10) (oi := { dst := some 70, op := Op.extract (Operand.tmp 60) 1, type := 35, pos := "outright.go:69", after := #[{ on := 8, ground := Ground.data }, { on := 12, ground := Ground.gcOnly Departure.lateStores }], guard := none }) (v := (.int .i64 0)) rfl (by kernel_rfl) (fun _ _ _ h => h) (Or.inl ⟨by rfl, ?_⟩) (KB.out _ GB.out) ?_
              · intro w hSw
                (try dsimp only at hSw)
                go_simp
              simp only [Act.put, List.setIfInBounds_toArray, List.set_cons_zero, List.set_cons_succ]
              refine wpAnyT_one (i := 12) (o := { dst := none, op := Op.store 24 (Operand.tmp 12) (Operand.tmp 69), type := 0, pos := "outright.go:69", after := #[{ on := 11, ground := Ground.data }, { on := 9, ground := Ground.data }, { on := 7, ground := Ground.chain }, { on := 0, ground := Ground.phase }, { on := 1, ground := Ground.phase }, { on := 2, ground := Ground.phase }, { on := 3, ground := Ground.phase }, { on := 4, ground := Ground.phase }, { on := 5, ground := Ground.phase }, { on := 6, ground := Ground.phase }, { on := 7, ground := Ground.phase }, { on := 8, ground := Ground.phase }, { on := 9, ground := Ground.phase }, { on := 10, ground := Ground.textOnly Departure.lateStores }, { on := 11, ground := Ground.phase }], guard := none }) (by kernel_rfl) rfl (fun K hK => ?_)
              have e0 := DB.out.at (i := 0) rfl
              have e1 := DB.out.at (i := 1) rfl
              have e2 := DB.out.at (i := 2) rfl
              have e3 := DB.out.fz 0
              have e4 := DB.out.fz 1
              have e5 := DB.out.fz 2
              go_simp
              clear e0 e1 e2 e3 e4 e5
              obtain ⟨V98, hW⟩ : ∃ V98, (((w97.setCell ⟨D81.heap.size, 0, none⟩ (.int .i64 (nn : Int))).setCell ⟨D81.heap.size, 1, none⟩ (.int .i64 (nn : Int))).setCell ⟨D81.heap.size, 2, none⟩ (.slice ap lp qp)) = V98 := ⟨_, rfl⟩
              have FP : Hid (PkM wr V98 (.pointer (some ⟨D81.heap.size, 0, none⟩)) (.int .i64 0) nn (pickL n n xs L1 L2)) := by
                unfold Hid; rw [← hW]
                exact pkm_put DB.out MP.out GB.out SB.out rfl
              replace GB : Hid (Below wr.heap.size wr V98) := by unfold Hid; rw [← hW]; exact bset (bset (bset GB.out SB.out) SB.out) SB.out
              rw [hW]
              clear hW
              refine hK.out _ _ (fun _ => KB.out _ GB.out) ?_
              clear hK
              try simp only [Act.put]
              refine wpAnyT_one (i := 13) (o := { dst := some 13, op := Op.assign (Operand.tmp 70), type := 35, pos := "outright.go:69", after := #[{ on := 10, ground := Ground.data }, { on := 12, ground := Ground.chain }, { on := 0, ground := Ground.phase }, { on := 1, ground := Ground.phase }, { on := 2, ground := Ground.phase }, { on := 3, ground := Ground.phase }, { on := 4, ground := Ground.phase }, { on := 5, ground := Ground.phase }, { on := 6, ground := Ground.phase }, { on := 7, ground := Ground.phase }, { on := 8, ground := Ground.phase }, { on := 9, ground := Ground.phase }, { on := 10, ground := Ground.phase }, { on := 11, ground := Ground.phase }, { on := 12, ground := Ground.phase }], guard := none }) (by kernel_rfl) rfl (fun K hK => ?_)
              go_simp
              refine hK.out _ _ (fun h => absurd h (by decide)) ?_
              clear hK
              try simp only [Act.put]
              refine wpAnyT_done (by kernel_rfl) ?_ _
              clear DB SB MP GB GZ
              go_wp2_with fail
              go_meet
              exact FP.out
          case rest =>
          rename World => Wc
          obtain ⟨bk, ap, lp, qp, rfl, rfl, b, hbk, dp, mp⟩ := hcut
          have DSc := hid (DS.out.step b)
          have ZSc := hid (ZS.out.now b)
          have BWc := hid (below_step BW.out b)
          have PAc := hid (PA1.out.step b)
          have MAc := hid (MA1.out.now b)
          have PP := hid dp
          have HLD := hid (ldet_sq mp (by decide))
          have EPD : Hid (det nn (en nn (pickL n n xs ((List.range n).filter fun t => t != row) ((List.range n).filter fun t => t != j))) = det nn fun a b => en n xs (skd row a) (skd j b)) := by
            unfold Hid
            have hrn := HRN.out
            have e := HNN.out
            subst e
            exact part_det (by omega) (by omega)
          rw [EPD.out] at HLD
          clear b dp mp EPD DS ZS BW PA1 MA1
          have hpl : row * n + j < n * n := by
            have := HRN.out
            have h2 := Nat.mul_le_mul_right n (show row + 1 ≤ n from this)
            rw [Nat.succ_mul] at h2
            omega
          have hwm : IntKind.i64.wrap ((row : Int) * (n : Int)) = ((row * n : Nat) : Int) := by
            have h2 : row * n ≤ 64 * 64 := Nat.mul_le_mul (by have := HRN.out; omega) hn64
            have h3 : ((row * n : Nat) : Int) = (row : Int) * (n : Int) := by simp
            rw [← h3, wrap_is] <;> omega
          obtain ⟨rn, hrn⟩ : ∃ rn, row * n = rn := ⟨_, rfl⟩
          rw [hrn] at hwm hpl
          have hrn64 : rn ≤ 4096 := by
            have h2 : row * n ≤ 64 * 64 := Nat.mul_le_mul (by have := HRN.out; omega) hn64
            omega
          have hwp : IntKind.i64.wrap ((rn : Int) + (j : Int)) = ((rn + j : Nat) : Int) := by rw [wrap_is] <;> omega
          have ERN : Hid (row * n = rn) := hrn
          obtain ⟨pp, hpp⟩ : ∃ pp, rn + j = pp := ⟨_, rfl⟩
          rw [hpp] at hwp hpl
          obtain ⟨ba, off, nx, ax, lx, cx, haa, hpla, x0, x1, zx⟩ := MAc.out.ent13 hpl
          have ZX : Hid (Zi Wc (.agg #[.bool nx, .slice ax lx cx]) (en n xs row j) 1048576) := by
            unfold Hid en
            rw [ERN.out, hpp]
            exact zx
          have hpli : (pp : Int) < (la : Int) := by omega
          subst haa
          have X0 := hid x0
          have X1 := hid x1
          have HWM := hid hwm
          have HWP := hid hwp
          clear zx hpp hrn hpl x0 x1 MAc hwm hwp
          have cP0 := PP.out.at (i := 0) rfl
          have cP1 := PP.out.at (i := 1) rfl
          have cP2 := PP.out.at (i := 2) rfl
          go_wp2_with fail
          clear cP0 cP1 cP2
          refine HLD.out.mono ?_
          rintro e w20 ⟨ne, ae, le, ce, rfl, m, b⟩
          obtain ⟨V2, hV2⟩ : ∃ V2, w20.alloc (duo (.bool ne) (.slice ae le ce)) = V2 := ⟨_, rfl⟩
          obtain ⟨b2, sz2⟩ := alo1 w20 (duo (.bool ne) (.slice ae le ce))
          rw [hV2] at b2 sz2
          have DE : Hid (Duo V2 w20.heap.size (.bool ne) (.slice ae le ce)) := by unfold Hid; rw [← hV2]; exact Duo.new w20 _ _
          have ZE := hid ((m.mono (Nat.zero_le _)).now b2)
          have lz2 := b.size
          have BV := hid (below_step b b2)
          have EV := hid hV2
          obtain ⟨pd, hpd⟩ : ∃ pd, det nn (fun a b => en n xs (skd row a) (skd j b)) = pd := ⟨_, rfl⟩
          rw [hpd] at ZE
          have EPD := hid hpd
          clear hpd m b b2 sz2 hV2 HLD PP
          have hws : IntKind.i64.wrap ((row : Int) + (j : Int)) = ((row + j : Nat) : Int) := by rw [wrap_is] <;> (have := HRN.out; omega)
          have EXT : Hid (∀ z : Int, z = (if (row + j) % 2 = 1 then -pd else pd) → en n xs row j * z + su j (exT (en n xs) nn row) = su (j + 1) (exT (en n xs) nn row)) := by
            intro z hz
            show _ = su j _ + exT (en n xs) nn row j
            unfold exT
            rw [EPD.out, sgd_par, hz]
            by_cases q : (row + j) % 2 = 1
            · rw [if_pos q, if_pos q]; grind
            · rw [if_neg q, if_neg q]; grind
          by_cases hodd : (row + j) % 2 = 1
          · have HOD := hid hodd
            have hm1 : ((row + j : Nat) : Int) % 2 = 1 := by omega
            have hm2 : ((row + j : Nat) : Int).tmod 2 = 1 := by rw [Int.tmod_eq_emod_of_nonneg (by omega)]; exact hm1
            have HNG := hid (neg_z ZE.out.zi)
            have y0 := DE.out.c0
            have y1 := DE.out.c1
            rw [← EV.out] at y0 y1
            clear hodd
            generalize hrj : (row + j : Nat) = rj at hws hm1 hm2
            have HRJ := hid hrj
            clear hrj
            go_wp2_with fail
            rw [EV.out]
            clear EV y0 y1 hm1 hm2 hws
            refine HNG.out.mono ?_
            rintro e w30 ⟨rf, rfl, m, b⟩
            obtain ⟨nf, xf, af, cf, rfl⟩ := m.parts
            obtain ⟨lf, hlf⟩ : ∃ lf, xf.length = lf := ⟨_, rfl⟩
            rw [hlf] at m ⊢
            have DE3 := hid (DE.out.step b)
            have y0 := DE3.out.c0
            have y1 := DE3.out.c1
            have f0 := DE3.out.fz 0
            have f1 := DE3.out.fz 1
            obtain ⟨V3, hV3⟩ : ∃ V3, (w30.setCell ⟨w20.heap.size, 0, none⟩ (.bool nf)).setCell ⟨w20.heap.size, 1, none⟩ (.slice af lf cf) = V3 := ⟨_, rfl⟩
            have ty3 := DE3.out.ty13 (.bool nf) (.slice af lf cf)
            rw [hV3] at ty3
            have DF : Hid (Duo V3 w20.heap.size (.bool nf) (.slice af lf cf)) := by unfold Hid; rw [← hV3]; exact DE3.out.set _ _
            have ZF := hid ((m.mono (Nat.zero_le _)).ty ty3 (by decide))
            have BV3 : Hid (Below Wc.heap.size Wc V3) := by unfold Hid; rw [← hV3]; exact bset (bset (below_step BV.out b) lz2) lz2
            have i5 := DF.out.c0
            have i6 := DF.out.c1
            have DS := hid (DSc.out.step BV3.out)
            have ZS := hid (ZSc.out.now BV3.out)
            have BW := hid (below_step BWc.out BV3.out)
            have ZX2 := hid (ZX.out.now BV3.out)
            have i2 := (PAc.out.step BV3.out).at (i := 2) rfl
            have i3 := cnow BV3.out X0.out
            have i4 := cnow BV3.out X1.out
            have i7 := DS.out.c0
            have i8 := DS.out.c1
            have hwm := HWM.out
            have hwp := HWP.out
            have EV := hid hV3
            clear hV3 ty3 m b HNG DE3 DE
            go_upto_region 20 with fail
            rw [EV.out]
            clear EV y0 y1 f0 f1
            have KB : Hid (∀ w', Below V3.heap.size V3 w' → w'.cell? ⟨w.heap.size, 2, none⟩ = some (.slice (some ⟨ba, off, none⟩) la qa) ∧ w'.cell? ⟨ba, off + pp * 2, none⟩ = some (.bool nx) ∧ w'.cell? ⟨ba, off + pp * 2 + 1, none⟩ = some (.slice ax lx cx) ∧ w'.cell? ⟨w20.heap.size, 0, none⟩ = some (.bool nf) ∧ w'.cell? ⟨w20.heap.size, 1, none⟩ = some (.slice af lf cf) ∧ w'.cell? ⟨bs, 0, none⟩ = some (.bool ns) ∧ w'.cell? ⟨bs, 1, none⟩ = some (.slice as_ ls cs)) := fun w' h => ⟨cnow h i2, cnow h i3, cnow h i4, cnow h i5, cnow h i6, cnow h i7, cnow h i8⟩
            refine wp_region_tail (fun w' => w'.cell? ⟨w.heap.size, 2, none⟩ = some (.slice (some ⟨ba, off, none⟩) la qa) ∧ w'.cell? ⟨ba, off + pp * 2, none⟩ = some (.bool nx) ∧ w'.cell? ⟨ba, off + pp * 2 + 1, none⟩ = some (.slice ax lx cx) ∧ w'.cell? ⟨w20.heap.size, 0, none⟩ = some (.bool nf) ∧ w'.cell? ⟨w20.heap.size, 1, none⟩ = some (.slice af lf cf) ∧ w'.cell? ⟨bs, 0, none⟩ = some (.bool ns) ∧ w'.cell? ⟨bs, 1, none⟩ = some (.slice as_ ls cs)) 12 (by kernel_rfl) ?_
            obtain ⟨D141, hD⟩ : ∃ D141, V3.drew = D141 := ⟨_, rfl⟩
            have GB : Hid (Below V3.heap.size V3 D141) := by unfold Hid; rw [← hD]; exact (Below.refl _ _).drew
            rw [hD]
            clear hD
            refine wpAnyT_take (i := 0) (oi := { dst := some 85, op := Op.fieldAddr 24 (Operand.tmp 2) 2, type := 0, pos := "outright.go:77", after := #[], guard := none }) (v := (.pointer (some ⟨w.heap.size, 2, none⟩))) rfl (by kernel_rfl) (fun _ _ _ h => h) (Or.inl ⟨by rfl, ?_⟩) (KB.out _ GB.out) ?_
            · intro w hSw
              (try dsimp only at hSw)
              go_simp
            simp only [Act.put, List.setIfInBounds_toArray, List.set_cons_zero, List.set_cons_succ]
            refine wpAnyT_take (i := 1) (oi := { dst := some 86, op := Op.load 22 (Operand.tmp 85), type := 22, pos := "outright.go:77", after := #[{ on := 0, ground := Ground.data }], guard := none }) (v := (.slice (some ⟨ba, off, none⟩) la qa)) rfl (by kernel_rfl) (fun _ _ _ h => h) (Or.inl ⟨by rfl, ?_⟩) (KB.out _ GB.out) ?_
            · intro w hSw
              (try dsimp only at hSw)
              go_simp
            simp only [Act.put, List.setIfInBounds_toArray, List.set_cons_zero, List.set_cons_succ]
            refine wpAnyT_take (i := 2) (oi := { dst := some 87, op := Op.move (Operand.tmp 1), type := 3, pos := "outright.go:77", after := #[], guard := none }) (v := (.int .i64 (row : Int))) rfl (by kernel_rfl) (fun _ _ _ h => h) (Or.inl ⟨by rfl, ?_⟩) (KB.out _ GB.out) ?_
            · intro w hSw
              (try dsimp only at hSw)
              go_simp
            simp only [Act.put, List.setIfInBounds_toArray, List.set_cons_zero, List.set_cons_succ]
            refine wpAnyT_take (i := 3) (oi := { dst := some 88, op := Op.move (Operand.tmp 9), type := 3, pos := "outright.go:77", after := #[], guard := none }) (v := (.int .i64 (n : Int))) rfl (by kernel_rfl) (fun _ _ _ h => h) (Or.inl ⟨by rfl, ?_⟩) (KB.out _ GB.out) ?_
            · intro w hSw
              (try dsimp only at hSw)
              go_simp
            simp only [Act.put, List.setIfInBounds_toArray, List.set_cons_zero, List.set_cons_succ]
            refine wpAnyT_take (i := 4) (oi := { dst := some 89, op := Op.binOp BinOp.mul 3 (Operand.tmp 87) (Operand.tmp 88) 3, type := 3, pos := "outright.go:77", after := #[{ on := 2, ground := Ground.data }, { on := 3, ground := Ground.data }], guard := none }) (v := (.int .i64 (rn : Int))) rfl (by kernel_rfl) (fun _ _ _ h => h) (Or.inl ⟨by rfl, ?_⟩) (KB.out _ GB.out) ?_
            · intro w hSw
              (try dsimp only at hSw)
              go_simp
            simp only [Act.put, List.setIfInBounds_toArray, List.set_cons_zero, List.set_cons_succ]
            refine wpAnyT_take (i := 5) (oi := { dst := some 90, op := Op.move (Operand.tmp 11), type := 3, pos := "outright.go:77", after := #[], guard := none }) (v := (.int .i64 (j : Int))) rfl (by kernel_rfl) (fun _ _ _ h => h) (Or.inl ⟨by rfl, ?_⟩) (KB.out _ GB.out) ?_
            · intro w hSw
              (try dsimp only at hSw)
              go_simp
            simp only [Act.put, List.setIfInBounds_toArray, List.set_cons_zero, List.set_cons_succ]
            refine wpAnyT_take (i := 6) (oi := { dst := some 91, op := Op.binOp BinOp.add 3 (Operand.tmp 89) (Operand.tmp 90) 3, type := 3, pos := "outright.go:77", after := #[{ on := 4, ground := Ground.data }, { on := 5, ground := Ground.data }], guard := none }) (v := (.int .i64 (pp : Int))) rfl (by kernel_rfl) (fun _ _ _ h => h) (Or.inl ⟨by rfl, ?_⟩) (KB.out _ GB.out) ?_
            · intro w hSw
              (try dsimp only at hSw)
              go_simp
            simp only [Act.put, List.setIfInBounds_toArray, List.set_cons_zero, List.set_cons_succ]
            refine wpAnyT_take (i := 7) (oi := { dst := some 92, op := Op.indexAddr 22 (Operand.tmp 86) (Operand.tmp 91), type := 0, pos := "outright.go:77", after := #[{ on := 1, ground := Ground.data }, { on := 6, ground := Ground.data }], guard := none }) (v := (.pointer (some ⟨ba, off + pp * 2, none⟩))) rfl (by kernel_rfl) (fun _ _ _ h => h) (Or.inl ⟨by rfl, ?_⟩) (KB.out _ GB.out) ?_
            · intro w hSw
              (try dsimp only at hSw)
              go_simp
            simp only [Act.put, List.setIfInBounds_toArray, List.set_cons_zero, List.set_cons_succ]
            refine wpAnyT_take (i := 8) (oi := { dst := some 93, op := Op.load 30 (Operand.tmp 92), type := 30, pos := "outright.go:77", after := #[{ on := 7, ground := Ground.data }], guard := none }) (v := (.agg #[.bool nx, .slice ax lx cx])) rfl (by kernel_rfl) (fun _ _ _ h => h) (Or.inl ⟨by rfl, ?_⟩) (KB.out _ GB.out) ?_
            · intro w hSw
              (try dsimp only at hSw)
              go_simp
            simp only [Act.put, List.setIfInBounds_toArray, List.set_cons_zero, List.set_cons_succ]
            refine wpAnyT_take (i := 9) (oi := { dst := some 94, op := Op.load 30 (Operand.tmp 14), type := 30, pos := "outright.go:77", after := #[], guard := none }) (v := (.agg #[.bool nf, .slice af lf cf])) rfl (by kernel_rfl) (fun _ _ _ h => h) (Or.inl ⟨by rfl, ?_⟩) (KB.out _ GB.out) ?_
            · intro w hSw
              (try dsimp only at hSw)
              go_simp
            simp only [Act.put, List.setIfInBounds_toArray, List.set_cons_zero, List.set_cons_succ]
            refine wpAnyT_take (i := 10) (oi := { dst := some 95, op := Op.load 30 (Operand.tmp 10), type := 30, pos := "outright.go:77", after := #[], guard := none }) (v := (.agg #[.bool ns, .slice as_ ls cs])) rfl (by kernel_rfl) (fun _ _ _ h => h) (Or.inl ⟨by rfl, ?_⟩) (KB.out _ GB.out) ?_
            · intro w hSw
              (try dsimp only at hSw)
              go_simp
            simp only [Act.put, List.setIfInBounds_toArray, List.set_cons_zero, List.set_cons_succ]
            refine wpAnyT_one (i := 11) (o := { dst := some 96, op := Op.call { callee := Callee.value (Operand.func 17), args := #[Operand.tmp 93, Operand.tmp 94, Operand.tmp 95], argTypes := #[30, 30, 30] }, type := 30, pos := "outright.go:77", after := #[{ on := 8, ground := Ground.data }, { on := 9, ground := Ground.data }, { on := 10, ground := Ground.data }], guard := none }) (by kernel_rfl) rfl (fun K hK => ?_)
            go_simp
            go_at_call 17
            refine (mulAdd_z (ZX2.out.now GB.out) (ZF.out.now GB.out).zi (ZS.out.now GB.out).zi (by decide) (by decide)).mono ?_
            rintro e w142 ⟨r1, rfl, m1, b⟩
            have lz142 := (show Below _ _ _ from b).size
            replace GB := hid (below_step GB.out b)
            have en1 : - pd = (if (row + j) % 2 = 1 then -pd else pd) := by rw [if_pos HOD.out]
            have MM : Hid (Zm 0 w142 r1 (su (j + 1) (exT (en n xs) nn row)) (64 * 1048576 + 7)) := by
              have m2 := m1.mono (Nat.zero_le _)
              rw [EXT.out _ en1] at m2
              exact m2.fit (exT_fit HZA.out (by have := HNN.out; omega) (by omega))
            obtain ⟨nm, xm, am, cm, rfl⟩ := m1.parts
            clear m1 en1
            clear b
            refine hK.out _ _ (fun _ => KB.out _ GB.out) ?_
            clear hK
            refine wpAnyT_one (i := 12) (o := { dst := none, op := Op.store 30 (Operand.tmp 10) (Operand.tmp 96), type := 0, pos := "outright.go:77", after := #[{ on := 11, ground := Ground.data }, { on := 11, ground := Ground.chain }, { on := 0, ground := Ground.phase }, { on := 1, ground := Ground.phase }, { on := 2, ground := Ground.phase }, { on := 3, ground := Ground.phase }, { on := 4, ground := Ground.phase }, { on := 5, ground := Ground.phase }, { on := 6, ground := Ground.phase }, { on := 7, ground := Ground.phase }, { on := 8, ground := Ground.phase }, { on := 9, ground := Ground.phase }, { on := 10, ground := Ground.phase }, { on := 11, ground := Ground.phase }], guard := none }) (by kernel_rfl) rfl (fun K hK => ?_)
            have DS3 := hid (DS.out.step GB.out)
            have e0 := DS3.out.c0
            have e1 := DS3.out.c1
            have e2 := DS3.out.fz 0
            have e3 := DS3.out.fz 1
            go_simp
            clear e0 e1 e2 e3
            obtain ⟨V143, hW⟩ : ∃ V143, ((w142.setCell ⟨bs, 0, none⟩ (.bool nm)).setCell ⟨bs, 1, none⟩ (.slice am xm.length cm)) = V143 := ⟨_, rfl⟩
            have HN1 : Hid (ExH w5 bs n nn row xs (64 * 1048576 + 7) (n - (j + 1)) (.int .i64 ((j + 1 : Nat) : Int)) V143) := by
              unfold Hid
              rw [← hW]
              exact ⟨j + 1, _, _, _, _, rfl, by omega, rfl, DS3.out.set _ _, MM.out.ty (DS3.out.ty13 _ _) (by decide), bset (bset (below_step BW.out GB.out) (by have := EBS.out; omega)) (by have := EBS.out; omega)⟩
            rw [hW]
            clear hW
            refine hK.out _ _ (fun h => absurd h (by decide)) ?_
            clear hK
            try simp only [Act.put]
            refine wpAnyT_done (by kernel_rfl) ?_ _
            clear GB KB MM DS3
            go_wp2_with fail
            go_roundg (n - (j + 1))
            case rel => exact HN1.out
            case measure => exact HMM.out
          · have HOD := hid hodd
            have hm1 : ((row + j : Nat) : Int) % 2 = 0 := by omega
            have hm2 : ((row + j : Nat) : Int).tmod 2 = 0 := by rw [Int.tmod_eq_emod_of_nonneg (by omega)]; exact hm1
            have i5 := DE.out.c0
            have i6 := DE.out.c1
            clear hodd
            generalize hrj : (row + j : Nat) = rj at hws hm1 hm2
            have HRJ := hid hrj
            clear hrj
            have DS := hid (DSc.out.step BV.out)
            have ZS := hid (ZSc.out.now BV.out)
            have BW := hid (below_step BWc.out BV.out)
            have ZX2 := hid (ZX.out.now BV.out)
            have i2 := (PAc.out.step BV.out).at (i := 2) rfl
            have i3 := cnow BV.out X0.out
            have i4 := cnow BV.out X1.out
            have i7 := DS.out.c0
            have i8 := DS.out.c1
            go_upto_region 20 with fail
            rw [EV.out]
            clear EV hm1 hm2 hws
            have hwm := HWM.out
            have hwp := HWP.out
            have KB : Hid (∀ w', Below V2.heap.size V2 w' → w'.cell? ⟨w.heap.size, 2, none⟩ = some (.slice (some ⟨ba, off, none⟩) la qa) ∧ w'.cell? ⟨ba, off + pp * 2, none⟩ = some (.bool nx) ∧ w'.cell? ⟨ba, off + pp * 2 + 1, none⟩ = some (.slice ax lx cx) ∧ w'.cell? ⟨w20.heap.size, 0, none⟩ = some (.bool ne) ∧ w'.cell? ⟨w20.heap.size, 1, none⟩ = some (.slice ae le ce) ∧ w'.cell? ⟨bs, 0, none⟩ = some (.bool ns) ∧ w'.cell? ⟨bs, 1, none⟩ = some (.slice as_ ls cs)) := fun w' h => ⟨cnow h i2, cnow h i3, cnow h i4, cnow h i5, cnow h i6, cnow h i7, cnow h i8⟩
            refine wp_region_tail (fun w' => w'.cell? ⟨w.heap.size, 2, none⟩ = some (.slice (some ⟨ba, off, none⟩) la qa) ∧ w'.cell? ⟨ba, off + pp * 2, none⟩ = some (.bool nx) ∧ w'.cell? ⟨ba, off + pp * 2 + 1, none⟩ = some (.slice ax lx cx) ∧ w'.cell? ⟨w20.heap.size, 0, none⟩ = some (.bool ne) ∧ w'.cell? ⟨w20.heap.size, 1, none⟩ = some (.slice ae le ce) ∧ w'.cell? ⟨bs, 0, none⟩ = some (.bool ns) ∧ w'.cell? ⟨bs, 1, none⟩ = some (.slice as_ ls cs)) 12 (by kernel_rfl) ?_
            obtain ⟨D141, hD⟩ : ∃ D141, V2.drew = D141 := ⟨_, rfl⟩
            have GB : Hid (Below V2.heap.size V2 D141) := by unfold Hid; rw [← hD]; exact (Below.refl _ _).drew
            rw [hD]
            clear hD
            refine wpAnyT_take (i := 0) (oi := { dst := some 85, op := Op.fieldAddr 24 (Operand.tmp 2) 2, type := 0, pos := "outright.go:77", after := #[], guard := none }) (v := (.pointer (some ⟨w.heap.size, 2, none⟩))) rfl (by kernel_rfl) (fun _ _ _ h => h) (Or.inl ⟨by rfl, ?_⟩) (KB.out _ GB.out) ?_
            · intro w hSw
              (try dsimp only at hSw)
              go_simp
            simp only [Act.put, List.setIfInBounds_toArray, List.set_cons_zero, List.set_cons_succ]
            refine wpAnyT_take (i := 1) (oi := { dst := some 86, op := Op.load 22 (Operand.tmp 85), type := 22, pos := "outright.go:77", after := #[{ on := 0, ground := Ground.data }], guard := none }) (v := (.slice (some ⟨ba, off, none⟩) la qa)) rfl (by kernel_rfl) (fun _ _ _ h => h) (Or.inl ⟨by rfl, ?_⟩) (KB.out _ GB.out) ?_
            · intro w hSw
              (try dsimp only at hSw)
              go_simp
            simp only [Act.put, List.setIfInBounds_toArray, List.set_cons_zero, List.set_cons_succ]
            refine wpAnyT_take (i := 2) (oi := { dst := some 87, op := Op.move (Operand.tmp 1), type := 3, pos := "outright.go:77", after := #[], guard := none }) (v := (.int .i64 (row : Int))) rfl (by kernel_rfl) (fun _ _ _ h => h) (Or.inl ⟨by rfl, ?_⟩) (KB.out _ GB.out) ?_
            · intro w hSw
              (try dsimp only at hSw)
              go_simp
            simp only [Act.put, List.setIfInBounds_toArray, List.set_cons_zero, List.set_cons_succ]
            refine wpAnyT_take (i := 3) (oi := { dst := some 88, op := Op.move (Operand.tmp 9), type := 3, pos := "outright.go:77", after := #[], guard := none }) (v := (.int .i64 (n : Int))) rfl (by kernel_rfl) (fun _ _ _ h => h) (Or.inl ⟨by rfl, ?_⟩) (KB.out _ GB.out) ?_
            · intro w hSw
              (try dsimp only at hSw)
              go_simp
            simp only [Act.put, List.setIfInBounds_toArray, List.set_cons_zero, List.set_cons_succ]
            refine wpAnyT_take (i := 4) (oi := { dst := some 89, op := Op.binOp BinOp.mul 3 (Operand.tmp 87) (Operand.tmp 88) 3, type := 3, pos := "outright.go:77", after := #[{ on := 2, ground := Ground.data }, { on := 3, ground := Ground.data }], guard := none }) (v := (.int .i64 (rn : Int))) rfl (by kernel_rfl) (fun _ _ _ h => h) (Or.inl ⟨by rfl, ?_⟩) (KB.out _ GB.out) ?_
            · intro w hSw
              (try dsimp only at hSw)
              go_simp
            simp only [Act.put, List.setIfInBounds_toArray, List.set_cons_zero, List.set_cons_succ]
            refine wpAnyT_take (i := 5) (oi := { dst := some 90, op := Op.move (Operand.tmp 11), type := 3, pos := "outright.go:77", after := #[], guard := none }) (v := (.int .i64 (j : Int))) rfl (by kernel_rfl) (fun _ _ _ h => h) (Or.inl ⟨by rfl, ?_⟩) (KB.out _ GB.out) ?_
            · intro w hSw
              (try dsimp only at hSw)
              go_simp
            simp only [Act.put, List.setIfInBounds_toArray, List.set_cons_zero, List.set_cons_succ]
            refine wpAnyT_take (i := 6) (oi := { dst := some 91, op := Op.binOp BinOp.add 3 (Operand.tmp 89) (Operand.tmp 90) 3, type := 3, pos := "outright.go:77", after := #[{ on := 4, ground := Ground.data }, { on := 5, ground := Ground.data }], guard := none }) (v := (.int .i64 (pp : Int))) rfl (by kernel_rfl) (fun _ _ _ h => h) (Or.inl ⟨by rfl, ?_⟩) (KB.out _ GB.out) ?_
            · intro w hSw
              (try dsimp only at hSw)
              go_simp
            simp only [Act.put, List.setIfInBounds_toArray, List.set_cons_zero, List.set_cons_succ]
            refine wpAnyT_take (i := 7) (oi := { dst := some 92, op := Op.indexAddr 22 (Operand.tmp 86) (Operand.tmp 91), type := 0, pos := "outright.go:77", after := #[{ on := 1, ground := Ground.data }, { on := 6, ground := Ground.data }], guard := none }) (v := (.pointer (some ⟨ba, off + pp * 2, none⟩))) rfl (by kernel_rfl) (fun _ _ _ h => h) (Or.inl ⟨by rfl, ?_⟩) (KB.out _ GB.out) ?_
            · intro w hSw
              (try dsimp only at hSw)
              go_simp
            simp only [Act.put, List.setIfInBounds_toArray, List.set_cons_zero, List.set_cons_succ]
            refine wpAnyT_take (i := 8) (oi := { dst := some 93, op := Op.load 30 (Operand.tmp 92), type := 30, pos := "outright.go:77", after := #[{ on := 7, ground := Ground.data }], guard := none }) (v := (.agg #[.bool nx, .slice ax lx cx])) rfl (by kernel_rfl) (fun _ _ _ h => h) (Or.inl ⟨by rfl, ?_⟩) (KB.out _ GB.out) ?_
            · intro w hSw
              (try dsimp only at hSw)
              go_simp
            simp only [Act.put, List.setIfInBounds_toArray, List.set_cons_zero, List.set_cons_succ]
            refine wpAnyT_take (i := 9) (oi := { dst := some 94, op := Op.load 30 (Operand.tmp 14), type := 30, pos := "outright.go:77", after := #[], guard := none }) (v := (.agg #[.bool ne, .slice ae le ce])) rfl (by kernel_rfl) (fun _ _ _ h => h) (Or.inl ⟨by rfl, ?_⟩) (KB.out _ GB.out) ?_
            · intro w hSw
              (try dsimp only at hSw)
              go_simp
            simp only [Act.put, List.setIfInBounds_toArray, List.set_cons_zero, List.set_cons_succ]
            refine wpAnyT_take (i := 10) (oi := { dst := some 95, op := Op.load 30 (Operand.tmp 10), type := 30, pos := "outright.go:77", after := #[], guard := none }) (v := (.agg #[.bool ns, .slice as_ ls cs])) rfl (by kernel_rfl) (fun _ _ _ h => h) (Or.inl ⟨by rfl, ?_⟩) (KB.out _ GB.out) ?_
            · intro w hSw
              (try dsimp only at hSw)
              go_simp
            simp only [Act.put, List.setIfInBounds_toArray, List.set_cons_zero, List.set_cons_succ]
            refine wpAnyT_one (i := 11) (o := { dst := some 96, op := Op.call { callee := Callee.value (Operand.func 17), args := #[Operand.tmp 93, Operand.tmp 94, Operand.tmp 95], argTypes := #[30, 30, 30] }, type := 30, pos := "outright.go:77", after := #[{ on := 8, ground := Ground.data }, { on := 9, ground := Ground.data }, { on := 10, ground := Ground.data }], guard := none }) (by kernel_rfl) rfl (fun K hK => ?_)
            go_simp
            go_at_call 17
            refine (mulAdd_z (ZX2.out.now GB.out) (ZE.out.now GB.out).zi (ZS.out.now GB.out).zi (by decide) (by decide)).mono ?_
            rintro e w142 ⟨r1, rfl, m1, b⟩
            have lz142 := (show Below _ _ _ from b).size
            replace GB := hid (below_step GB.out b)
            have en1 : pd = (if (row + j) % 2 = 1 then -pd else pd) := by rw [if_neg HOD.out]
            have MM : Hid (Zm 0 w142 r1 (su (j + 1) (exT (en n xs) nn row)) (64 * 1048576 + 7)) := by
              have m2 := m1.mono (Nat.zero_le _)
              rw [EXT.out _ en1] at m2
              exact m2.fit (exT_fit HZA.out (by have := HNN.out; omega) (by omega))
            obtain ⟨nm, xm, am, cm, rfl⟩ := m1.parts
            clear m1 en1
            clear b
            refine hK.out _ _ (fun _ => KB.out _ GB.out) ?_
            clear hK
            refine wpAnyT_one (i := 12) (o := { dst := none, op := Op.store 30 (Operand.tmp 10) (Operand.tmp 96), type := 0, pos := "outright.go:77", after := #[{ on := 11, ground := Ground.data }, { on := 11, ground := Ground.chain }, { on := 0, ground := Ground.phase }, { on := 1, ground := Ground.phase }, { on := 2, ground := Ground.phase }, { on := 3, ground := Ground.phase }, { on := 4, ground := Ground.phase }, { on := 5, ground := Ground.phase }, { on := 6, ground := Ground.phase }, { on := 7, ground := Ground.phase }, { on := 8, ground := Ground.phase }, { on := 9, ground := Ground.phase }, { on := 10, ground := Ground.phase }, { on := 11, ground := Ground.phase }], guard := none }) (by kernel_rfl) rfl (fun K hK => ?_)
            have DS3 := hid (DS.out.step GB.out)
            have e0 := DS3.out.c0
            have e1 := DS3.out.c1
            have e2 := DS3.out.fz 0
            have e3 := DS3.out.fz 1
            go_simp
            clear e0 e1 e2 e3
            obtain ⟨V143, hW⟩ : ∃ V143, ((w142.setCell ⟨bs, 0, none⟩ (.bool nm)).setCell ⟨bs, 1, none⟩ (.slice am xm.length cm)) = V143 := ⟨_, rfl⟩
            have HN1 : Hid (ExH w5 bs n nn row xs (64 * 1048576 + 7) (n - (j + 1)) (.int .i64 ((j + 1 : Nat) : Int)) V143) := by
              unfold Hid
              rw [← hW]
              exact ⟨j + 1, _, _, _, _, rfl, by omega, rfl, DS3.out.set _ _, MM.out.ty (DS3.out.ty13 _ _) (by decide), bset (bset (below_step BW.out GB.out) (by have := EBS.out; omega)) (by have := EBS.out; omega)⟩
            rw [hW]
            clear hW
            refine hK.out _ _ (fun h => absurd h (by decide)) ?_
            clear hK
            try simp only [Act.put]
            refine wpAnyT_done (by kernel_rfl) ?_ _
            clear GB KB MM DS3
            go_wp2_with fail
            go_roundg (n - (j + 1))
            case rel => exact HN1.out
            case measure => exact HMM.out
        · have hlt' : ¬ (j : Int) < (n : Int) := by omega
          obtain rfl : j = n := by omega
          have ES : Hid (su j (exT (en j xs) nn row) = det j (en j xs)) := by
            unfold Hid
            have hrn := HRN.out
            have e := HNN.out
            subst e
            exact (det_any nn row (en (nn + 1) xs) (by omega)).symm
          rw [ES.out] at ZS
          have HCM := hid (cmp_z ZS.out.zi Zd1.out.zi)
          rw [cmpI_self] at HCM
          have i0 := DS.out.c0
          have i1 := DS.out.c1
          have i2 := Dd1.out.c0
          have i3 := Dd1.out.c1
          go_wp2_with fail
          refine HCM.out.mono ?_
          rintro e w40 ⟨rfl, b⟩
          have FIN : Hid (Tru w (.returned (.bool true)) w40) := ⟨rfl, below_step GW.out b⟩
          clear HCM b
          go_wp2
          go_ret
          exact FIN.out
    · have hrc2 := hid hrc
      refine (refused_fit MA.out hrc).mono ?_
      rintro e w6 ⟨rfl, b⟩
      replace PA := hid (PA.out.step b)
      replace RA := hid (RA.out.now b)
      replace MA := hid (MA.out.now b)
      replace G := hid (below_step G.out b)
      clear b
      go_wp2_with fail
      refine (awake13 _).mono ?_
      rintro e w7 ⟨rfl, b⟩
      replace PA := hid (PA.out.step b)
      replace RA := hid (RA.out.now b)
      replace MA := hid (MA.out.now b)
      replace G := hid (below_step G.out b)
      clear b
      go_wp2_with fail
      refine (awake13 _).mono ?_
      rintro e w8 ⟨rfl, b⟩
      replace PA := hid (PA.out.step b)
      replace RA := hid (RA.out.now b)
      replace MA := hid (MA.out.now b)
      replace G := hid (below_step G.out b)
      clear b
      go_wp2
      go_ret
      exact ⟨rfl, G.out⟩
  · have hsa2 := hid hsa
    refine (refused_un hsa).mono ?_
    rintro e w9 ⟨rfl, b⟩
    replace PA := hid (PA.out.step b)
    replace RA := hid (RA.out.now b)
    replace G := hid (below_step G.out b)
    clear b
    go_wp2_with fail
    refine (awake13 _).mono ?_
    rintro e w10 ⟨rfl, b⟩
    replace PA := hid (PA.out.step b)
    replace RA := hid (RA.out.now b)
    replace G := hid (below_step G.out b)
    clear b
    go_wp2_with fail
    refine (awake13 _).mono ?_
    rintro e w11 ⟨rfl, b⟩
    replace PA := hid (PA.out.step b)
    replace RA := hid (RA.out.now b)
    replace G := hid (below_step G.out b)
    clear b
    go_wp2
    go_ret
    exact ⟨rfl, G.out⟩
end Go.Proofs.YtlhbcdapinacgaaGreat
