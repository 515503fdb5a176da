/-
  QZr12ToLe12: Zr12, Le12, joined.
-/
import Derived.Test.YtiedmlfiboalhaaGreatQWk12ToLw12
import Derived.Test.YtiedmlfiboalhaaGreatQR5Mod
import Derived.Test.YtiedmlfiboalhaaGreatQLst9ToTail
import Derived.Test.YtiedmlfiboalhaaGreatQRs12ToTailA
import Derived.Test.YtiedmlfiboalhaaGreatQMt12ToWo12

/- Zr12 -/
namespace Go.Proofs.YtiedmlfiboalhaaGreat
open Go.RowKit
set_option linter.unusedVariables false

theorem Zm.nought {B k : Nat} {w : World} {v : Value} (h : Zm B w v 0 k) : ∃ a c, v = .agg #[.bool false, .slice a 0 c] := by
  obtain ⟨n, zs, a, c, rfl, -, hc, hn, hv, -⟩ := h
  have h0 : val zs = 0 := by
    cases n
    · simpa [iv] using hv
    · simp only [iv, if_true] at hv; omega
  have e := canon_zero hc h0
  subst e
  rw [hn rfl]
  exact ⟨a, c, rfl⟩
def ZrH (w : World) (n gk : Nat) (s : Value) (wx : World) : Prop := ∃ i : Nat, s = .int .i64 (i : Int) ∧ i ≤ n ∧ gk = n - i ∧ Below w.heap.size w wx
set_option maxHeartbeats 1600000 in
set_option maxRecDepth 100000 in
theorem zero12_yes {w : World} {v : Value} {zs : List Int} {kk p : Nat} (hv : Zl w v zs kk) (hkk : kk ≤ 68719476735) (hp : 0 < p) (hp2 : p < 2147483648) (hz : ∀ z ∈ zs, z % (p : Int) = 0) :
    Calls Tryz.prog 15 #[v, .int .u64 (p : Int)] w fun e w' => e = .returned (.bool true) ∧ Below w.heap.size w w' := by
  have V0 := hid hv
  have HZ := hid hz
  obtain ⟨a0, c0, rfl, hc0, hn0, hf0⟩ := V0.out.form9
  obtain ⟨n, hn⟩ : ∃ n, zs.length = n := ⟨_, rfl⟩
  rw [hn] at V0 hc0 hn0 ⊢
  have HN := hid hn
  have F0 := hid hf0
  have H0 : Hid (ZrH w n n (.int .i64 0) w) := ⟨0, rfl, Nat.zero_le _, rfl, Below.refl _ _⟩
  clear hv hf0 hn hz
  go_enter Tryz.func15, Tryz.ntmps15
  go_wp2_with fail
  go_loopg [5] n (fun gk s5 wx => ZrH w n gk s5 wx)
  case atStart => exact H0.out
  case round =>
    clear H0
    obtain ⟨i, rfl, hin, hg, hG⟩ := hrel
    have G := hid hG
    have HG := hid hg
    clear hG hg
    by_cases hlt : i < n
    · have hlt' : (i : Int) < (n : Int) := by omega
      obtain ⟨b1, o1, rfl⟩ := F0.out (fun e => by have := HN.out; rw [e] at this; simp at this; omega)
      obtain ⟨nf, xf, adf, qf, k0, k1, zf⟩ := (V0.out.now G.out).at9 (i := i) (by rw [HN.out]; exact hlt)
      have hzi := HZ.out _ (List.getElem_mem (l := zs) (n := i) (by rw [HN.out]; exact hlt))
      obtain ⟨z, hzz⟩ : ∃ z, zs[i]'(by rw [HN.out]; exact hlt) = z := ⟨_, rfl⟩
      rw [hzz] at zf hzi
      have ZF := hid (zf.more (l := kk + 1) (by omega))
      have HZI := hid hzi
      have hw := wrapJ hlt hn0
      have HMM : Hid (n - (i + 1) < gk) := by unfold Hid; rw [HG.out]; omega
      clear zf hzz hzi HG
      go_wp2_with fail
      have KB : Hid (∀ w', Below wr.heap.size wr w' → w'.cell? ⟨b1, o1 + i * 2, none⟩ = some (.bool nf) ∧ w'.cell? ⟨b1, o1 + i * 2 + 1, none⟩ = some (.slice adf xf.length qf)) := fun w' h => ⟨cnow h k0, cnow h k1⟩
      refine wp_region_tail (fun w' => w'.cell? ⟨b1, o1 + i * 2, none⟩ = some (.bool nf) ∧ w'.cell? ⟨b1, o1 + i * 2 + 1, none⟩ = some (.slice adf xf.length qf)) 13 (by kernel_rfl) ?_
      obtain ⟨D1, hD⟩ : ∃ D1, wr.drew = D1 := ⟨_, rfl⟩
      have GB : Hid (Below wr.heap.size wr D1) := by unfold Hid; rw [← hD]; exact (Below.refl _ _).drew
      rw [hD]
      clear hD
      have ld0 := GB.out.size
      refine wpAnyT_takeA (i := 0) (oi := { dst := some 15, op := Op.move (Operand.tmp 0), type := 22, pos := "plain.go:34", after := #[], guard := none }) (v := (.slice (some ⟨b1, o1, none⟩) n c0)) rfl (by kernel_rfl) (fun _ _ _ h => h) (Or.inl ⟨by rfl, ?_⟩) (KB.out _ GB.out) ?_
      · intro w hSw
        (try dsimp only at hSw)
        go_simp
      simp only [Act.put, List.setIfInBounds_toArray, List.set_cons_zero, List.set_cons_succ]
      refine wpAnyT_takeA (i := 1) (oi := { dst := some 16, op := Op.move (Operand.tmp 5), type := 3, pos := "plain.go:34", after := #[], guard := none }) (v := (.int .i64 (i : Int))) rfl (by kernel_rfl) (fun _ _ _ h => h) (Or.inl ⟨by rfl, ?_⟩) (KB.out _ GB.out) ?_
      · intro w hSw
        (try dsimp only at hSw)
        go_simp
      simp only [Act.put, List.setIfInBounds_toArray, List.set_cons_zero, List.set_cons_succ]
      refine wpAnyT_takeA (i := 2) (oi := { dst := some 17, op := Op.indexAddr 22 (Operand.tmp 15) (Operand.tmp 16), type := 0, pos := "plain.go:34", after := #[{ on := 0, ground := Ground.data }, { on := 1, ground := Ground.data }], guard := none }) (v := (.pointer (some ⟨b1, o1 + i * 2, none⟩))) rfl (by kernel_rfl) (fun _ _ _ h => h) (Or.inl ⟨by rfl, ?_⟩) (KB.out _ GB.out) ?_
      · intro w hSw
        (try dsimp only at hSw)
        go_simp
      simp only [Act.put, List.setIfInBounds_toArray, List.set_cons_zero, List.set_cons_succ]
      refine wpAnyT_takeA (i := 3) (oi := { dst := some 18, op := Op.load 43 (Operand.tmp 17), type := 43, pos := "plain.go:34", after := #[{ on := 2, ground := Ground.data }], guard := none }) (v := (.agg #[.bool nf, .slice adf xf.length qf])) rfl (by kernel_rfl) (fun _ _ _ h => h) (Or.inl ⟨by rfl, ?_⟩) (KB.out _ GB.out) ?_
      · intro w hSw
        (try dsimp only at hSw)
        go_simp
      simp only [Act.put, List.setIfInBounds_toArray, List.set_cons_zero, List.set_cons_succ]
      refine wpAnyT_takeA (i := 4) (oi := { dst := some 19, op := Op.move (Operand.tmp 1), type := 25, pos := "plain.go:34", after := #[], guard := none }) (v := (.int .u64 (p : Int))) rfl (by kernel_rfl) (fun _ _ _ h => h) (Or.inl ⟨by rfl, ?_⟩) (KB.out _ GB.out) ?_
      · intro w hSw
        (try dsimp only at hSw)
        go_simp
      simp only [Act.put, List.setIfInBounds_toArray, List.set_cons_zero, List.set_cons_succ]
      refine wpAnyT_two (i := 5) (j := 10) (oi := { dst := some 20, op := Op.call { callee := Callee.value (Operand.func 17), args := #[Operand.tmp 19], argTypes := #[25] }, type := 43, pos := "plain.go:34", after := #[{ on := 4, ground := Ground.data }], guard := none }) (oj := { dst := some 6, op := Op.alloc 43, type := 0, pos := "plain.go:34", after := #[], guard := none }) (by kernel_rfl) rfl rfl (fun K hK => ?_) (fun K hK => ?_)
      · skip
        go_simp
        go_at_call 17
        refine (of12 (n := (p : Int)) (by omega) (by omega) _).mono ?_
        rintro e w2 ⟨r5, rfl, hz5, b⟩
        have lz2 := (show Below _ _ _ from b).size
        replace GB := hid (below_step GB.out b)
        have ZP := hid (hz5.more (l := kk + 1) (by omega))
        obtain ⟨np, xp, ap, cp, rfl, -, -, -⟩ := id hz5
        clear hz5
        clear b
        refine hK.out _ _ (fun _ => KB.out _ GB.out) ?_
        clear hK
        refine wpAnyT_two (i := 6) (j := 10) (oi := { dst := some 21, op := Op.call { callee := Callee.value (Operand.func 34), args := #[Operand.tmp 18, Operand.tmp 20], argTypes := #[43, 43] }, type := 65, pos := "plain.go:34", after := #[{ on := 3, ground := Ground.data }, { on := 5, ground := Ground.data }, { on := 5, ground := Ground.chain }], guard := none }) (oj := { dst := some 6, op := Op.alloc 43, type := 0, pos := "plain.go:34", after := #[], guard := none }) (by kernel_rfl) rfl rfl (fun K hK => ?_) (fun K hK => ?_)
        · skip
          go_simp
          go_at_call 34
          refine (rmod_z (ZF.out.now GB.out) ZP.out (by omega) (by omega)).mono ?_
          rintro e w3 ⟨r6, rfl, m6, b⟩
          have lz3 := (show Below _ _ _ from b).size
          replace GB := hid (below_step GB.out b)
          rw [HZI.out] at m6
          obtain ⟨am, cm, rfl⟩ := m6.nought
          clear m6
          clear b
          refine hK.out _ _ (fun _ => KB.out _ GB.out) ?_
          clear hK
          refine wpAnyT_takeA (i := 7) (oi := { dst := some 14, op := Op.move (Operand.tmp 21), type := 65, pos := "plain.go:34", after := #[{ on := 6, ground := Ground.data }], guard := none }) (v := (.tuple #[(.agg #[.bool false, .slice am 0 cm]), (.int .i64 0)])) rfl (by kernel_rfl) (fun _ _ _ h => h) (Or.inl ⟨by rfl, ?_⟩) (KB.out _ GB.out) ?_
          · intro w hSw
            (try dsimp only at hSw)
            go_simp
          simp only [Act.put, List.setIfInBounds_toArray, List.set_cons_zero, List.set_cons_succ]
          refine wpAnyT_takeA (i := 8) (oi := { dst := some 22, op := Op.extract (Operand.tmp 14) 0, type := 43, pos := "plain.go:34", after := #[{ on := 7, ground := Ground.data }], guard := none }) (v := (.agg #[.bool false, .slice am 0 cm])) rfl (by kernel_rfl) (fun _ _ _ h => h) (Or.inl ⟨by rfl, ?_⟩) (KB.out _ GB.out) ?_
          · intro w hSw
            (try dsimp only at hSw)
            go_simp
          simp only [Act.put, List.setIfInBounds_toArray, List.set_cons_zero, List.set_cons_succ]
          refine wpAnyT_takeA (i := 9) (oi := { dst := some 23, op := Op.extract (Operand.tmp 14) 1, type := 29, pos := "plain.go:34", after := #[{ on := 7, ground := Ground.data }, { on := 11, ground := Ground.gcOnly Departure.lateStores }], guard := none }) (v := (.int .i64 0)) rfl (by kernel_rfl) (fun _ _ _ h => h) (Or.inl ⟨by rfl, ?_⟩) (KB.out _ GB.out) ?_
          · intro w hSw
            (try dsimp only at hSw)
            go_simp
          simp only [Act.put, List.setIfInBounds_toArray, List.set_cons_zero, List.set_cons_succ]
          refine wpAnyT_one (i := 10) (o := { dst := some 6, op := Op.alloc 43, type := 0, pos := "plain.go:34", after := #[], guard := none }) (by kernel_rfl) rfl (fun K hK => ?_)
          go_simp
          obtain ⟨V4, hW⟩ : ∃ V4, w3.alloc zbox = V4 := ⟨_, rfl⟩
          obtain ⟨b, sz4⟩ := alo1 w3 zbox
          rw [hW] at b sz4
          replace GB := hid (below_step GB.out b)
          have PN : Hid (Duo V4 w3.heap.size (.bool false) (.slice none 0 0)) := by unfold Hid; rw [← hW]; exact Duo.new _ _ _
          have BN : Hid (wr.heap.size ≤ w3.heap.size) := by unfold Hid; omega
          rw [hW]
          clear hW b
          refine hK.out _ _ (fun _ => KB.out _ GB.out) ?_
          clear hK
          try simp only [Act.put]
          refine wpAnyT_one (i := 11) (o := { dst := none, op := Op.store 43 (Operand.tmp 6) (Operand.tmp 22), type := 0, pos := "plain.go:34", after := #[{ on := 10, ground := Ground.data }, { on := 8, ground := Ground.data }, { on := 6, ground := Ground.chain }, { on := 0, ground := Ground.phase }, { on := 1, ground := Ground.phase }, { on := 2, ground := Ground.phase }, { on := 3, ground := Ground.phase }, { on := 4, ground := Ground.phase }, { on := 5, ground := Ground.phase }, { on := 6, ground := Ground.phase }, { on := 7, ground := Ground.phase }, { on := 8, ground := Ground.phase }, { on := 9, ground := Ground.textOnly Departure.lateStores }, { on := 10, ground := Ground.phase }], guard := none }) (by kernel_rfl) rfl (fun K hK => ?_)
          have r0 := PN.out.c0
          have r1 := PN.out.c1
          have f0 := PN.out.fz 0
          have f1 := PN.out.fz 1
          go_simp
          clear r0 r1 f0 f1
          obtain ⟨V5, hW⟩ : ∃ V5, ((V4.setCell ⟨w3.heap.size, 0, none⟩ (.bool false)).setCell ⟨w3.heap.size, 1, none⟩ (.slice am 0 cm)) = V5 := ⟨_, rfl⟩
          have GE : Hid (Below wr.heap.size wr V5) := by unfold Hid; rw [← hW]; exact bset (bset GB.out BN.out) BN.out
          have PF : Hid (Duo V5 w3.heap.size (.bool false) (.slice am 0 cm)) := by unfold Hid; rw [← hW]; exact PN.out.set _ _
          replace GB := GE
          clear PN GE
          rw [hW]
          clear hW
          refine hK.out _ _ (fun _ => KB.out _ GB.out) ?_
          clear hK
          try simp only [Act.put]
          refine wpAnyT_takeA (i := 12) (oi := { dst := some 7, op := Op.assign (Operand.tmp 23), type := 29, pos := "plain.go:34", after := #[{ on := 9, ground := Ground.data }, { on := 11, ground := Ground.chain }, { on := 0, ground := Ground.phase }, { on := 1, ground := Ground.phase }, { on := 2, ground := Ground.phase }, { on := 3, ground := Ground.phase }, { on := 4, ground := Ground.phase }, { on := 5, ground := Ground.phase }, { on := 6, ground := Ground.phase }, { on := 7, ground := Ground.phase }, { on := 8, ground := Ground.phase }, { on := 9, ground := Ground.phase }, { on := 10, ground := Ground.phase }, { on := 11, ground := Ground.phase }], guard := none }) (v := (.int .i64 0)) rfl (by kernel_rfl) (fun _ _ _ h => h) (Or.inl ⟨by rfl, ?_⟩) (KB.out _ GB.out) ?_
          · intro w hSw
            (try dsimp only at hSw)
            go_simp
          simp only [Act.put, List.setIfInBounds_toArray, List.set_cons_zero, List.set_cons_succ]
          refine wpAnyT_done (by kernel_rfl) ?_ _
          have q0 : ((0 : Int) != 0) = false := rfl
          have x1 := PF.out.c1
          have HN1 : Hid (ZrH w n (n - (i + 1)) (.int .i64 ((i + 1 : Nat) : Int)) V5) := ⟨i + 1, rfl, by omega, rfl, below_step G.out GB.out⟩
          clear GB KB G PF BN ZF HZI k0 k1
          go_wp2_with fail
          go_roundg (n - (i + 1))
          case rel => exact HN1.out
          case measure => exact HMM.out
        · skip
          go_simp
          obtain ⟨V6, hW⟩ : ∃ V6, w2.alloc zbox = V6 := ⟨_, rfl⟩
          obtain ⟨b, sz6⟩ := alo1 w2 zbox
          rw [hW] at b sz6
          replace GB := hid (below_step GB.out b)
          have PN : Hid (Duo V6 w2.heap.size (.bool false) (.slice none 0 0)) := by unfold Hid; rw [← hW]; exact Duo.new _ _ _
          have BN : Hid (wr.heap.size ≤ w2.heap.size) := by unfold Hid; omega
          replace ZP := hid (ZP.out.now b)
          rw [hW]
          clear hW b
          refine hK.out _ _ (fun _ => KB.out _ GB.out) ?_
          clear hK
          try simp only [Act.put]
          refine wpAnyT_one (i := 6) (o := { dst := some 21, op := Op.call { callee := Callee.value (Operand.func 34), args := #[Operand.tmp 18, Operand.tmp 20], argTypes := #[43, 43] }, type := 65, pos := "plain.go:34", after := #[{ on := 3, ground := Ground.data }, { on := 5, ground := Ground.data }, { on := 5, ground := Ground.chain }], guard := none }) (by kernel_rfl) rfl (fun K hK => ?_)
          go_simp
          go_at_call 34
          refine (rmod_z (ZF.out.now GB.out) ZP.out (by omega) (by omega)).mono ?_
          rintro e w7 ⟨r6, rfl, m6, b⟩
          have lz7 := (show Below _ _ _ from b).size
          replace GB := hid (below_step GB.out b)
          rw [HZI.out] at m6
          obtain ⟨am, cm, rfl⟩ := m6.nought
          clear m6
          replace PN := hid (PN.out.step b)
          clear b
          refine hK.out _ _ (fun _ => KB.out _ GB.out) ?_
          clear hK
          refine wpAnyT_takeA (i := 7) (oi := { dst := some 14, op := Op.move (Operand.tmp 21), type := 65, pos := "plain.go:34", after := #[{ on := 6, ground := Ground.data }], guard := none }) (v := (.tuple #[(.agg #[.bool false, .slice am 0 cm]), (.int .i64 0)])) rfl (by kernel_rfl) (fun _ _ _ h => h) (Or.inl ⟨by rfl, ?_⟩) (KB.out _ GB.out) ?_
          · intro w hSw
            (try dsimp only at hSw)
            go_simp
          simp only [Act.put, List.setIfInBounds_toArray, List.set_cons_zero, List.set_cons_succ]
          refine wpAnyT_takeA (i := 8) (oi := { dst := some 22, op := Op.extract (Operand.tmp 14) 0, type := 43, pos := "plain.go:34", after := #[{ on := 7, ground := Ground.data }], guard := none }) (v := (.agg #[.bool false, .slice am 0 cm])) rfl (by kernel_rfl) (fun _ _ _ h => h) (Or.inl ⟨by rfl, ?_⟩) (KB.out _ GB.out) ?_
          · intro w hSw
            (try dsimp only at hSw)
            go_simp
          simp only [Act.put, List.setIfInBounds_toArray, List.set_cons_zero, List.set_cons_succ]
          refine wpAnyT_takeA (i := 9) (oi := { dst := some 23, op := Op.extract (Operand.tmp 14) 1, type := 29, pos := "plain.go:34", after := #[{ on := 7, ground := Ground.data }, { on := 11, ground := Ground.gcOnly Departure.lateStores }], guard := none }) (v := (.int .i64 0)) rfl (by kernel_rfl) (fun _ _ _ h => h) (Or.inl ⟨by rfl, ?_⟩) (KB.out _ GB.out) ?_
          · intro w hSw
            (try dsimp only at hSw)
            go_simp
          simp only [Act.put, List.setIfInBounds_toArray, List.set_cons_zero, List.set_cons_succ]
          refine wpAnyT_one (i := 11) (o := { dst := none, op := Op.store 43 (Operand.tmp 6) (Operand.tmp 22), type := 0, pos := "plain.go:34", after := #[{ on := 10, ground := Ground.data }, { on := 8, ground := Ground.data }, { on := 6, ground := Ground.chain }, { on := 0, ground := Ground.phase }, { on := 1, ground := Ground.phase }, { on := 2, ground := Ground.phase }, { on := 3, ground := Ground.phase }, { on := 4, ground := Ground.phase }, { on := 5, ground := Ground.phase }, { on := 6, ground := Ground.phase }, { on := 7, ground := Ground.phase }, { on := 8, ground := Ground.phase }, { on := 9, ground := Ground.textOnly Departure.lateStores }, { on := 10, ground := Ground.phase }], guard := none }) (by kernel_rfl) rfl (fun K hK => ?_)
          have r0 := PN.out.c0
          have r1 := PN.out.c1
          have f0 := PN.out.fz 0
          have f1 := PN.out.fz 1
          go_simp
          clear r0 r1 f0 f1
          obtain ⟨V8, hW⟩ : ∃ V8, ((w7.setCell ⟨w2.heap.size, 0, none⟩ (.bool false)).setCell ⟨w2.heap.size, 1, none⟩ (.slice am 0 cm)) = V8 := ⟨_, rfl⟩
          have GE : Hid (Below wr.heap.size wr V8) := by unfold Hid; rw [← hW]; exact bset (bset GB.out BN.out) BN.out
          have PF : Hid (Duo V8 w2.heap.size (.bool false) (.slice am 0 cm)) := by unfold Hid; rw [← hW]; exact PN.out.set _ _
          replace GB := GE
          clear PN GE
          rw [hW]
          clear hW
          refine hK.out _ _ (fun _ => KB.out _ GB.out) ?_
          clear hK
          try simp only [Act.put]
          refine wpAnyT_takeA (i := 12) (oi := { dst := some 7, op := Op.assign (Operand.tmp 23), type := 29, pos := "plain.go:34", after := #[{ on := 9, ground := Ground.data }, { on := 11, ground := Ground.chain }, { on := 0, ground := Ground.phase }, { on := 1, ground := Ground.phase }, { on := 2, ground := Ground.phase }, { on := 3, ground := Ground.phase }, { on := 4, ground := Ground.phase }, { on := 5, ground := Ground.phase }, { on := 6, ground := Ground.phase }, { on := 7, ground := Ground.phase }, { on := 8, ground := Ground.phase }, { on := 9, ground := Ground.phase }, { on := 10, ground := Ground.phase }, { on := 11, ground := Ground.phase }], guard := none }) (v := (.int .i64 0)) rfl (by kernel_rfl) (fun _ _ _ h => h) (Or.inl ⟨by rfl, ?_⟩) (KB.out _ GB.out) ?_
          · intro w hSw
            (try dsimp only at hSw)
            go_simp
          simp only [Act.put, List.setIfInBounds_toArray, List.set_cons_zero, List.set_cons_succ]
          refine wpAnyT_done (by kernel_rfl) ?_ _
          have q0 : ((0 : Int) != 0) = false := rfl
          have x1 := PF.out.c1
          have HN1 : Hid (ZrH w n (n - (i + 1)) (.int .i64 ((i + 1 : Nat) : Int)) V8) := ⟨i + 1, rfl, by omega, rfl, below_step G.out GB.out⟩
          clear GB KB G PF BN ZF HZI k0 k1
          go_wp2_with fail
          go_roundg (n - (i + 1))
          case rel => exact HN1.out
          case measure => exact HMM.out
      · skip
        go_simp
        obtain ⟨V9, hW⟩ : ∃ V9, D1.alloc zbox = V9 := ⟨_, rfl⟩
        obtain ⟨b, sz9⟩ := alo1 D1 zbox
        rw [hW] at b sz9
        replace GB := hid (below_step GB.out b)
        have PN : Hid (Duo V9 D1.heap.size (.bool false) (.slice none 0 0)) := by unfold Hid; rw [← hW]; exact Duo.new _ _ _
        have BN : Hid (wr.heap.size ≤ D1.heap.size) := by unfold Hid; omega
        rw [hW]
        clear hW b
        refine hK.out _ _ (fun _ => KB.out _ GB.out) ?_
        clear hK
        try simp only [Act.put]
        refine wpAnyT_one (i := 5) (o := { dst := some 20, op := Op.call { callee := Callee.value (Operand.func 17), args := #[Operand.tmp 19], argTypes := #[25] }, type := 43, pos := "plain.go:34", after := #[{ on := 4, ground := Ground.data }], guard := none }) (by kernel_rfl) rfl (fun K hK => ?_)
        go_simp
        go_at_call 17
        refine (of12 (n := (p : Int)) (by omega) (by omega) _).mono ?_
        rintro e w10 ⟨r5, rfl, hz5, b⟩
        have lz10 := (show Below _ _ _ from b).size
        replace GB := hid (below_step GB.out b)
        have ZP := hid (hz5.more (l := kk + 1) (by omega))
        obtain ⟨np, xp, ap, cp, rfl, -, -, -⟩ := id hz5
        clear hz5
        replace PN := hid (PN.out.step b)
        clear b
        refine hK.out _ _ (fun _ => KB.out _ GB.out) ?_
        clear hK
        refine wpAnyT_one (i := 6) (o := { dst := some 21, op := Op.call { callee := Callee.value (Operand.func 34), args := #[Operand.tmp 18, Operand.tmp 20], argTypes := #[43, 43] }, type := 65, pos := "plain.go:34", after := #[{ on := 3, ground := Ground.data }, { on := 5, ground := Ground.data }, { on := 5, ground := Ground.chain }], guard := none }) (by kernel_rfl) rfl (fun K hK => ?_)
        go_simp
        go_at_call 34
        refine (rmod_z (ZF.out.now GB.out) ZP.out (by omega) (by omega)).mono ?_
        rintro e w11 ⟨r6, rfl, m6, b⟩
        have lz11 := (show Below _ _ _ from b).size
        replace GB := hid (below_step GB.out b)
        rw [HZI.out] at m6
        obtain ⟨am, cm, rfl⟩ := m6.nought
        clear m6
        replace PN := hid (PN.out.step b)
        clear b
        refine hK.out _ _ (fun _ => KB.out _ GB.out) ?_
        clear hK
        refine wpAnyT_takeA (i := 7) (oi := { dst := some 14, op := Op.move (Operand.tmp 21), type := 65, pos := "plain.go:34", after := #[{ on := 6, ground := Ground.data }], guard := none }) (v := (.tuple #[(.agg #[.bool false, .slice am 0 cm]), (.int .i64 0)])) rfl (by kernel_rfl) (fun _ _ _ h => h) (Or.inl ⟨by rfl, ?_⟩) (KB.out _ GB.out) ?_
        · intro w hSw
          (try dsimp only at hSw)
          go_simp
        simp only [Act.put, List.setIfInBounds_toArray, List.set_cons_zero, List.set_cons_succ]
        refine wpAnyT_takeA (i := 8) (oi := { dst := some 22, op := Op.extract (Operand.tmp 14) 0, type := 43, pos := "plain.go:34", after := #[{ on := 7, ground := Ground.data }], guard := none }) (v := (.agg #[.bool false, .slice am 0 cm])) rfl (by kernel_rfl) (fun _ _ _ h => h) (Or.inl ⟨by rfl, ?_⟩) (KB.out _ GB.out) ?_
        · intro w hSw
          (try dsimp only at hSw)
          go_simp
        simp only [Act.put, List.setIfInBounds_toArray, List.set_cons_zero, List.set_cons_succ]
        refine wpAnyT_takeA (i := 9) (oi := { dst := some 23, op := Op.extract (Operand.tmp 14) 1, type := 29, pos := "plain.go:34", after := #[{ on := 7, ground := Ground.data }, { on := 11, ground := Ground.gcOnly Departure.lateStores }], guard := none }) (v := (.int .i64 0)) rfl (by kernel_rfl) (fun _ _ _ h => h) (Or.inl ⟨by rfl, ?_⟩) (KB.out _ GB.out) ?_
        · intro w hSw
          (try dsimp only at hSw)
          go_simp
        simp only [Act.put, List.setIfInBounds_toArray, List.set_cons_zero, List.set_cons_succ]
        refine wpAnyT_one (i := 11) (o := { dst := none, op := Op.store 43 (Operand.tmp 6) (Operand.tmp 22), type := 0, pos := "plain.go:34", after := #[{ on := 10, ground := Ground.data }, { on := 8, ground := Ground.data }, { on := 6, ground := Ground.chain }, { on := 0, ground := Ground.phase }, { on := 1, ground := Ground.phase }, { on := 2, ground := Ground.phase }, { on := 3, ground := Ground.phase }, { on := 4, ground := Ground.phase }, { on := 5, ground := Ground.phase }, { on := 6, ground := Ground.phase }, { on := 7, ground := Ground.phase }, { on := 8, ground := Ground.phase }, { on := 9, ground := Ground.textOnly Departure.lateStores }, { on := 10, ground := Ground.phase }], guard := none }) (by kernel_rfl) rfl (fun K hK => ?_)
        have r0 := PN.out.c0
        have r1 := PN.out.c1
        have f0 := PN.out.fz 0
        have f1 := PN.out.fz 1
        go_simp
        clear r0 r1 f0 f1
        obtain ⟨V12, hW⟩ : ∃ V12, ((w11.setCell ⟨D1.heap.size, 0, none⟩ (.bool false)).setCell ⟨D1.heap.size, 1, none⟩ (.slice am 0 cm)) = V12 := ⟨_, rfl⟩
        have GE : Hid (Below wr.heap.size wr V12) := by unfold Hid; rw [← hW]; exact bset (bset GB.out BN.out) BN.out
        have PF : Hid (Duo V12 D1.heap.size (.bool false) (.slice am 0 cm)) := by unfold Hid; rw [← hW]; exact PN.out.set _ _
        replace GB := GE
        clear PN GE
        rw [hW]
        clear hW
        refine hK.out _ _ (fun _ => KB.out _ GB.out) ?_
        clear hK
        try simp only [Act.put]
        refine wpAnyT_takeA (i := 12) (oi := { dst := some 7, op := Op.assign (Operand.tmp 23), type := 29, pos := "plain.go:34", after := #[{ on := 9, ground := Ground.data }, { on := 11, ground := Ground.chain }, { on := 0, ground := Ground.phase }, { on := 1, ground := Ground.phase }, { on := 2, ground := Ground.phase }, { on := 3, ground := Ground.phase }, { on := 4, ground := Ground.phase }, { on := 5, ground := Ground.phase }, { on := 6, ground := Ground.phase }, { on := 7, ground := Ground.phase }, { on := 8, ground := Ground.phase }, { on := 9, ground := Ground.phase }, { on := 10, ground := Ground.phase }, { on := 11, ground := Ground.phase }], guard := none }) (v := (.int .i64 0)) rfl (by kernel_rfl) (fun _ _ _ h => h) (Or.inl ⟨by rfl, ?_⟩) (KB.out _ GB.out) ?_
        · intro w hSw
          (try dsimp only at hSw)
          go_simp
        simp only [Act.put, List.setIfInBounds_toArray, List.set_cons_zero, List.set_cons_succ]
        refine wpAnyT_done (by kernel_rfl) ?_ _
        have q0 : ((0 : Int) != 0) = false := rfl
        have x1 := PF.out.c1
        have HN1 : Hid (ZrH w n (n - (i + 1)) (.int .i64 ((i + 1 : Nat) : Int)) V12) := ⟨i + 1, rfl, by omega, rfl, below_step G.out GB.out⟩
        clear GB KB G PF BN ZF HZI k0 k1
        go_wp2_with fail
        go_roundg (n - (i + 1))
        case rel => exact HN1.out
        case measure => exact HMM.out
    · have hlt' : ¬ (i : Int) < (n : Int) := by omega
      clear HG
      go_wp2
      go_ret
      exact ⟨rfl, G.out⟩
end Go.Proofs.YtiedmlfiboalhaaGreat

/- Le12 -/
namespace Go.Proofs.YtiedmlfiboalhaaGreat
open Go.RowKit
set_option linter.unusedVariables false

/-- A residue in least form: no word, or one. -/
theorem least_form {w : World} {v : Value} {z : Int} {k p : Nat} (h : Zc w v z k) (hz : IsR p z) (hp : p < 2147483648) : ∃ a c, (z = 0 ∧ v = .agg #[.bool false, .slice a 0 c]) ∨ (0 < z ∧ v = .agg #[.bool false, .slice a 1 c] ∧ ∃ b off, a = some ⟨b, off, none⟩ ∧ w.cell? ⟨b, off, none⟩ = some (.int .u64 z)) := by
  obtain ⟨n, xs, a, c, rfl, hs, hc, hn, hv, -⟩ := h
  unfold IsR at hz
  have hvn := val_nonneg hs.1
  refine ⟨a, c, ?_⟩
  by_cases h0 : z = 0
  · left
    have h1 : val xs = 0 := by
      cases n
      · rw [iv_pos] at hv; omega
      · rw [iv_neg] at hv; omega
    have e := canon_zero hc h1
    subst e
    rw [hn rfl]
    exact ⟨h0, rfl⟩
  · right
    have hn0 : n = false := by
      cases n
      · rfl
      · rw [iv_neg] at hv; omega
    subst hn0
    rw [iv_pos] at hv
    have hone : xs = [z] := canon_inj hc (show Canon [z] from ⟨by intro x hx; simp at hx; subst hx; unfold IsW wB; omega, by simp [wid]; omega⟩) (by rw [hv]; simp [val])
    subst hone
    refine ⟨by omega, rfl, ?_⟩
    obtain ⟨-, a', cap, e1, -, -, e5⟩ := hs
    simp only [Value.slice.injEq] at e1
    obtain ⟨rfl, -, -⟩ := e1
    rcases e5 with e5 | ⟨b, off, e6, -, e8⟩
    · cases e5
    · exact ⟨b, off, e6, by simpa using e8 0 (by simp)⟩
set_option maxHeartbeats 1600000 in
set_option maxRecDepth 100000 in
theorem least12_yes {w : World} {B : Nat} {v : Value} {ps : List (Value × Value)} {zs : List Int} {k p : Nat} (ha : Prs B w v ps) (hza : Zcs w ps zs k) (hr : Res p zs) (hp : p < 2147483648) :
    Calls Tryz.prog 13 #[v, .int .u64 (p : Int)] w fun e w' => e = .returned (.bool true) ∧ w' = w := by
  have A0 := hid ha
  have ZA := hid hza
  have HR := hid hr
  obtain ⟨aa, ca, rfl, hca, hna, -, hfa⟩ := ha.form
  obtain ⟨n, hn⟩ : ∃ n, zs.length = n := ⟨_, rfl⟩
  rw [hza.1, hn] at A0 hca hna ⊢
  have FA : Hid (n ≠ 0 → ∃ b off, aa = some ⟨b, off, none⟩) := fun h => by
    obtain ⟨b, off, e, -⟩ := hfa (fun e => h (by rw [← hn, ← hza.1, e]; rfl))
    exact ⟨b, off, e⟩
  have HN := hid hn
  clear ha hza hr hfa hn
  go_enter Tryz.func13, Tryz.ntmps13
  go_wp2_with fail
  go_loop [5] (fun s => ∃ i : Nat, s = .int .i64 (i : Int) ∧ i ≤ n) (fun s => n - (intOf s).toNat)
  case atStart => exact ⟨0, rfl, Nat.zero_le _⟩
  case round =>
    obtain ⟨i, rfl, hi⟩ := hrel
    by_cases hlt : i < n
    · have hlt' : (i : Int) < (n : Int) := by omega
      obtain ⟨b1, o1, rfl⟩ := FA.out (by omega)
      have hix : i < zs.length := by rw [HN.out]; exact hlt
      obtain ⟨nf, xf, adf, qf, k0, k1, zf⟩ := Zcs.at9 A0.out ZA.out hix
      have rz := HR.out.at hix
      obtain ⟨a5, c5, h5⟩ := least_form zf rz hp
      obtain ⟨z, hz⟩ : ∃ z, zs[i] = z := ⟨_, rfl⟩
      rw [hz] at h5 rz
      have hw := wrapJ hlt hna
      clear zf hz hix
      rcases h5 with ⟨h0, e5⟩ | ⟨h0, e5, b, off, rfl, cz⟩
      · simp only [Value.agg.injEq, Array.mk.injEq, List.cons.injEq, and_true, Value.bool.injEq, Value.slice.injEq] at e5
        obtain ⟨rfl, rfl, e6, rfl⟩ := e5
        rw [e6] at k1
        have q1 : ¬ (1 : Int) < ((0 : Nat) : Int) := by omega
        have q2 : (((0 : Nat) : Int) == 1) = false := rfl
        clear h0 e6 rz
        go_wp2_with fail
        go_round
        case rel => exact ⟨i + 1, rfl, by omega⟩
        case measure => simp [intOf]; omega
      · simp only [Value.agg.injEq, Array.mk.injEq, List.cons.injEq, and_true, Value.bool.injEq, Value.slice.injEq] at e5
        obtain ⟨rfl, rfl, e6, rfl⟩ := e5
        rw [e6] at k1
        have q1 : ¬ (1 : Int) < ((1 : Nat) : Int) := by omega
        have q2 : (((1 : Nat) : Int) == 1) = true := rfl
        have q3 : (z == 0) = false := by simp; omega
        have q4 : decide ((p : Int) ≤ z) = false := decide_eq_false (by unfold IsR at rz; omega)
        clear h0 e6 rz
        go_wp2_with fail
        go_round
        case rel => exact ⟨i + 1, rfl, by omega⟩
        case measure => simp [intOf]; omega
    · have hlt' : ¬ (i : Int) < (n : Int) := by omega
      go_wp2
      go_ret
      exact ⟨rfl, rfl⟩
end Go.Proofs.YtiedmlfiboalhaaGreat
