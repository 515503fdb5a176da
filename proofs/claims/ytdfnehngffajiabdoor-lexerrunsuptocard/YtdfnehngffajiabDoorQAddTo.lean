/-
  AddTo: the contract of addTo.
-/
import Derived.Test.YtdfnehngffajiabDoorQCarryToMade
namespace Go.Proofs.YtdfnehngffajiabDoor
open Go.RowKit

set_option maxHeartbeats 800000 in
theorem addTo_any {g : Nat} {w : World} {u : Value} {zs0 ys : List Int} {r : List Value} {cap : Nat} (hz0 : WF zs0) (hrow : Row w g (ws zs0 ++ r)) (hlz : zs0.length ≤ 35184372088832) (hy : Sl g w u ys) (hl : ys.length ≤ zs0.length) :
    Calls Tryd.prog 57 #[.slice (some ⟨g, 0, none⟩) zs0.length cap, u] w fun e w' =>
      ∃ zs c, e = .returned (.int .u64 c) ∧ zs.length = zs0.length ∧ WF zs ∧ 0 ≤ c ∧ c ≤ 1 ∧ val zs + pw zs0.length * c = val zs0 + val ys ∧ Row w' g (ws zs ++ r) ∧ Below g w w' := by
  obtain ⟨hwy, a, capy, rfl, hlc, hcm, hm⟩ := hy
  have HV0 : Hid (val zs0 + pw 0 * 0 = val zs0 + val (ys.take 0)) := by unfold Hid; simp [val]
  have HTL : Hid (ys.take ys.length = ys) := by unfold Hid; simp
  obtain ⟨m, hmz⟩ : ∃ m, m = zs0.length := ⟨_, rfl⟩
  obtain ⟨n, hny⟩ : ∃ n, n = ys.length := ⟨_, rfl⟩
  rw [← hmz] at hl hlz
  rw [← hny] at hl hlc HTL
  rw [← hmz, ← hny]
  have HM : Hid (m = zs0.length) := hmz
  have HN : Hid (n = ys.length) := hny
  clear hmz hny
  go_enter Tryd.func57, Tryd.ntmps57
  go_wp2_with fail
  go_loopw [5, 10] (fun c i wr => ∃ (k : Nat) (zs : List Int) (cc : Int), k ≤ n ∧ i = .int .i64 k ∧ c = .int .u64 cc ∧ 0 ≤ cc ∧ cc ≤ 1 ∧ Hid (zs.length = m) ∧ WF zs ∧ Hid (val zs + pw k * cc = val zs0 + val (ys.take k)) ∧ Row wr g (ws zs ++ r) ∧ Below g w wr) (fun _ i _ => n - (intOf i).toNat)
  case atStart => exact ⟨0, zs0, 0, Nat.zero_le _, rfl, rfl, by omega, by omega, HM.out.symm, hz0, HV0, hrow, Below.refl _ _⟩
  case round =>
    obtain ⟨k, zs, cc, hk, rfl, rfl, hc0, hc1, HL, hwz, HV, hr, hb⟩ := hrel
    by_cases hlt : k < n
    · have hk1 : k < zs.length := by have := HL.out; omega
      have hk2 : k < ys.length := by have := HN.out; omega
      rcases hm with e | ⟨b, off, rfl, hbg, hcy⟩
      · subst e; simp at hk2
      have c1 : wr.cell? ⟨g, k, none⟩ = some (.int .u64 zs[k]) := hr.word hk1
      have c2 : wr.cell? ⟨b, off + k, none⟩ = some (.int .u64 ys[k]) := (hb.cell (p := ⟨b, off + k, none⟩) hbg).trans (hcy k hk2)
      have cf : wr.frozen? ⟨g, k, none⟩ = false := hr.frozen k
      obtain ⟨s, d, hs, hd0, hd1, hsum, hadd⟩ := add64_run (hwz.get hk1) (hwy.get hk2) hc0 hc1
      have HV' : Hid (val (zs.set k s) + pw (k + 1) * d = val zs0 + val (ys.take (k + 1))) := carry_step hk1 HV.out (val_take_succ ys k hk2) hsum rfl
      have hwz' : WF (zs.set k s) := hwz.set k hs
      have HR := hr.setWord hk1 s
      have HB := hb.setCell (p := ⟨g, k, none⟩) (Nat.le_refl _) (.int .u64 s)
      clear hsum hs
      generalize zs[k] = x at *
      generalize ys[k] = y at *
      have HL' : Hid ((zs.set k s).length = m) := by unfold Hid; rw [List.length_set]; exact HL.out
      generalize zs.set k s = zs' at *
      clear hcy hr hb hwz HV hrow HL
      go_wp2_with fail
      have i0 : (0 : Int) ≤ (k : Int) := by omega
      have i1 : (k : Int) < (n : Int) := by omega
      have i2 : (k : Int) < (m : Int) := by omega
      go_region
      go_wp2
      go_roundw
      case rel => exact ⟨k + 1, zs', d, by omega, by go_num, rfl, hd0, hd1, HL', hwz', HV', HR.drewN 1, HB.drew⟩
      case measure => simp [intOf]; omega
    · obtain rfl : k = n := by omega
      rw [HTL.out] at HV
      clear hm hrow hz0 hwy HTL HV0
      go_wp2_with fail
      go_loopw [5, 7] (fun c i wr => ∃ (j : Nat) (zs : List Int) (cc : Int), j ≤ m ∧ i = .int .i64 j ∧ c = .int .u64 cc ∧ 0 ≤ cc ∧ cc ≤ 1 ∧ Hid (zs.length = m) ∧ WF zs ∧ Hid (val zs + pw j * cc = val zs0 + val ys) ∧ Row wr g (ws zs ++ r) ∧ Below g w wr) (fun _ i _ => m - (intOf i).toNat)
      case atStart => exact ⟨k, zs, cc, hl, rfl, rfl, hc0, hc1, HL, hwz, HV, hr, hb⟩
      case round =>
        clear HV hr hb hwz HL hc0 hc1
        obtain ⟨j, zs, cc, hj, rfl, rfl, hc0, hc1, HL, hwz, HV, hr, hb⟩ := hrel
        by_cases hcc : cc = 0
        · have hcb : (cc != 0) = false := by simp [hcc]
          have HCC : Hid (cc = 0) := hcc
          clear hcc
          go_wp2
          go_ret
          refine ⟨zs, cc, rfl, HL.out, hwz, hc0, hc1, ?_, hr, hb⟩
          have := HV.out
          rw [HCC.out] at this ⊢
          simpa using this
        · have hcb : (cc != 0) = true := by simp [hcc]
          clear hcc
          by_cases hlt : j < m
          · have hk1 : j < zs.length := by have := HL.out; omega
            have c1 : wr.cell? ⟨g, j, none⟩ = some (.int .u64 zs[j]) := hr.word hk1
            have cf : wr.frozen? ⟨g, j, none⟩ = false := hr.frozen j
            obtain ⟨s, d, hs, hd0, hd1, hsum, hadd⟩ := add64_run (hwz.get hk1) (show IsW 0 by unfold IsW wB; omega) hc0 hc1
            have HV' : Hid (val (zs.set j s) + pw (j + 1) * d = val zs0 + val ys) := carry_step hk1 HV.out (y := 0) (by simp) hsum rfl
            have hwz' : WF (zs.set j s) := hwz.set j hs
            have HR := hr.setWord hk1 s
            have HB := hb.setCell (p := ⟨g, j, none⟩) (Nat.le_refl _) (.int .u64 s)
            clear hsum hs
            generalize zs[j] = x at *
            have HL' : Hid ((zs.set j s).length = m) := by unfold Hid; rw [List.length_set]; exact HL.out
            generalize zs.set j s = zs' at *
            clear hr hb hwz HV HL
            have i0 : (0 : Int) ≤ (j : Int) := by omega
            have i2 : (j : Int) < (m : Int) := by omega
            go_wp2
            go_roundw
            case rel => exact ⟨j + 1, zs', d, by omega, by go_num, rfl, hd0, hd1, HL', hwz', HV', HR, HB⟩
            case measure => simp [intOf]; omega
          · obtain rfl : j = m := by omega
            go_wp2
            go_ret
            exact ⟨zs, cc, rfl, HL.out, hwz, hc0, hc1, HV.out, hr, hb⟩
end Go.Proofs.YtdfnehngffajiabDoor
