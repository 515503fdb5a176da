/-
  ValueOf: the value of a digit sign.
-/
import Derived.Test.YtdfnehngffajiabDoorQWordfulToText
namespace Go.Proofs.YtdfnehngffajiabDoor
open Go.RowKit
set_option linter.unusedVariables false

/-- The value of a sign, 99 of what is none. -/
def dv (c : Nat) : Nat := if 48 ≤ c ∧ c ≤ 57 then c - 48 else if 97 ≤ c ∧ c ≤ 122 then c - 87 else if 65 ≤ c ∧ c ≤ 90 then c - 55 else 99
def lw (c : Nat) : Nat := if 65 ≤ c ∧ c ≤ 90 then c + 32 else c
/-- What valueOf answers. -/
def vo (B c : Nat) : Nat := if dv c < B then dv c else B
theorem dv_of {d c : Nat} (hd : d < 36) (h : sgn d = (lw c : Int)) : dv c = d := by
  unfold sgn lw at h
  unfold dv
  split at h <;> split at h <;> (repeat' split) <;> omega
theorem sgn_dv {c : Nat} (h : dv c < 36) : sgn (dv c) = (lw c : Int) := by
  unfold dv at h ⊢
  unfold sgn lw
  (repeat' split at h) <;> (repeat' split) <;> omega
theorem vo_hit {B d c : Nat} (hB : B ≤ 36) (hd : d < B) (h : sgn d = (lw c : Int)) : vo B c = d := by
  unfold vo
  rw [dv_of (by omega) h, if_pos hd]
theorem vo_miss {B c : Nat} (hB : B ≤ 36) (h : ∀ e, e < B → sgn e ≠ (lw c : Int)) : vo B c = B := by
  unfold vo
  split
  · rename_i q
    exact absurd (sgn_dv (by omega)) (h _ q)
  · rfl
theorem sgn_range {d : Nat} (h : d < 36) : 48 ≤ sgn d ∧ sgn d ≤ 122 := by unfold sgn; split <;> omega
set_option maxRecDepth 100000 in
set_option maxHeartbeats 1600000 in
theorem valueOf_any {w : World} (hT : Sg w) {B : Nat} (hB : 2 ≤ B) (hB2 : B ≤ 36) {r : Nat} (hr : r ≤ 2147483647) :
    Calls Tryd.prog 39 #[.int .i32 (r : Int), .int .i64 (B : Int)] w fun e w' => e = .returned (.int .i64 (vo B r : Int)) ∧ w' = w := by
  have HT := hid hT
  have hl : lw r ≤ 2147483647 := by unfold lw; split <;> omega
  by_cases hu : 65 ≤ r ∧ r ≤ 90
  · have u1 : (65 : Int) ≤ (r : Int) := by omega
    have u2 : (r : Int) ≤ 90 := by omega
    have el : (r : Int) + 32 = (lw r : Int) := by unfold lw; rw [if_pos hu]; simp
    obtain ⟨V, hV⟩ : ∃ V, vo B r = V := ⟨_, rfl⟩
    have HV : Hid ((∀ d, d < B → sgn d = (lw r : Int) → V = d) ∧ ((∀ e, e < B → sgn e ≠ (lw r : Int)) → V = B)) := ⟨fun d h1 h2 => by rw [← hV]; exact vo_hit hB2 h1 h2, fun h => by rw [← hV]; exact vo_miss hB2 h⟩
    rw [hV]
    generalize lw r = q at *
    clear hT hV hu

    go_enter Tryd.func39, Tryd.ntmps39
    go_wp2_with fail
    go_loop [15] (fun i => ∃ d : Nat, d ≤ B ∧ i = .int .i64 (d : Int) ∧ Hid (∀ e, e < d → sgn e ≠ (q : Int))) (fun i => B - (intOf i).toNat)
    case atStart => exact ⟨0, Nat.zero_le _, rfl, fun e h => absurd h (Nat.not_lt_zero _)⟩
    case round =>
      obtain ⟨d, hd, rfl, HN⟩ := hrel
      by_cases hlt : d < B
      · have hd36 : d < 36 := by omega
        have c1 := HT.out d hd36
        have hr2 := sgn_range hd36
        by_cases hq : sgn d = (q : Int)
        · have hv := HV.out.1 d hlt hq
          subst hv
          generalize sgn V = x at *
          go_wp2
          go_ret
          exact ⟨rfl, rfl⟩
        · have hq2 : (sgn d == (q : Int)) = false := by simpa using hq
          have HN2 : Hid (∀ e, e < d + 1 → sgn e ≠ (q : Int)) := fun e he => by
            rcases Nat.lt_or_ge e d with h | h
            · exact HN.out e h
            · obtain rfl : e = d := by omega
              exact hq
          generalize sgn d = x at *
          clear HN
          go_wp2
          go_round
          case rel => exact ⟨d + 1, by omega, by go_num, HN2⟩
          case measure => first | (simp [intOf]; done) | (simp [intOf]; omega)
      · obtain rfl : d = B := by omega
        have hv := HV.out.2 HN.out
        subst hv
        go_wp2
        go_ret
        exact ⟨rfl, rfl⟩
  · have el : lw r = r := by unfold lw; rw [if_neg hu]
    obtain ⟨V, hV⟩ : ∃ V, vo B r = V := ⟨_, rfl⟩
    have HV : Hid ((∀ d, d < B → sgn d = (lw r : Int) → V = d) ∧ ((∀ e, e < B → sgn e ≠ (lw r : Int)) → V = B)) := ⟨fun d h1 h2 => by rw [← hV]; exact vo_hit hB2 h1 h2, fun h => by rw [← hV]; exact vo_miss hB2 h⟩
    rw [hV]
    rw [el] at HV hl
    obtain ⟨q, hq0⟩ : ∃ q, q = r := ⟨_, rfl⟩
    rw [← hq0] at HV hl hu hr ⊢
    clear hT hV el hq0
    by_cases u1 : (65 : Int) ≤ (q : Int)
    · have u2 : ¬ (q : Int) ≤ 90 := by omega

      go_enter Tryd.func39, Tryd.ntmps39
      go_wp2_with fail
      go_loop [15] (fun i => ∃ d : Nat, d ≤ B ∧ i = .int .i64 (d : Int) ∧ Hid (∀ e, e < d → sgn e ≠ (q : Int))) (fun i => B - (intOf i).toNat)
      case atStart => exact ⟨0, Nat.zero_le _, rfl, fun e h => absurd h (Nat.not_lt_zero _)⟩
      case round =>
        obtain ⟨d, hd, rfl, HN⟩ := hrel
        by_cases hlt : d < B
        · have hd36 : d < 36 := by omega
          have c1 := HT.out d hd36
          have hr2 := sgn_range hd36
          by_cases hq : sgn d = (q : Int)
          · have hv := HV.out.1 d hlt hq
            subst hv
            generalize sgn V = x at *
            go_wp2
            go_ret
            exact ⟨rfl, rfl⟩
          · have hq2 : (sgn d == (q : Int)) = false := by simpa using hq
            have HN2 : Hid (∀ e, e < d + 1 → sgn e ≠ (q : Int)) := fun e he => by
              rcases Nat.lt_or_ge e d with h | h
              · exact HN.out e h
              · obtain rfl : e = d := by omega
                exact hq
            generalize sgn d = x at *
            clear HN
            go_wp2
            go_round
            case rel => exact ⟨d + 1, by omega, by go_num, HN2⟩
            case measure => first | (simp [intOf]; done) | (simp [intOf]; omega)
        · obtain rfl : d = B := by omega
          have hv := HV.out.2 HN.out
          subst hv
          go_wp2
          go_ret
          exact ⟨rfl, rfl⟩
    · skip

      go_enter Tryd.func39, Tryd.ntmps39
      go_wp2_with fail
      go_loop [15] (fun i => ∃ d : Nat, d ≤ B ∧ i = .int .i64 (d : Int) ∧ Hid (∀ e, e < d → sgn e ≠ (q : Int))) (fun i => B - (intOf i).toNat)
      case atStart => exact ⟨0, Nat.zero_le _, rfl, fun e h => absurd h (Nat.not_lt_zero _)⟩
      case round =>
        obtain ⟨d, hd, rfl, HN⟩ := hrel
        by_cases hlt : d < B
        · have hd36 : d < 36 := by omega
          have c1 := HT.out d hd36
          have hr2 := sgn_range hd36
          by_cases hq : sgn d = (q : Int)
          · have hv := HV.out.1 d hlt hq
            subst hv
            generalize sgn V = x at *
            go_wp2
            go_ret
            exact ⟨rfl, rfl⟩
          · have hq2 : (sgn d == (q : Int)) = false := by simpa using hq
            have HN2 : Hid (∀ e, e < d + 1 → sgn e ≠ (q : Int)) := fun e he => by
              rcases Nat.lt_or_ge e d with h | h
              · exact HN.out e h
              · obtain rfl : e = d := by omega
                exact hq
            generalize sgn d = x at *
            clear HN
            go_wp2
            go_round
            case rel => exact ⟨d + 1, by omega, by go_num, HN2⟩
            case measure => first | (simp [intOf]; done) | (simp [intOf]; omega)
        · obtain rfl : d = B := by omega
          have hv := HV.out.2 HN.out
          subst hv
          go_wp2
          go_ret
          exact ⟨rfl, rfl⟩
end Go.Proofs.YtdfnehngffajiabDoor
