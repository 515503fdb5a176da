/-
  Hs25: the law's has.
-/
import Derived.Test.YtdfnehngffajiaaLx25
import Derived.Deep.LoopGhost
namespace Go.Proofs.Ytdfnehngffajiaa
open Go.RowKit
set_option linter.unusedVariables false

def HasD (s : ByteArray) (c : Nat) (w : World) (e : Ending) (w' : World) : Prop := ∃ b, e = .returned (.bool b) ∧ (b = false → ∀ j, j < s.size → byS s j ≠ c) ∧ w' = w
set_option maxHeartbeats 800000 in
set_option maxRecDepth 100000 in
theorem has25 (w : World) (s : ByteArray) (c : Nat) (hs : s.size ≤ 1000000000) : Calls Try.prog 10 #[.string s, .int .u8 (c : Int)] w (HasD s c w) := by
  have HAT : Hid (∀ (k : Nat) (h : k < s.size), ((s[k]'h).toNat : Int) = (byS s k : Int)) := fun k h => byS_at h
  go_enter Try.func10, Try.ntmps10
  go_wp2_with fail
  go_loopg [5] s.size (fun gk s5 wr => ∃ i : Nat, s5 = .int .i64 (i : Int) ∧ i ≤ s.size ∧ gk = s.size - i ∧ Hid (∀ j, j < i → byS s j ≠ c) ∧ wr = w)
  case atStart => exact ⟨0, rfl, Nat.zero_le _, rfl, fun j h => absurd h (Nat.not_lt_zero j), rfl⟩
  case round =>
    obtain ⟨i, rfl, hi, hgk, HJ, rfl⟩ := hrel
    have HGK := hid hgk
    clear hgk
    by_cases hlt : i < s.size
    · have h1 : (i : Int) < (s.size : Int) := by omega
      have hat := HAT.out i hlt
      have gi : IntKind.i64.wrap ((i : Int) + 1) = ((i + 1 : Nat) : Int) := by rw [wrap_is] <;> omega
      obtain ⟨d, hd⟩ : ∃ d, byS s i = d := ⟨_, rfl⟩
      rw [hd] at hat
      have HD := hid hd
      clear hd HAT
      by_cases q : d = c
      · have g1 : ((d : Int) == (c : Int)) = true := by rw [beq_iff_eq]; omega
        clear HJ HD HGK q
        go_wp2
        go_ret
        exact ⟨true, rfl, (fun e => by cases e), rfl⟩
      · have g1 : ((d : Int) == (c : Int)) = false := by rw [beq_eq_false_iff_ne]; omega
        have NX : Hid (∀ j, j < i + 1 → byS s j ≠ c) := hid fun j hj => by
          by_cases z : j = i
          · subst z; rw [HD.out]; exact q
          · exact HJ.out j (by omega)
        clear HJ HD
        go_wp2_with fail
        go_roundg (s.size - (i + 1))
        case rel => exact ⟨i + 1, by first | rfl | go_num, by omega, rfl, NX, rfl⟩
        case measure => have := HGK.out; omega
    · have h1 : ¬ (i : Int) < (s.size : Int) := by omega
      have FIN : Hid (∀ j, j < s.size → byS s j ≠ c) := hid fun j hj => HJ.out j (by omega)
      clear HJ HGK HAT
      go_wp2
      go_ret
      exact ⟨false, rfl, fun _ => FIN.out, rfl⟩
end Go.Proofs.Ytdfnehngffajiaa
