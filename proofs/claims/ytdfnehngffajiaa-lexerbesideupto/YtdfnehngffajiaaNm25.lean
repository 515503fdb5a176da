/-
  Nm25: the law LexerNames, given awake.
-/
import Derived.Test.YtdfnehngffajiaaLw25
import Derived.Test.YtdfnehngffajiaaRt25
namespace Go.Proofs.Ytdfnehngffajiaa
open Go.RowKit
set_option linter.unusedVariables false

set_option maxHeartbeats 1600000 in
set_option maxRecDepth 100000 in
theorem sameNums25 {w : World} {g g' : Nat} (hg : w.cell? ⟨g, 0, none⟩ = some (.int .i64 1)) (hg' : w.cell? ⟨g', 0, none⟩ = some (.int .i64 1)) :
    Calls Try.prog 7 #[.slice (some ⟨g, 0, none⟩) 1 1, .slice (some ⟨g', 0, none⟩) 1 1] w fun e w' => e = .returned (.bool true) ∧ ∃ n, w' = w.drewN n := by
  have c1 : ∀ q, (w.drewN q).cell? ⟨g, 0, none⟩ = some (.int .i64 1) := fun q => by simpa using hg
  have c2 : ∀ q, (w.drewN q).cell? ⟨g', 0, none⟩ = some (.int .i64 1) := fun q => by simpa using hg'
  clear hg hg'
  go_enter Try.func7, Try.ntmps7
  go_wp2
  go_loopg [5] 1 (fun gk s5 wr => ∃ k q : Nat, k ≤ 1 ∧ s5 = .int .i64 (k : Int) ∧ gk = 1 - k ∧ wr = w.drewN q)
  case atStart => exact ⟨0, 0, Nat.zero_le _, rfl, rfl, rfl⟩
  case round =>
    obtain ⟨k, q, hk, rfl, hgk, rfl⟩ := hrel
    have HGK := hid hgk
    clear hgk
    obtain rfl | rfl : k = 0 ∨ k = 1 := by omega
    · go_wp2
      go_quiet (fail)
      go_wp2
      go_roundg 0
      case rel => exact ⟨1, _, by omega, by first | rfl | go_num, rfl, rfl⟩
      case measure => have := HGK.out; omega
    · go_wp2
      go_ret
      exact ⟨rfl, q, rfl⟩
set_option maxHeartbeats 1600000 in
set_option maxRecDepth 100000 in
theorem lexerNames_of {w : World} (AW : Calls Try.prog 6 #[] w (Well25 w)) : Calls Try.prog 3 #[] w (Well25 w) := by
  have A0 := hid AW
  clear AW
  unfold Well25 at A0 ⊢
  go_enter Try.func3, Try.ntmps3
  go_wp2_with fail
  refine A0.out.mono ?_
  rintro x w1 ⟨rfl, b1⟩
  have B1 := hid b1
  clear A0 b1
  go_wp2_with fail
  refine (sameNums25 (by simp) (by simp)).mono ?_
  rintro x w2 ⟨rfl, n, rfl⟩
  go_wp2
  go_ret
  exact ⟨rfl, below_dr25 n (below_on25 (below_on25 B1.out ((Below.refl _ _).alloc (Nat.le_refl _) _)) ((Below.refl _ _).alloc (Nat.le_refl _) _))⟩
end Go.Proofs.Ytdfnehngffajiaa
