/-
  Tx25: the law's texts and tokens, at two lists that are the same.
-/
import Derived.Test.YtdfnehngffajiaaDoorTk25
import Derived.Deep.LoopGhost
namespace Go.Proofs.YtdfnehngffajiaaDoor
open Go.RowKit
set_option linter.unusedVariables false

set_option maxHeartbeats 1600000 in
set_option maxRecDepth 100000 in
theorem texts25 {B B' : Nat} {w : World} {va vb : Value} {L : List ByteArray} (ha : Strs B w va L) (hb : Strs B' w vb L) (hl : L.length ≤ 1000000000000) :
    Calls Tryd.prog 12 #[va, vb] w fun e w' => e = .returned (.bool true) ∧ ∃ n, w' = w.drewN n := by
  obtain ⟨a, cap, rfl⟩ := ha.form
  obtain ⟨a', cap', rfl⟩ := hb.form
  have HA := hid ha
  have HB := hid hb
  clear ha hb
  obtain ⟨n, hn⟩ : ∃ n, L.length = n := ⟨_, rfl⟩
  rw [hn] at HA HB hl ⊢
  have HN := hid hn
  clear hn
  have hne : ((n : Int) != (n : Int)) = false := by simp
  go_enter Tryd.func12, Tryd.ntmps12
  go_wp2
  go_loopg [5] n (fun gk s5 wr => ∃ k q : Nat, k ≤ n ∧ s5 = .int .i64 (k : Int) ∧ gk = n - k ∧ wr = w.drewN q)
  case atStart => exact ⟨0, 0, Nat.zero_le _, rfl, rfl, rfl⟩
  case round =>
    obtain ⟨k, q, hk, rfl, hgk, rfl⟩ := hrel
    have HGK := hid hgk
    clear hgk
    by_cases hlt : k < n
    · have hk1 : k < L.length := by have := HN.out; omega
      have hlt' : (k : Int) < (n : Int) := by omega
      have gi : IntKind.i64.wrap ((k : Int) + 1) = ((k + 1 : Nat) : Int) := by rw [wrap_is] <;> omega
      obtain ⟨g, rfl, _, hg⟩ := HA.out.at hk1
      obtain ⟨g', rfl, _, hg'⟩ := HB.out.at hk1
      obtain ⟨x, hx⟩ : ∃ x, L[k] = x := ⟨_, rfl⟩
      rw [hx] at hg hg'
      have ht : (x.toList == x.toList) = true := by simp
      have c1 : ∀ q, (w.drewN q).cell? ⟨g, k, none⟩ = some (.string x) := fun q => by simpa using hg
      have c2 : ∀ q, (w.drewN q).cell? ⟨g', k, none⟩ = some (.string x) := fun q => by simpa using hg'
      clear hg hg' hx HA HB
      go_wp2
      go_quiet (fail)
      go_wp2
      go_roundg (n - (k + 1))
      case rel => exact ⟨k + 1, _, by omega, by first | rfl | go_num, rfl, rfl⟩
      case measure => have := HGK.out; omega
    · have hlt' : ¬ (k : Int) < (n : Int) := by omega
      go_wp2
      go_ret
      exact ⟨rfl, q, rfl⟩
set_option maxHeartbeats 1600000 in
set_option maxRecDepth 100000 in
theorem tokens25 {B B' : Nat} {w : World} {va vb : Value} {L : List Tok} (ha : Toks B w va L) (hb : Toks B' w vb L) (hl : L.length ≤ 1000000000000) :
    Calls Tryd.prog 13 #[va, vb] w fun e w' => e = .returned (.bool true) ∧ ∃ n, w' = w.drewN n := by
  obtain ⟨a, cap, rfl⟩ := ha.form
  obtain ⟨a', cap', rfl⟩ := hb.form
  have HA := hid ha
  have HB := hid hb
  clear ha hb
  obtain ⟨n, hn⟩ : ∃ n, L.length = n := ⟨_, rfl⟩
  rw [hn] at HA HB hl ⊢
  have HN := hid hn
  clear hn
  have hne : ((n : Int) != (n : Int)) = false := by simp
  go_enter Tryd.func13, Tryd.ntmps13
  go_wp2
  go_loopg [5] n (fun gk s5 wr => ∃ k q : Nat, k ≤ n ∧ s5 = .int .i64 (k : Int) ∧ gk = n - k ∧ wr = w.drewN q)
  case atStart => exact ⟨0, 0, Nat.zero_le _, rfl, rfl, rfl⟩
  case round =>
    obtain ⟨k, q, hk, rfl, hgk, rfl⟩ := hrel
    have HGK := hid hgk
    clear hgk
    by_cases hlt : k < n
    · have hk1 : k < L.length := by have := HN.out; omega
      have hlt' : (k : Int) < (n : Int) := by omega
      have gi : IntKind.i64.wrap ((k : Int) + 1) = ((k + 1 : Nat) : Int) := by rw [wrap_is] <;> omega
      obtain ⟨g, rfl, _, hg0, hg1, hg2⟩ := HA.out.at hk1
      obtain ⟨g', rfl, _, hg0', hg1', hg2'⟩ := HB.out.at hk1
      obtain ⟨⟨xk, xx, xc⟩, hx⟩ : ∃ x, L[k] = x := ⟨_, rfl⟩
      rw [hx] at hg0 hg1 hg2 hg0' hg1' hg2'
      dsimp only at hg0 hg1 hg2 hg0' hg1' hg2'
      have ht : (xx.toList == xx.toList) = true := by simp
      have hti : (xk == xk) = true := by simp
      have htc : (xc == xc) = true := by simp
      have c1 : ∀ q, (w.drewN q).cell? ⟨g, k * 3, none⟩ = some (.int .i64 xk) := fun q => by simpa using hg0
      have c2 : ∀ q, (w.drewN q).cell? ⟨g, k * 3 + 1, none⟩ = some (.string xx) := fun q => by simpa using hg1
      have c3 : ∀ q, (w.drewN q).cell? ⟨g, k * 3 + 2, none⟩ = some (.int .i64 xc) := fun q => by simpa using hg2
      have d1 : ∀ q, (w.drewN q).cell? ⟨g', k * 3, none⟩ = some (.int .i64 xk) := fun q => by simpa using hg0'
      have d2 : ∀ q, (w.drewN q).cell? ⟨g', k * 3 + 1, none⟩ = some (.string xx) := fun q => by simpa using hg1'
      have d3 : ∀ q, (w.drewN q).cell? ⟨g', k * 3 + 2, none⟩ = some (.int .i64 xc) := fun q => by simpa using hg2'
      clear hg0 hg1 hg2 hg0' hg1' hg2' hx HA HB
      go_wp2
      go_quiet (fail)
      go_wp2
      go_roundg (n - (k + 1))
      case rel => exact ⟨k + 1, _, by omega, by first | rfl | go_num, rfl, rfl⟩
      case measure => have := HGK.out; omega
    · have hlt' : ¬ (k : Int) < (n : Int) := by omega
      go_wp2
      go_ret
      exact ⟨rfl, q, rfl⟩
end Go.Proofs.YtdfnehngffajiaaDoor
