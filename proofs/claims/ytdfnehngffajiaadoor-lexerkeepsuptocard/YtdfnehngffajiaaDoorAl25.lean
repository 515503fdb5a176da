/-
  Al25: the law's upTo and LexerAll, given what the calls answer; LexerNames, given awake.
-/
import Derived.Test.YtdfnehngffajiaaDoorRt25
namespace Go.Proofs.YtdfnehngffajiaaDoor
open Go.RowKit
set_option linter.unusedVariables false

/-- A script: its steps by their places. -/
def Script25 (w : World) (a : Option Addr) (len cap : Nat) (s : Nat → Int × ByteArray) : Prop :=
  len ≤ cap ∧ cap ≤ 35184372088832 ∧ (∀ k, k < len → (s k).2.size ≤ 1048576) ∧
  (len = 0 ∨ ∃ b off, a = some ⟨b, off, none⟩ ∧ b < w.heap.size ∧ ∀ k, k < len → w.cell? ⟨b, off + k * 2, none⟩ = some (.int .i64 (s k).1) ∧ w.cell? ⟨b, off + k * 2 + 1, none⟩ = some (.string (s k).2))
set_option maxRecDepth 100000 in
set_option maxHeartbeats 3200000 in
theorem upTo25 {w : World} {a : Option Addr} {len cap : Nat} {s : Nat → Int × ByteArray} {g : ByteArray → Int} (h : Script25 w a len cap s) (lo hi : Int)
    (hmx : MaxL w) (AW : Calls Tryd.prog 7 #[] w (Well25 w)) (BB : ∀ s : ByteArray, s.size ≤ 1048576 → Both25 s g) :
    Calls Tryd.prog 6 #[.slice a len cap, .int .i64 lo, .int .i64 hi] w (Well25 w) := by
  obtain ⟨hlc, hcm, hst, hm⟩ := h
  have HST := hid hst
  have HM := hid hm
  have HA := hid AW
  have HB := hid BB
  have HMX : Hid (∀ wx : World, Below w.heap.size w wx → MaxL wx) := hid fun wx hb => hmx.on hb
  clear hst hm hmx AW BB
  unfold Well25 at HA ⊢
  go_enter Tryd.func6, Tryd.ntmps6
  go_wp2_with fail
  refine HA.out.mono ?_
  rintro e w1 ⟨rfl, k1⟩
  have K1 := hid k1
  clear k1
  go_wp2_with fail
  go_loopg [7] len (fun gk s7 wx => ∃ k : Nat, gk = len - k ∧ s7 = .int .i64 (k : Int) ∧ k ≤ len ∧ Hid (Below w.heap.size w wx))
  case atStart => exact ⟨0, rfl, rfl, Nat.zero_le _, K1⟩
  case round =>
    clear K1
    obtain ⟨k, hgk, rfl, hk, HBW⟩ := hrel
    have HG := hid hgk
    clear hgk
    by_cases hlt : k < len
    · have hlt' : (k : Int) < (len : Int) := by omega
      rcases HM.out with e | ⟨b, off, rfl, hbg, hc⟩
      · omega
      obtain ⟨hc0, hc1⟩ := hc k hlt
      have c0 := (HBW.out.cell (p := ⟨b, off + k * 2, none⟩) hbg).trans hc0
      have c1 := (HBW.out.cell (p := ⟨b, off + k * 2 + 1, none⟩) hbg).trans hc1
      have hsz := HST.out k hlt
      obtain ⟨⟨kind, st⟩, hs⟩ : ∃ p, s k = p := ⟨_, rfl⟩
      rw [hs] at c0 c1 hsz
      dsimp only at c0 c1 hsz
      have RI : Hid (Calls Tryd.prog 16 #[.agg #[.int .i64 kind, .string st]] wr (Well25 wr)) := hid (right25 (by omega) (HMX.out _ HBW.out) (HB.out st hsz))
      unfold Well25 at RI
      have gi : IntKind.i64.wrap ((k : Int) + 1) = ((k + 1 : Nat) : Int) := by rw [wrap_is] <;> omega
      clear hc hc0 hc1 hs hsz HA HB HST
      by_cases ha : lo ≤ kind
      · by_cases hb : kind ≤ hi
        · go_wp2_with fail
          refine RI.out.mono ?_
          rintro e w3 ⟨rfl, q⟩
          have NX := hid (below_on25 HBW.out q)
          clear q RI HBW
          go_wp2_with fail
          go_roundg (len - (k + 1))
          case rel => exact ⟨k + 1, rfl, by first | rfl | go_num, by omega, NX⟩
          case measure => have := HG.out; omega
        · clear RI
          go_wp2_with fail
          go_roundg (len - (k + 1))
          case rel => exact ⟨k + 1, rfl, by first | rfl | go_num, by omega, HBW⟩
          case measure => have := HG.out; omega
      · clear RI
        go_wp2_with fail
        go_roundg (len - (k + 1))
        case rel => exact ⟨k + 1, rfl, by first | rfl | go_num, by omega, HBW⟩
        case measure => have := HG.out; omega
    · have hlt' : ¬ (k : Int) < (len : Int) := by omega
      clear HG HA HB HST HM
      go_wp2
      go_ret
      exact ⟨rfl, HBW.out⟩
theorem lexerAll_of {w : World} {a : Option Addr} {len cap : Nat} {s : Nat → Int × ByteArray} {g : ByteArray → Int} (h : Script25 w a len cap s)
    (hmx : MaxL w) (AW : Calls Tryd.prog 7 #[] w (Well25 w)) (BB : ∀ s : ByteArray, s.size ≤ 1048576 → Both25 s g) :
    Calls Tryd.prog 3 #[.slice a len cap] w (Well25 w) := by
  have HC := hid (upTo25 h 1 3 hmx AW BB)
  clear h AW BB
  unfold Well25 at HC ⊢
  go_enter Tryd.func3, Tryd.ntmps3
  go_wp2_with fail
  refine HC.out.mono ?_
  rintro e w1 ⟨rfl, hb⟩
  go_wp2
  go_ret
  exact ⟨rfl, hb⟩
end Go.Proofs.YtdfnehngffajiaaDoor
