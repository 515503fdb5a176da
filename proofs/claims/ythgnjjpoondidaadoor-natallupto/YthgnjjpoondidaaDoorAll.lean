/-
  All: the walk of upTo and NatAll.
-/
import Derived.Test.YthgnjjpoondidaaDoorRight
namespace Go.Proofs.YthgnjjpoondidaaDoor
open Go.RowKit

/-- A script: its steps by their places. -/
structure Steps where
  kind : Nat → Int
  av : Nat → Value
  xs : Nat → List Int
  bv : Nat → Value
  ys : Nat → List Int
  n : Nat → Int
def Script (w : World) (a : Option Addr) (len cap : Nat) (s : Steps) : Prop :=
  len ≤ cap ∧ cap ≤ 35184372088832 ∧
  (∀ k, k < len → Sl w.heap.size w (s.av k) (s.xs k) ∧ (s.xs k).length ≤ 1048576 ∧ Sl w.heap.size w (s.bv k) (s.ys k) ∧ (s.ys k).length ≤ 1048576 ∧ -9223372036854775808 ≤ s.n k ∧ s.n k ≤ 9223372036854775807) ∧
  (len = 0 ∨ ∃ b off, a = some ⟨b, off, none⟩ ∧ b < w.heap.size ∧ ∀ k, k < len → w.cell? ⟨b, off + k * 4, none⟩ = some (.int .i64 (s.kind k)) ∧ w.cell? ⟨b, off + k * 4 + 1, none⟩ = some (s.av k) ∧ w.cell? ⟨b, off + k * 4 + 2, none⟩ = some (s.bv k) ∧ w.cell? ⟨b, off + k * 4 + 3, none⟩ = some (.int .i64 (s.n k)))

set_option maxHeartbeats 3200000 in
theorem upTo_any {w : World} {a : Option Addr} {len cap : Nat} {s : Steps} (h : Script w a len cap s) (hT : Tab w) (lo hi : Int) :
    Calls Tryd.prog 7 #[.slice a len cap, .int .i64 lo, .int .i64 hi] w fun e w' => e = .returned (.bool true) ∧ Below w.heap.size w w' := by
  obtain ⟨hlc, hcm, hst, hm⟩ := h
  have HST := hid hst
  have HM := hid hm
  have HT := hid hT
  clear hst hm hT
  go_enter Tryd.func7, Tryd.ntmps7
  go_wp2_with fail
  refine (awake_any _).mono ?_
  rintro e w1 ⟨rfl, k1⟩
  have K1 := hid k1
  clear k1
  go_wp2_with fail
  go_loopw [7] (fun i wr => ∃ k : Nat, k ≤ len ∧ i = .int .i64 k ∧ Below w.heap.size w wr) (fun i _ => len - (intOf i).toNat)
  case atStart => exact ⟨0, Nat.zero_le _, rfl, K1.out⟩
  case round =>
    clear K1
    obtain ⟨k, hk, rfl, hb⟩ := hrel
    by_cases hlt : k < len
    · rcases HM.out with e | ⟨b, off, rfl, hbg, hc⟩
      · omega
      obtain ⟨hc0, hc1, hc2, hc3⟩ := hc k hlt
      have c0 := (hb.cell (p := ⟨b, off + k * 4, none⟩) hbg).trans hc0
      have c1 := (hb.cell (p := ⟨b, off + k * 4 + 1, none⟩) hbg).trans hc1
      have c2 := (hb.cell (p := ⟨b, off + k * 4 + 2, none⟩) hbg).trans hc2
      have c3 := (hb.cell (p := ⟨b, off + k * 4 + 3, none⟩) hbg).trans hc3
      obtain ⟨sa, la, sb, lb, n0, n1⟩ := HST.out k hlt
      have HB := hid hb
      generalize s.kind k = kind at *
      generalize s.n k = n at *
      generalize s.av k = va at *
      generalize s.bv k = vb at *
      obtain ⟨aa, ca, rfl⟩ : ∃ aa ca, va = .slice aa (s.xs k).length ca := by obtain ⟨_, aa, ca, e, _⟩ := sa; exact ⟨aa, ca, e⟩
      obtain ⟨ab, cb, rfl⟩ : ∃ ab cb, vb = .slice ab (s.ys k).length cb := by obtain ⟨_, ab, cb, e, _⟩ := sb; exact ⟨ab, cb, e⟩
      have SA := hid sa
      have SB := hid sb
      clear hc hc0 hc1 hc2 hc3 sa sb hb
      go_wp2_with fail
      focus
        have kb := (Below.refl wr.heap.size wr).alloc (Nat.le_refl _) (.cells #[.int .i64 kind, .slice aa (s.xs k).length ca, .slice ab (s.ys k).length cb, .int .i64 n] 27)
        have g1 := below_step HB.out kb
        refine (right_any (SA.out.now g1) (SB.out.now g1) (HT.out.now g1) la lb kind n0 n1).mono ?_
        rintro e w2 ⟨rfl, k2⟩
        have g2 := hid (below_step g1 k2)
        clear k2 g1 kb
        go_wp2
        go_roundw
        case rel => exact ⟨k + 1, by omega, by go_num, g2.out⟩
        case measure => simp [intOf]; omega
      all_goals
        have g1 := HB.out.alloc HB.out.size (.cells #[.int .i64 kind, .slice aa (s.xs k).length ca, .slice ab (s.ys k).length cb, .int .i64 n] 27)
        go_roundw
        case rel => exact ⟨k + 1, by omega, by go_num, g1⟩
        case measure => simp [intOf]; omega
    · have HB := hid hb
      clear hb
      go_wp2
      go_ret
      exact ⟨rfl, HB.out⟩

theorem natAll_any {w : World} {a : Option Addr} {len cap : Nat} {s : Steps} (h : Script w a len cap s) (hT : Tab w) :
    Calls Tryd.prog 3 #[.slice a len cap] w fun e w' => e = .returned (.bool true) ∧ Below w.heap.size w w' := by
  have HC := hid (upTo_any h hT 1 10)
  clear h hT
  go_enter Tryd.func3, Tryd.ntmps3
  go_wp2_with fail
  refine HC.out.mono ?_
  rintro e w1 ⟨rfl, hb⟩
  go_wp2
  go_ret
  exact ⟨rfl, hb⟩
end Go.Proofs.YthgnjjpoondidaaDoor
