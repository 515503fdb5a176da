/-
  TrimL: zeros at a text's beginning, cut off.
-/
import Derived.Test.YtpijffnconfboaaDoorQSquares
import Derived.Lib.TrimByte
import Derived.Laws.Strings3
namespace Go.Proofs.YtpijffnconfboaaDoor
open Go.RowKit
set_option linter.unusedVariables false

def slen : Value → Nat
  | .string s => s.size
  | _ => 0
theorem mk_size (l : List UInt8) : (⟨l.toArray⟩ : ByteArray).size = l.length := by simp [ByteArray.size]
theorem mk_tail (b : UInt8) (t : List UInt8) : (⟨(b :: t).toArray⟩ : ByteArray).extract 1 (t.length + 1) = ⟨t.toArray⟩ := by
  rw [Lib.extract_mk]
  simp
set_option maxRecDepth 100000 in
set_option maxHeartbeats 1600000 in
theorem trimByte_any (l : List UInt8) (c : UInt8) (w : World) (hl : l.length ≤ 1073741824) :
    Calls Tryd.prog 42 #[.string ⟨l.toArray⟩, .int .u8 c.toNat] w fun e w' => e = .returned (.string ⟨(l.dropWhile (· == c)).toArray⟩) ∧ w' = w := by
  go_enter Tryd.func42, Tryd.ntmps42
  go_wp2
  go_loop [0] (fun v => ∃ m : List UInt8, v = .string ⟨m.toArray⟩ ∧ m.length ≤ 1073741824 ∧ Hid (l.dropWhile (· == c) = m.dropWhile (· == c))) (fun v => slen v)
  case atStart => exact ⟨l, rfl, hl, rfl⟩
  case round =>
    obtain ⟨m, rfl, hm, HM⟩ := hrel
    cases m with
    | nil =>
      have hz : ((⟨([] : List UInt8).toArray⟩ : ByteArray)).size = 0 := rfl
      have HM2 : Hid ((⟨(l.dropWhile (· == c)).toArray⟩ : ByteArray) = ⟨([] : List UInt8).toArray⟩) := by unfold Hid; rw [HM.out]; rfl
      generalize (⟨([] : List UInt8).toArray⟩ : ByteArray) = s at *
      clear HM
      go_wp2
      go_ret
      exact ⟨by rw [HM2.out]; rfl, rfl⟩
    | cons b t =>
      have hs := mk_size (b :: t)
      have hx := mk_tail b t
      have hb0 : ∀ h, (⟨(b :: t).toArray⟩ : ByteArray)[0]'h = b := fun h => rfl
      simp only [List.length_cons] at hs hm
      by_cases q : b = c
      · have HM2 : Hid (l.dropWhile (· == c) = t.dropWhile (· == c)) := by unfold Hid; rw [HM.out, List.dropWhile_cons, if_pos (by simp [q])]
        generalize hss : (⟨(b :: t).toArray⟩ : ByteArray) = s at *
        generalize ht : t.length = n at *
        have HT := hid ht
        have h0 : 0 < s.size := by omega
        have hb1 := hb0 h0
        have q1 : ((s[0]'h0).toNat : Int) = (c.toNat : Int) := by rw [hb1, q]
        clear hb1 hb0 HM hss ht
        go_wp2
        go_round
        case rel => exact ⟨t, rfl, by rw [HT.out]; omega, HM2⟩
        case measure =>
          have := mk_size t
          have := HT.out
          simp only [slen]
          omega
      · have HM2 : Hid ((⟨(l.dropWhile (· == c)).toArray⟩ : ByteArray) = ⟨(b :: t).toArray⟩) := by unfold Hid; rw [HM.out, List.dropWhile_cons, if_neg (by simp [q])]
        generalize hss : (⟨(b :: t).toArray⟩ : ByteArray) = s at *
        have h0 : 0 < s.size := by omega
        have hb1 := hb0 h0
        have q1 : ¬ ((s[0]'h0).toNat : Int) = (c.toNat : Int) := by
          rw [hb1]
          intro e
          exact q (UInt8.toNat_inj.1 (by exact_mod_cast e))
        have q2 : (((s[0]'h0).toNat : Int) == (c.toNat : Int)) = false := by simpa using q1
        clear hb1 hb0 HM hss hx
        go_wp2
        go_ret
        exact ⟨by rw [HM2.out]; rfl, rfl⟩
set_option maxRecDepth 100000 in
set_option maxHeartbeats 1600000 in
theorem trimLeft_any (l : List UInt8) (w : World) (hl : l.length ≤ 1073741824) (h0 : l ≠ []) :
    Calls Tryd.prog 25 #[.string ⟨l.toArray⟩, .string ⟨#[48]⟩] w fun e w' => e = .returned (.string ⟨(l.dropWhile (· == 48)).toArray⟩) ∧ w' = w := by
  have HT := hid (trimByte_any l 48 w hl)
  have hs := mk_size l
  have hE : l.isEmpty = false := by simpa using h0
  have hq : ((⟨#[48]⟩ : ByteArray)[0]'Nat.zero_lt_one).toNat = 48 := rfl
  clear h0
  go_enter Tryd.func25, Tryd.ntmps25
  go_wp2_with fail
  refine HT.out.mono ?_
  rintro e w' ⟨rfl, rfl⟩
  clear HT
  go_wp2
  go_ret
  exact ⟨rfl, rfl⟩
end Go.Proofs.YtpijffnconfboaaDoor
