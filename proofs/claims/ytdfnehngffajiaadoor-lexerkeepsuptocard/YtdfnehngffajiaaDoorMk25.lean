/-
  Mk25: the reference's mark.
-/
import Derived.Test.YtdfnehngffajiaaDoorLx25
import Derived.Deep.LoopGhost
namespace Go.Proofs.YtdfnehngffajiaaDoor
open Go.RowKit
set_option linter.unusedVariables false

/-- The text of a mark. -/
def mkS (v : Nat) : ByteArray := if v = 8722 then ⟨#[45]⟩ else if v = 215 then ⟨#[42]⟩ else if v ∈ [43, 45, 42, 94, 39, 40, 41, 91, 93, 123, 125, 44, 59, 58, 61] then ⟨#[UInt8.ofNat v]⟩ else ⟨#[]⟩
set_option maxHeartbeats 1600000 in
set_option maxRecDepth 100000 in
theorem mark25 (w : World) (v : Nat) : Calls Tryd.prog 18 #[.int .i64 (v : Int)] w fun e w' => e = .returned (.string (mkS v)) ∧ w' = w := by
  by_cases c1 : v = 8722
  · subst c1
    go_enter Tryd.func18, Tryd.ntmps18
    go_wp2
    go_ret
    exact ⟨rfl, rfl⟩
  have f1 : ((v : Int) == 8722) = false := by rw [beq_eq_false_iff_ne]; omega
  by_cases c2 : v = 215
  · subst c2
    go_enter Tryd.func18, Tryd.ntmps18
    go_wp2
    go_ret
    exact ⟨rfl, rfl⟩
  have f2 : ((v : Int) == 215) = false := by rw [beq_eq_false_iff_ne]; omega
  go_enter Tryd.func18, Tryd.ntmps18
  go_wp2_with fail
  go_loopg [4] 15 (fun gk s4 wr => ∃ k : Nat, s4 = .int .i64 (k : Int) ∧ k ≤ 15 ∧ gk = 15 - k ∧ Hid (v ∉ List.take k [43, 45, 42, 94, 39, 40, 41, 91, 93, 123, 125, 44, 59, 58, 61]) ∧ wr = w)
  case atStart => exact ⟨0, rfl, by omega, rfl, hid (by simp), rfl⟩
  case round =>
    obtain ⟨k, rfl, hk, hgk, hn, rfl⟩ := hrel
    have HGK := hid hgk
    clear hgk
    obtain rfl | rfl | rfl | rfl | rfl | rfl | rfl | rfl | rfl | rfl | rfl | rfl | rfl | rfl | rfl | rfl := (by omega : k = 0 ∨ k = 1 ∨ k = 2 ∨ k = 3 ∨ k = 4 ∨ k = 5 ∨ k = 6 ∨ k = 7 ∨ k = 8 ∨ k = 9 ∨ k = 10 ∨ k = 11 ∨ k = 12 ∨ k = 13 ∨ k = 14 ∨ k = 15)
    · have hb : (((⟨#[43, 45, 42, 94, 39, 40, 41, 91, 93, 123, 125, 44, 59, 58, 61]⟩ : ByteArray)[0]'(by decide)).toNat : Int) = 43 := rfl
      by_cases hc : v = 43
      · subst hc
        clear HGK hn hk
        go_wp2
        go_ret
        exact ⟨by rfl, rfl⟩
      · have g1 : ((43 : Int) == (v : Int)) = false := by rw [beq_eq_false_iff_ne]; omega
        have HN : Hid (v ∉ List.take 1 [43, 45, 42, 94, 39, 40, 41, 91, 93, 123, 125, 44, 59, 58, 61]) := hid (by have := hn.out; simp at this ⊢; omega)
        clear hn
        go_wp2_with fail
        go_roundg 14
        case rel => exact ⟨1, rfl, by omega, rfl, HN, rfl⟩
        case measure => have := HGK.out; omega
    · have hb : (((⟨#[43, 45, 42, 94, 39, 40, 41, 91, 93, 123, 125, 44, 59, 58, 61]⟩ : ByteArray)[1]'(by decide)).toNat : Int) = 45 := rfl
      by_cases hc : v = 45
      · subst hc
        clear HGK hn hk
        go_wp2
        go_ret
        exact ⟨by rfl, rfl⟩
      · have g1 : ((45 : Int) == (v : Int)) = false := by rw [beq_eq_false_iff_ne]; omega
        have HN : Hid (v ∉ List.take 2 [43, 45, 42, 94, 39, 40, 41, 91, 93, 123, 125, 44, 59, 58, 61]) := hid (by have := hn.out; simp at this ⊢; omega)
        clear hn
        go_wp2_with fail
        go_roundg 13
        case rel => exact ⟨2, rfl, by omega, rfl, HN, rfl⟩
        case measure => have := HGK.out; omega
    · have hb : (((⟨#[43, 45, 42, 94, 39, 40, 41, 91, 93, 123, 125, 44, 59, 58, 61]⟩ : ByteArray)[2]'(by decide)).toNat : Int) = 42 := rfl
      by_cases hc : v = 42
      · subst hc
        clear HGK hn hk
        go_wp2
        go_ret
        exact ⟨by rfl, rfl⟩
      · have g1 : ((42 : Int) == (v : Int)) = false := by rw [beq_eq_false_iff_ne]; omega
        have HN : Hid (v ∉ List.take 3 [43, 45, 42, 94, 39, 40, 41, 91, 93, 123, 125, 44, 59, 58, 61]) := hid (by have := hn.out; simp at this ⊢; omega)
        clear hn
        go_wp2_with fail
        go_roundg 12
        case rel => exact ⟨3, rfl, by omega, rfl, HN, rfl⟩
        case measure => have := HGK.out; omega
    · have hb : (((⟨#[43, 45, 42, 94, 39, 40, 41, 91, 93, 123, 125, 44, 59, 58, 61]⟩ : ByteArray)[3]'(by decide)).toNat : Int) = 94 := rfl
      by_cases hc : v = 94
      · subst hc
        clear HGK hn hk
        go_wp2
        go_ret
        exact ⟨by rfl, rfl⟩
      · have g1 : ((94 : Int) == (v : Int)) = false := by rw [beq_eq_false_iff_ne]; omega
        have HN : Hid (v ∉ List.take 4 [43, 45, 42, 94, 39, 40, 41, 91, 93, 123, 125, 44, 59, 58, 61]) := hid (by have := hn.out; simp at this ⊢; omega)
        clear hn
        go_wp2_with fail
        go_roundg 11
        case rel => exact ⟨4, rfl, by omega, rfl, HN, rfl⟩
        case measure => have := HGK.out; omega
    · have hb : (((⟨#[43, 45, 42, 94, 39, 40, 41, 91, 93, 123, 125, 44, 59, 58, 61]⟩ : ByteArray)[4]'(by decide)).toNat : Int) = 39 := rfl
      by_cases hc : v = 39
      · subst hc
        clear HGK hn hk
        go_wp2
        go_ret
        exact ⟨by rfl, rfl⟩
      · have g1 : ((39 : Int) == (v : Int)) = false := by rw [beq_eq_false_iff_ne]; omega
        have HN : Hid (v ∉ List.take 5 [43, 45, 42, 94, 39, 40, 41, 91, 93, 123, 125, 44, 59, 58, 61]) := hid (by have := hn.out; simp at this ⊢; omega)
        clear hn
        go_wp2_with fail
        go_roundg 10
        case rel => exact ⟨5, rfl, by omega, rfl, HN, rfl⟩
        case measure => have := HGK.out; omega
    · have hb : (((⟨#[43, 45, 42, 94, 39, 40, 41, 91, 93, 123, 125, 44, 59, 58, 61]⟩ : ByteArray)[5]'(by decide)).toNat : Int) = 40 := rfl
      by_cases hc : v = 40
      · subst hc
        clear HGK hn hk
        go_wp2
        go_ret
        exact ⟨by rfl, rfl⟩
      · have g1 : ((40 : Int) == (v : Int)) = false := by rw [beq_eq_false_iff_ne]; omega
        have HN : Hid (v ∉ List.take 6 [43, 45, 42, 94, 39, 40, 41, 91, 93, 123, 125, 44, 59, 58, 61]) := hid (by have := hn.out; simp at this ⊢; omega)
        clear hn
        go_wp2_with fail
        go_roundg 9
        case rel => exact ⟨6, rfl, by omega, rfl, HN, rfl⟩
        case measure => have := HGK.out; omega
    · have hb : (((⟨#[43, 45, 42, 94, 39, 40, 41, 91, 93, 123, 125, 44, 59, 58, 61]⟩ : ByteArray)[6]'(by decide)).toNat : Int) = 41 := rfl
      by_cases hc : v = 41
      · subst hc
        clear HGK hn hk
        go_wp2
        go_ret
        exact ⟨by rfl, rfl⟩
      · have g1 : ((41 : Int) == (v : Int)) = false := by rw [beq_eq_false_iff_ne]; omega
        have HN : Hid (v ∉ List.take 7 [43, 45, 42, 94, 39, 40, 41, 91, 93, 123, 125, 44, 59, 58, 61]) := hid (by have := hn.out; simp at this ⊢; omega)
        clear hn
        go_wp2_with fail
        go_roundg 8
        case rel => exact ⟨7, rfl, by omega, rfl, HN, rfl⟩
        case measure => have := HGK.out; omega
    · have hb : (((⟨#[43, 45, 42, 94, 39, 40, 41, 91, 93, 123, 125, 44, 59, 58, 61]⟩ : ByteArray)[7]'(by decide)).toNat : Int) = 91 := rfl
      by_cases hc : v = 91
      · subst hc
        clear HGK hn hk
        go_wp2
        go_ret
        exact ⟨by rfl, rfl⟩
      · have g1 : ((91 : Int) == (v : Int)) = false := by rw [beq_eq_false_iff_ne]; omega
        have HN : Hid (v ∉ List.take 8 [43, 45, 42, 94, 39, 40, 41, 91, 93, 123, 125, 44, 59, 58, 61]) := hid (by have := hn.out; simp at this ⊢; omega)
        clear hn
        go_wp2_with fail
        go_roundg 7
        case rel => exact ⟨8, rfl, by omega, rfl, HN, rfl⟩
        case measure => have := HGK.out; omega
    · have hb : (((⟨#[43, 45, 42, 94, 39, 40, 41, 91, 93, 123, 125, 44, 59, 58, 61]⟩ : ByteArray)[8]'(by decide)).toNat : Int) = 93 := rfl
      by_cases hc : v = 93
      · subst hc
        clear HGK hn hk
        go_wp2
        go_ret
        exact ⟨by rfl, rfl⟩
      · have g1 : ((93 : Int) == (v : Int)) = false := by rw [beq_eq_false_iff_ne]; omega
        have HN : Hid (v ∉ List.take 9 [43, 45, 42, 94, 39, 40, 41, 91, 93, 123, 125, 44, 59, 58, 61]) := hid (by have := hn.out; simp at this ⊢; omega)
        clear hn
        go_wp2_with fail
        go_roundg 6
        case rel => exact ⟨9, rfl, by omega, rfl, HN, rfl⟩
        case measure => have := HGK.out; omega
    · have hb : (((⟨#[43, 45, 42, 94, 39, 40, 41, 91, 93, 123, 125, 44, 59, 58, 61]⟩ : ByteArray)[9]'(by decide)).toNat : Int) = 123 := rfl
      by_cases hc : v = 123
      · subst hc
        clear HGK hn hk
        go_wp2
        go_ret
        exact ⟨by rfl, rfl⟩
      · have g1 : ((123 : Int) == (v : Int)) = false := by rw [beq_eq_false_iff_ne]; omega
        have HN : Hid (v ∉ List.take 10 [43, 45, 42, 94, 39, 40, 41, 91, 93, 123, 125, 44, 59, 58, 61]) := hid (by have := hn.out; simp at this ⊢; omega)
        clear hn
        go_wp2_with fail
        go_roundg 5
        case rel => exact ⟨10, rfl, by omega, rfl, HN, rfl⟩
        case measure => have := HGK.out; omega
    · have hb : (((⟨#[43, 45, 42, 94, 39, 40, 41, 91, 93, 123, 125, 44, 59, 58, 61]⟩ : ByteArray)[10]'(by decide)).toNat : Int) = 125 := rfl
      by_cases hc : v = 125
      · subst hc
        clear HGK hn hk
        go_wp2
        go_ret
        exact ⟨by rfl, rfl⟩
      · have g1 : ((125 : Int) == (v : Int)) = false := by rw [beq_eq_false_iff_ne]; omega
        have HN : Hid (v ∉ List.take 11 [43, 45, 42, 94, 39, 40, 41, 91, 93, 123, 125, 44, 59, 58, 61]) := hid (by have := hn.out; simp at this ⊢; omega)
        clear hn
        go_wp2_with fail
        go_roundg 4
        case rel => exact ⟨11, rfl, by omega, rfl, HN, rfl⟩
        case measure => have := HGK.out; omega
    · have hb : (((⟨#[43, 45, 42, 94, 39, 40, 41, 91, 93, 123, 125, 44, 59, 58, 61]⟩ : ByteArray)[11]'(by decide)).toNat : Int) = 44 := rfl
      by_cases hc : v = 44
      · subst hc
        clear HGK hn hk
        go_wp2
        go_ret
        exact ⟨by rfl, rfl⟩
      · have g1 : ((44 : Int) == (v : Int)) = false := by rw [beq_eq_false_iff_ne]; omega
        have HN : Hid (v ∉ List.take 12 [43, 45, 42, 94, 39, 40, 41, 91, 93, 123, 125, 44, 59, 58, 61]) := hid (by have := hn.out; simp at this ⊢; omega)
        clear hn
        go_wp2_with fail
        go_roundg 3
        case rel => exact ⟨12, rfl, by omega, rfl, HN, rfl⟩
        case measure => have := HGK.out; omega
    · have hb : (((⟨#[43, 45, 42, 94, 39, 40, 41, 91, 93, 123, 125, 44, 59, 58, 61]⟩ : ByteArray)[12]'(by decide)).toNat : Int) = 59 := rfl
      by_cases hc : v = 59
      · subst hc
        clear HGK hn hk
        go_wp2
        go_ret
        exact ⟨by rfl, rfl⟩
      · have g1 : ((59 : Int) == (v : Int)) = false := by rw [beq_eq_false_iff_ne]; omega
        have HN : Hid (v ∉ List.take 13 [43, 45, 42, 94, 39, 40, 41, 91, 93, 123, 125, 44, 59, 58, 61]) := hid (by have := hn.out; simp at this ⊢; omega)
        clear hn
        go_wp2_with fail
        go_roundg 2
        case rel => exact ⟨13, rfl, by omega, rfl, HN, rfl⟩
        case measure => have := HGK.out; omega
    · have hb : (((⟨#[43, 45, 42, 94, 39, 40, 41, 91, 93, 123, 125, 44, 59, 58, 61]⟩ : ByteArray)[13]'(by decide)).toNat : Int) = 58 := rfl
      by_cases hc : v = 58
      · subst hc
        clear HGK hn hk
        go_wp2
        go_ret
        exact ⟨by rfl, rfl⟩
      · have g1 : ((58 : Int) == (v : Int)) = false := by rw [beq_eq_false_iff_ne]; omega
        have HN : Hid (v ∉ List.take 14 [43, 45, 42, 94, 39, 40, 41, 91, 93, 123, 125, 44, 59, 58, 61]) := hid (by have := hn.out; simp at this ⊢; omega)
        clear hn
        go_wp2_with fail
        go_roundg 1
        case rel => exact ⟨14, rfl, by omega, rfl, HN, rfl⟩
        case measure => have := HGK.out; omega
    · have hb : (((⟨#[43, 45, 42, 94, 39, 40, 41, 91, 93, 123, 125, 44, 59, 58, 61]⟩ : ByteArray)[14]'(by decide)).toNat : Int) = 61 := rfl
      by_cases hc : v = 61
      · subst hc
        clear HGK hn hk
        go_wp2
        go_ret
        exact ⟨by rfl, rfl⟩
      · have g1 : ((61 : Int) == (v : Int)) = false := by rw [beq_eq_false_iff_ne]; omega
        have HN : Hid (v ∉ List.take 15 [43, 45, 42, 94, 39, 40, 41, 91, 93, 123, 125, 44, 59, 58, 61]) := hid (by have := hn.out; simp at this ⊢; omega)
        clear hn
        go_wp2_with fail
        go_roundg 0
        case rel => exact ⟨15, rfl, by omega, rfl, HN, rfl⟩
        case measure => have := HGK.out; omega
    · have hq : mkS v = ⟨#[]⟩ := by
        unfold mkS
        rw [if_neg c1, if_neg c2, if_neg (show v ∉ [43, 45, 42, 94, 39, 40, 41, 91, 93, 123, 125, 44, 59, 58, 61] from hn.out)]
      clear hn HGK hk
      go_wp2
      go_ret
      exact ⟨by rw [hq]; rfl, rfl⟩
end Go.Proofs.YtdfnehngffajiaaDoor
