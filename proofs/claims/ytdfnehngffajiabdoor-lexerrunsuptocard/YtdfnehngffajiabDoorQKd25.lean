/-
  Kd25: the program's markText, isLetter, kindOf.
-/
import Derived.Test.YtdfnehngffajiabDoorQLn25ToTo25
import Derived.Test.YtdfnehngffajiabDoorQCp25ToLib25
namespace Go.Proofs.YtdfnehngffajiabDoor
open Go.RowKit
set_option linter.unusedVariables false

theorem markText25 (w : World) (v : Nat) : Calls Tryd.prog 24 #[.int .i32 (v : Int)] w fun e w' => e = .returned (.string (mkS v)) ∧ w' = w := by
  by_cases c0 : v = 43
  · subst c0
    go_enter Tryd.func24, Tryd.ntmps24
    go_wp2
    go_ret
    exact ⟨by first | rfl | decide +kernel, rfl⟩
  by_cases c1 : v = 45
  · subst c1
    go_enter Tryd.func24, Tryd.ntmps24
    go_wp2
    go_ret
    exact ⟨by first | rfl | decide +kernel, rfl⟩
  by_cases c2 : v = 42
  · subst c2
    go_enter Tryd.func24, Tryd.ntmps24
    go_wp2
    go_ret
    exact ⟨by first | rfl | decide +kernel, rfl⟩
  by_cases c3 : v = 94
  · subst c3
    go_enter Tryd.func24, Tryd.ntmps24
    go_wp2
    go_ret
    exact ⟨by first | rfl | decide +kernel, rfl⟩
  by_cases c4 : v = 39
  · subst c4
    go_enter Tryd.func24, Tryd.ntmps24
    go_wp2
    go_ret
    exact ⟨by first | rfl | decide +kernel, rfl⟩
  by_cases c5 : v = 40
  · subst c5
    go_enter Tryd.func24, Tryd.ntmps24
    go_wp2
    go_ret
    exact ⟨by first | rfl | decide +kernel, rfl⟩
  by_cases c6 : v = 41
  · subst c6
    go_enter Tryd.func24, Tryd.ntmps24
    go_wp2
    go_ret
    exact ⟨by first | rfl | decide +kernel, rfl⟩
  by_cases c7 : v = 91
  · subst c7
    go_enter Tryd.func24, Tryd.ntmps24
    go_wp2
    go_ret
    exact ⟨by first | rfl | decide +kernel, rfl⟩
  by_cases c8 : v = 93
  · subst c8
    go_enter Tryd.func24, Tryd.ntmps24
    go_wp2
    go_ret
    exact ⟨by first | rfl | decide +kernel, rfl⟩
  by_cases c9 : v = 123
  · subst c9
    go_enter Tryd.func24, Tryd.ntmps24
    go_wp2
    go_ret
    exact ⟨by first | rfl | decide +kernel, rfl⟩
  by_cases c10 : v = 125
  · subst c10
    go_enter Tryd.func24, Tryd.ntmps24
    go_wp2
    go_ret
    exact ⟨by first | rfl | decide +kernel, rfl⟩
  by_cases c11 : v = 44
  · subst c11
    go_enter Tryd.func24, Tryd.ntmps24
    go_wp2
    go_ret
    exact ⟨by first | rfl | decide +kernel, rfl⟩
  by_cases c12 : v = 59
  · subst c12
    go_enter Tryd.func24, Tryd.ntmps24
    go_wp2
    go_ret
    exact ⟨by first | rfl | decide +kernel, rfl⟩
  by_cases c13 : v = 58
  · subst c13
    go_enter Tryd.func24, Tryd.ntmps24
    go_wp2
    go_ret
    exact ⟨by first | rfl | decide +kernel, rfl⟩
  by_cases c14 : v = 61
  · subst c14
    go_enter Tryd.func24, Tryd.ntmps24
    go_wp2
    go_ret
    exact ⟨by first | rfl | decide +kernel, rfl⟩
  by_cases c15 : v = 8722
  · subst c15
    go_enter Tryd.func24, Tryd.ntmps24
    go_wp2
    go_ret
    exact ⟨by first | rfl | decide +kernel, rfl⟩
  by_cases c16 : v = 215
  · subst c16
    go_enter Tryd.func24, Tryd.ntmps24
    go_wp2
    go_ret
    exact ⟨by first | rfl | decide +kernel, rfl⟩
  have hm : mkS v = ⟨#[]⟩ := by
    unfold mkS
    rw [if_neg c15, if_neg c16, if_neg ?_]
    simp only [List.mem_cons, List.not_mem_nil, or_false, not_or]
    exact ⟨c0, c1, c2, c3, c4, c5, c6, c7, c8, c9, c10, c11, c12, c13, c14⟩
  have f0 : ((v : Int) == 43) = false := by rw [beq_eq_false_iff_ne]; omega
  have f1 : ((v : Int) == 45) = false := by rw [beq_eq_false_iff_ne]; omega
  have f2 : ((v : Int) == 42) = false := by rw [beq_eq_false_iff_ne]; omega
  have f3 : ((v : Int) == 94) = false := by rw [beq_eq_false_iff_ne]; omega
  have f4 : ((v : Int) == 39) = false := by rw [beq_eq_false_iff_ne]; omega
  have f5 : ((v : Int) == 40) = false := by rw [beq_eq_false_iff_ne]; omega
  have f6 : ((v : Int) == 41) = false := by rw [beq_eq_false_iff_ne]; omega
  have f7 : ((v : Int) == 91) = false := by rw [beq_eq_false_iff_ne]; omega
  have f8 : ((v : Int) == 93) = false := by rw [beq_eq_false_iff_ne]; omega
  have f9 : ((v : Int) == 123) = false := by rw [beq_eq_false_iff_ne]; omega
  have f10 : ((v : Int) == 125) = false := by rw [beq_eq_false_iff_ne]; omega
  have f11 : ((v : Int) == 44) = false := by rw [beq_eq_false_iff_ne]; omega
  have f12 : ((v : Int) == 59) = false := by rw [beq_eq_false_iff_ne]; omega
  have f13 : ((v : Int) == 58) = false := by rw [beq_eq_false_iff_ne]; omega
  have f14 : ((v : Int) == 61) = false := by rw [beq_eq_false_iff_ne]; omega
  have f15 : ((v : Int) == 8722) = false := by rw [beq_eq_false_iff_ne]; omega
  have f16 : ((v : Int) == 215) = false := by rw [beq_eq_false_iff_ne]; omega
  rw [hm]
  clear hm c0 c1 c2 c3 c4 c5 c6 c7 c8 c9 c10 c11 c12 c13 c14 c15 c16
  go_enter Tryd.func24, Tryd.ntmps24
  go_wp2
  go_ret
  exact ⟨rfl, rfl⟩
def letP (v : Nat) : Bool := decide ((97 ≤ v ∧ v ≤ 122) ∨ (65 ≤ v ∧ v ≤ 90) ∨ (192 ≤ v ∧ v ≤ 687 ∧ v ≠ 215 ∧ v ≠ 247) ∨ (880 ≤ v ∧ v ≤ 1023))
theorem isLetter25 (w : World) (v : Nat) : Calls Tryd.prog 25 #[.int .i32 (v : Int)] w fun e w' => e = .returned (.bool (letP v)) ∧ w' = w := by
  have hv : (0 ≤ v ∧ v ≤ 64) ∨ (65 ≤ v ∧ v ≤ 90) ∨ (91 ≤ v ∧ v ≤ 96) ∨ (97 ≤ v ∧ v ≤ 122) ∨ (123 ≤ v ∧ v ≤ 191) ∨ (192 ≤ v ∧ v ≤ 214) ∨ (215 ≤ v ∧ v ≤ 215) ∨ (216 ≤ v ∧ v ≤ 246) ∨ (247 ≤ v ∧ v ≤ 247) ∨ (248 ≤ v ∧ v ≤ 687) ∨ (688 ≤ v ∧ v ≤ 879) ∨ (880 ≤ v ∧ v ≤ 1023) ∨ (1024 ≤ v) := by omega
  rcases hv with ⟨h, h'⟩ | ⟨h, h'⟩ | ⟨h, h'⟩ | ⟨h, h'⟩ | ⟨h, h'⟩ | ⟨h, h'⟩ | ⟨h, h'⟩ | ⟨h, h'⟩ | ⟨h, h'⟩ | ⟨h, h'⟩ | ⟨h, h'⟩ | ⟨h, h'⟩ | h
  · have hl : letP v = false := by unfold letP; exact decide_eq_false (by omega)
    rw [hl]
    have f0 : ((v : Int) == 215) = false := by rw [beq_eq_false_iff_ne]; omega
    have f1 : ((v : Int) == 247) = false := by rw [beq_eq_false_iff_ne]; omega
    have f2 : ¬ (97 : Int) ≤ (v : Int) := by omega
    have f3 : (v : Int) ≤ 122 := by omega
    have f4 : ¬ (65 : Int) ≤ (v : Int) := by omega
    have f5 : (v : Int) ≤ 90 := by omega
    have f6 : ¬ (192 : Int) ≤ (v : Int) := by omega
    have f7 : (v : Int) ≤ 687 := by omega
    have f8 : ¬ (880 : Int) ≤ (v : Int) := by omega
    have f9 : (v : Int) ≤ 1023 := by omega
    clear hl
    go_enter Tryd.func25, Tryd.ntmps25
    go_wp2
    go_ret
    exact ⟨rfl, rfl⟩
  · have hl : letP v = true := by unfold letP; exact decide_eq_true (by omega)
    rw [hl]
    have f0 : ((v : Int) == 215) = false := by rw [beq_eq_false_iff_ne]; omega
    have f1 : ((v : Int) == 247) = false := by rw [beq_eq_false_iff_ne]; omega
    have f2 : ¬ (97 : Int) ≤ (v : Int) := by omega
    have f3 : (v : Int) ≤ 122 := by omega
    have f4 : (65 : Int) ≤ (v : Int) := by omega
    have f5 : (v : Int) ≤ 90 := by omega
    have f6 : ¬ (192 : Int) ≤ (v : Int) := by omega
    have f7 : (v : Int) ≤ 687 := by omega
    have f8 : ¬ (880 : Int) ≤ (v : Int) := by omega
    have f9 : (v : Int) ≤ 1023 := by omega
    clear hl
    go_enter Tryd.func25, Tryd.ntmps25
    go_wp2
    go_ret
    exact ⟨rfl, rfl⟩
  · have hl : letP v = false := by unfold letP; exact decide_eq_false (by omega)
    rw [hl]
    have f0 : ((v : Int) == 215) = false := by rw [beq_eq_false_iff_ne]; omega
    have f1 : ((v : Int) == 247) = false := by rw [beq_eq_false_iff_ne]; omega
    have f2 : ¬ (97 : Int) ≤ (v : Int) := by omega
    have f3 : (v : Int) ≤ 122 := by omega
    have f4 : (65 : Int) ≤ (v : Int) := by omega
    have f5 : ¬ (v : Int) ≤ 90 := by omega
    have f6 : ¬ (192 : Int) ≤ (v : Int) := by omega
    have f7 : (v : Int) ≤ 687 := by omega
    have f8 : ¬ (880 : Int) ≤ (v : Int) := by omega
    have f9 : (v : Int) ≤ 1023 := by omega
    clear hl
    go_enter Tryd.func25, Tryd.ntmps25
    go_wp2
    go_ret
    exact ⟨rfl, rfl⟩
  · have hl : letP v = true := by unfold letP; exact decide_eq_true (by omega)
    rw [hl]
    have f0 : ((v : Int) == 215) = false := by rw [beq_eq_false_iff_ne]; omega
    have f1 : ((v : Int) == 247) = false := by rw [beq_eq_false_iff_ne]; omega
    have f2 : (97 : Int) ≤ (v : Int) := by omega
    have f3 : (v : Int) ≤ 122 := by omega
    have f4 : (65 : Int) ≤ (v : Int) := by omega
    have f5 : ¬ (v : Int) ≤ 90 := by omega
    have f6 : ¬ (192 : Int) ≤ (v : Int) := by omega
    have f7 : (v : Int) ≤ 687 := by omega
    have f8 : ¬ (880 : Int) ≤ (v : Int) := by omega
    have f9 : (v : Int) ≤ 1023 := by omega
    clear hl
    go_enter Tryd.func25, Tryd.ntmps25
    go_wp2
    go_ret
    exact ⟨rfl, rfl⟩
  · have hl : letP v = false := by unfold letP; exact decide_eq_false (by omega)
    rw [hl]
    have f0 : ((v : Int) == 215) = false := by rw [beq_eq_false_iff_ne]; omega
    have f1 : ((v : Int) == 247) = false := by rw [beq_eq_false_iff_ne]; omega
    have f2 : (97 : Int) ≤ (v : Int) := by omega
    have f3 : ¬ (v : Int) ≤ 122 := by omega
    have f4 : (65 : Int) ≤ (v : Int) := by omega
    have f5 : ¬ (v : Int) ≤ 90 := by omega
    have f6 : ¬ (192 : Int) ≤ (v : Int) := by omega
    have f7 : (v : Int) ≤ 687 := by omega
    have f8 : ¬ (880 : Int) ≤ (v : Int) := by omega
    have f9 : (v : Int) ≤ 1023 := by omega
    clear hl
    go_enter Tryd.func25, Tryd.ntmps25
    go_wp2
    go_ret
    exact ⟨rfl, rfl⟩
  · have hl : letP v = true := by unfold letP; exact decide_eq_true (by omega)
    rw [hl]
    have f0 : ((v : Int) == 215) = false := by rw [beq_eq_false_iff_ne]; omega
    have f1 : ((v : Int) == 247) = false := by rw [beq_eq_false_iff_ne]; omega
    have f2 : (97 : Int) ≤ (v : Int) := by omega
    have f3 : ¬ (v : Int) ≤ 122 := by omega
    have f4 : (65 : Int) ≤ (v : Int) := by omega
    have f5 : ¬ (v : Int) ≤ 90 := by omega
    have f6 : (192 : Int) ≤ (v : Int) := by omega
    have f7 : (v : Int) ≤ 687 := by omega
    have f8 : ¬ (880 : Int) ≤ (v : Int) := by omega
    have f9 : (v : Int) ≤ 1023 := by omega
    clear hl
    go_enter Tryd.func25, Tryd.ntmps25
    go_wp2
    go_ret
    exact ⟨rfl, rfl⟩
  · have hl : letP v = false := by unfold letP; exact decide_eq_false (by omega)
    rw [hl]
    have f0 : ((v : Int) == 215) = true := by rw [beq_iff_eq]; omega
    have f1 : ((v : Int) == 247) = false := by rw [beq_eq_false_iff_ne]; omega
    have f2 : (97 : Int) ≤ (v : Int) := by omega
    have f3 : ¬ (v : Int) ≤ 122 := by omega
    have f4 : (65 : Int) ≤ (v : Int) := by omega
    have f5 : ¬ (v : Int) ≤ 90 := by omega
    have f6 : (192 : Int) ≤ (v : Int) := by omega
    have f7 : (v : Int) ≤ 687 := by omega
    have f8 : ¬ (880 : Int) ≤ (v : Int) := by omega
    have f9 : (v : Int) ≤ 1023 := by omega
    clear hl
    go_enter Tryd.func25, Tryd.ntmps25
    go_wp2
    go_ret
    exact ⟨rfl, rfl⟩
  · have hl : letP v = true := by unfold letP; exact decide_eq_true (by omega)
    rw [hl]
    have f0 : ((v : Int) == 215) = false := by rw [beq_eq_false_iff_ne]; omega
    have f1 : ((v : Int) == 247) = false := by rw [beq_eq_false_iff_ne]; omega
    have f2 : (97 : Int) ≤ (v : Int) := by omega
    have f3 : ¬ (v : Int) ≤ 122 := by omega
    have f4 : (65 : Int) ≤ (v : Int) := by omega
    have f5 : ¬ (v : Int) ≤ 90 := by omega
    have f6 : (192 : Int) ≤ (v : Int) := by omega
    have f7 : (v : Int) ≤ 687 := by omega
    have f8 : ¬ (880 : Int) ≤ (v : Int) := by omega
    have f9 : (v : Int) ≤ 1023 := by omega
    clear hl
    go_enter Tryd.func25, Tryd.ntmps25
    go_wp2
    go_ret
    exact ⟨rfl, rfl⟩
  · have hl : letP v = false := by unfold letP; exact decide_eq_false (by omega)
    rw [hl]
    have f0 : ((v : Int) == 215) = false := by rw [beq_eq_false_iff_ne]; omega
    have f1 : ((v : Int) == 247) = true := by rw [beq_iff_eq]; omega
    have f2 : (97 : Int) ≤ (v : Int) := by omega
    have f3 : ¬ (v : Int) ≤ 122 := by omega
    have f4 : (65 : Int) ≤ (v : Int) := by omega
    have f5 : ¬ (v : Int) ≤ 90 := by omega
    have f6 : (192 : Int) ≤ (v : Int) := by omega
    have f7 : (v : Int) ≤ 687 := by omega
    have f8 : ¬ (880 : Int) ≤ (v : Int) := by omega
    have f9 : (v : Int) ≤ 1023 := by omega
    clear hl
    go_enter Tryd.func25, Tryd.ntmps25
    go_wp2
    go_ret
    exact ⟨rfl, rfl⟩
  · have hl : letP v = true := by unfold letP; exact decide_eq_true (by omega)
    rw [hl]
    have f0 : ((v : Int) == 215) = false := by rw [beq_eq_false_iff_ne]; omega
    have f1 : ((v : Int) == 247) = false := by rw [beq_eq_false_iff_ne]; omega
    have f2 : (97 : Int) ≤ (v : Int) := by omega
    have f3 : ¬ (v : Int) ≤ 122 := by omega
    have f4 : (65 : Int) ≤ (v : Int) := by omega
    have f5 : ¬ (v : Int) ≤ 90 := by omega
    have f6 : (192 : Int) ≤ (v : Int) := by omega
    have f7 : (v : Int) ≤ 687 := by omega
    have f8 : ¬ (880 : Int) ≤ (v : Int) := by omega
    have f9 : (v : Int) ≤ 1023 := by omega
    clear hl
    go_enter Tryd.func25, Tryd.ntmps25
    go_wp2
    go_ret
    exact ⟨rfl, rfl⟩
  · have hl : letP v = false := by unfold letP; exact decide_eq_false (by omega)
    rw [hl]
    have f0 : ((v : Int) == 215) = false := by rw [beq_eq_false_iff_ne]; omega
    have f1 : ((v : Int) == 247) = false := by rw [beq_eq_false_iff_ne]; omega
    have f2 : (97 : Int) ≤ (v : Int) := by omega
    have f3 : ¬ (v : Int) ≤ 122 := by omega
    have f4 : (65 : Int) ≤ (v : Int) := by omega
    have f5 : ¬ (v : Int) ≤ 90 := by omega
    have f6 : (192 : Int) ≤ (v : Int) := by omega
    have f7 : ¬ (v : Int) ≤ 687 := by omega
    have f8 : ¬ (880 : Int) ≤ (v : Int) := by omega
    have f9 : (v : Int) ≤ 1023 := by omega
    clear hl
    go_enter Tryd.func25, Tryd.ntmps25
    go_wp2
    go_ret
    exact ⟨rfl, rfl⟩
  · have hl : letP v = true := by unfold letP; exact decide_eq_true (by omega)
    rw [hl]
    have f0 : ((v : Int) == 215) = false := by rw [beq_eq_false_iff_ne]; omega
    have f1 : ((v : Int) == 247) = false := by rw [beq_eq_false_iff_ne]; omega
    have f2 : (97 : Int) ≤ (v : Int) := by omega
    have f3 : ¬ (v : Int) ≤ 122 := by omega
    have f4 : (65 : Int) ≤ (v : Int) := by omega
    have f5 : ¬ (v : Int) ≤ 90 := by omega
    have f6 : (192 : Int) ≤ (v : Int) := by omega
    have f7 : ¬ (v : Int) ≤ 687 := by omega
    have f8 : (880 : Int) ≤ (v : Int) := by omega
    have f9 : (v : Int) ≤ 1023 := by omega
    clear hl
    go_enter Tryd.func25, Tryd.ntmps25
    go_wp2
    go_ret
    exact ⟨rfl, rfl⟩
  · have hl : letP v = false := by unfold letP; exact decide_eq_false (by omega)
    rw [hl]
    have f0 : ((v : Int) == 215) = false := by rw [beq_eq_false_iff_ne]; omega
    have f1 : ((v : Int) == 247) = false := by rw [beq_eq_false_iff_ne]; omega
    have f2 : (97 : Int) ≤ (v : Int) := by omega
    have f3 : ¬ (v : Int) ≤ 122 := by omega
    have f4 : (65 : Int) ≤ (v : Int) := by omega
    have f5 : ¬ (v : Int) ≤ 90 := by omega
    have f6 : (192 : Int) ≤ (v : Int) := by omega
    have f7 : ¬ (v : Int) ≤ 687 := by omega
    have f8 : (880 : Int) ≤ (v : Int) := by omega
    have f9 : ¬ (v : Int) ≤ 1023 := by omega
    clear hl
    go_enter Tryd.func25, Tryd.ntmps25
    go_wp2
    go_ret
    exact ⟨rfl, rfl⟩
/-- The kind of a character, by its value and its bytes. -/
def kdS (v n : Nat) : Nat := if n = 0 then 0 else if blkS v = true then 2 else if v = 35 then 3 else if digS v = true then 4 else if v = 95 then 5 else if mkS v = ⟨#[]⟩ then (if letP v = true then 6 else 1) else 7
theorem dec_lt25 (s : ByteArray) (i : Nat) : (Utf8.decode s i).1 ≤ 2147483647 := by
  have h0 := byS_lt s i
  rw [dec_eq]
  (repeat' split) <;> simp only <;> omega
theorem dec_sz25 (s : ByteArray) (i : Nat) : 1 ≤ (Utf8.decode s i).2 := by
  rw [dec_eq]
  (repeat' split) <;> simp only <;> omega
theorem get25 {s : ByteArray} {i k : Nat} (h : i + k < s.size) : ((s.extract i s.size).data.toList)[k]? = some (s.get! (i + k)) := by
  have hs : s.size = s.data.size := rfl
  have e : s.get! (i + k) = s.data[i + k]'(by omega) := by
    show s.data[i + k]! = _
    exact getElem!_pos s.data (i + k) (by omega)
  rw [e, ByteArray.data_extract, Array.toList_extract]
  rw [List.getElem?_take, if_pos (by omega), List.getElem?_drop]
  rw [Array.getElem?_toList, Array.getElem?_eq_getElem]
theorem len25 (s : ByteArray) (i : Nat) : ((s.extract i s.size).data.toList).length = s.size - i := by
  have hs : s.size = s.data.size := rfl
  rw [ByteArray.data_extract, Array.toList_extract, List.length_take, List.length_drop, Array.length_toList]
  omega
/-- The bytes of U+FFFD at a place. -/
def ffdS (s : ByteArray) (i : Nat) : Prop := i + 2 < s.size ∧ byS s i = 239 ∧ byS s (i + 1) = 191 ∧ byS s (i + 2) = 189
theorem ffd_pre {s : ByteArray} {i : Nat} : Lib.hasPrefix (s.extract i s.size).data.toList [239, 191, 189] = true ↔ ffdS s i := by
  unfold Lib.hasPrefix ffdS byS
  rw [List.isPrefixOf_iff_prefix]
  have hl := len25 s i
  constructor
  · intro h
    have h3 := h.length_le
    have h3' : 3 ≤ s.size - i := by rw [hl] at h3; simpa using h3
    obtain ⟨r, hr⟩ := h
    have g0 := get25 (s := s) (i := i) (k := 0) (by omega)
    have g1 := get25 (s := s) (i := i) (k := 1) (by omega)
    have g2 := get25 (s := s) (i := i) (k := 2) (by omega)
    rw [← hr] at g0 g1 g2
    simp at g0 g1 g2
    refine ⟨by omega, ?_, ?_, ?_⟩
    · rw [← g0]; rfl
    · rw [← g1]; rfl
    · rw [← g2]; rfl
  · rintro ⟨h0, h1, h2, h3⟩
    have g0 := get25 (s := s) (i := i) (k := 0) (by omega)
    have g1 := get25 (s := s) (i := i) (k := 1) (by omega)
    have g2 := get25 (s := s) (i := i) (k := 2) (by omega)
    have e0 : s.get! (i + 0) = 239 := UInt8.toNat_inj.1 h1
    have e1 : s.get! (i + 1) = 191 := UInt8.toNat_inj.1 h2
    have e2 : s.get! (i + 2) = 189 := UInt8.toNat_inj.1 h3
    rw [e0] at g0
    rw [e1] at g1
    rw [e2] at g2
    generalize (s.extract i s.size).data.toList = l at *
    cases l with
    | nil => simp at g0
    | cons a l =>
      cases l with
      | nil => simp at g1
      | cons b l =>
        cases l with
        | nil => simp at g2
        | cons c l =>
          simp at g0 g1 g2
          subst g0 g1 g2
          exact ⟨l, rfl⟩
theorem chS_ffd {s : ByteArray} {i : Nat} (h : (Utf8.decode s i).1 = 65533) : ((chS s i) = (0, 0) ∧ ¬ ffdS s i) ∨ (chS s i = (65533, 3) ∧ ffdS s i) := by
  have key : ((Utf8.decode s i).2 = 1 ∧ ¬ ffdS s i) ∨ ((Utf8.decode s i).2 = 3 ∧ ffdS s i) := by
    have h0 := byS_lt s i
    have h1 := byS_lt s (i + 1)
    have h2 := byS_lt s (i + 2)
    have hd := dec_eq s i
    unfold ffdS
    generalize Utf8.decode s i = x at h hd ⊢
    have hv : ∀ c : Nat, Utf8.valid (c : Int) = true → c < 55296 ∨ (57344 ≤ c ∧ c ≤ 1114111) := fun c q => (valid_iff c).1 q
    have hv' : ∀ c : Nat, (c < 55296 ∨ (57344 ≤ c ∧ c ≤ 1114111)) → Utf8.valid (c : Int) = true := fun c q => (valid_iff c).2 q
    (repeat' split at hd) <;> subst hd <;> simp only at h ⊢
    · omega
    · omega
    · exact .inl ⟨trivial, fun q => by omega⟩
    · right
      rename_i q
      refine ⟨by first | trivial | rfl, ?_⟩
      omega
    · left
      refine ⟨trivial, fun q => ?_⟩
      rename_i n1 n2 q3 q4
      refine q4 ⟨by omega, hv' _ ?_⟩
      omega
    · omega
    · exact .inl ⟨trivial, fun q => by omega⟩
    · exact .inl ⟨trivial, fun q => by omega⟩
  unfold chS
  rcases key with ⟨k1, k2⟩ | ⟨k1, k2⟩
  · exact .inl ⟨if_pos ⟨k1, h⟩, k2⟩
  · refine .inr ⟨?_, k2⟩
    rw [if_neg (by omega)]
    exact Prod.ext h k1
theorem chS_dec {s : ByteArray} {i : Nat} (h : (Utf8.decode s i).1 ≠ 65533) : chS s i = Utf8.decode s i := by
  unfold chS
  exact if_neg (fun q => h q.2)
end Go.Proofs.YtdfnehngffajiabDoor
