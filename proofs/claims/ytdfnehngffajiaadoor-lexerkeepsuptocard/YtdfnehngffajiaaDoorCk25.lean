/-
  Ck25: the reference's digit, letter, blank.
-/
import Derived.Test.YtdfnehngffajiaaDoorLx25
namespace Go.Proofs.YtdfnehngffajiaaDoor
open Go.RowKit
set_option linter.unusedVariables false

def digS (v : Nat) : Bool := decide (48 ≤ v ∧ v ≤ 57)
def letS (v : Nat) : Bool := decide ((97 ≤ v ∧ v ≤ 122) ∨ (65 ≤ v ∧ v ≤ 90) ∨ v = 95 ∨ (192 ≤ v ∧ v ≤ 687 ∧ v ≠ 215 ∧ v ≠ 247) ∨ (880 ≤ v ∧ v ≤ 1023))
def blkS (v : Nat) : Bool := decide (v = 32 ∨ v = 9 ∨ v = 160)
theorem digit25 (w : World) (v : Nat) : Calls Tryd.prog 21 #[.int .i64 (v : Int)] w fun e w' => e = .returned (.bool (digS v)) ∧ w' = w := by
  have hv : (0 ≤ v ∧ v ≤ 47) ∨ (48 ≤ v ∧ v ≤ 57) ∨ (58 ≤ v) := by omega
  rcases hv with ⟨h, h'⟩ | ⟨h, h'⟩ | h
  · have hl : digS v = false := by unfold digS; exact decide_eq_false (by omega)
    rw [hl]
    have f0 : ¬ (48 : Int) ≤ (v : Int) := by omega
    have f1 : (v : Int) ≤ 57 := by omega
    clear hl
    go_enter Tryd.func21, Tryd.ntmps21
    go_wp2
    go_ret
    exact ⟨rfl, rfl⟩
  · have hl : digS v = true := by unfold digS; exact decide_eq_true (by omega)
    rw [hl]
    have f0 : (48 : Int) ≤ (v : Int) := by omega
    have f1 : (v : Int) ≤ 57 := by omega
    clear hl
    go_enter Tryd.func21, Tryd.ntmps21
    go_wp2
    go_ret
    exact ⟨rfl, rfl⟩
  · have hl : digS v = false := by unfold digS; exact decide_eq_false (by omega)
    rw [hl]
    have f0 : (48 : Int) ≤ (v : Int) := by omega
    have f1 : ¬ (v : Int) ≤ 57 := by omega
    clear hl
    go_enter Tryd.func21, Tryd.ntmps21
    go_wp2
    go_ret
    exact ⟨rfl, rfl⟩
theorem letter25 (w : World) (v : Nat) : Calls Tryd.prog 24 #[.int .i64 (v : Int)] w fun e w' => e = .returned (.bool (letS v)) ∧ w' = w := by
  have hv : (0 ≤ v ∧ v ≤ 64) ∨ (65 ≤ v ∧ v ≤ 90) ∨ (91 ≤ v ∧ v ≤ 94) ∨ (95 ≤ v ∧ v ≤ 95) ∨ (96 ≤ v ∧ v ≤ 96) ∨ (97 ≤ v ∧ v ≤ 122) ∨ (123 ≤ v ∧ v ≤ 191) ∨ (192 ≤ v ∧ v ≤ 214) ∨ (215 ≤ v ∧ v ≤ 215) ∨ (216 ≤ v ∧ v ≤ 246) ∨ (247 ≤ v ∧ v ≤ 247) ∨ (248 ≤ v ∧ v ≤ 687) ∨ (688 ≤ v ∧ v ≤ 879) ∨ (880 ≤ v ∧ v ≤ 1023) ∨ (1024 ≤ v) := by omega
  rcases hv with ⟨h, h'⟩ | ⟨h, h'⟩ | ⟨h, h'⟩ | ⟨h, h'⟩ | ⟨h, h'⟩ | ⟨h, h'⟩ | ⟨h, h'⟩ | ⟨h, h'⟩ | ⟨h, h'⟩ | ⟨h, h'⟩ | ⟨h, h'⟩ | ⟨h, h'⟩ | ⟨h, h'⟩ | ⟨h, h'⟩ | h
  · have hl : letS v = false := by unfold letS; exact decide_eq_false (by omega)
    rw [hl]
    have f0 : ¬ (97 : Int) ≤ (v : Int) := by omega
    have f1 : (v : Int) ≤ 122 := by omega
    have f2 : ¬ (65 : Int) ≤ (v : Int) := by omega
    have f3 : (v : Int) ≤ 90 := by omega
    have f4 : ((v : Int) == 95) = false := by rw [beq_eq_false_iff_ne]; omega
    have f5 : ¬ (192 : Int) ≤ (v : Int) := by omega
    have f6 : (v : Int) ≤ 687 := by omega
    have f7 : ((v : Int) != 215) = true := by rw [bne_iff_ne]; omega
    have f8 : ((v : Int) != 247) = true := by rw [bne_iff_ne]; omega
    have f9 : ¬ (880 : Int) ≤ (v : Int) := by omega
    have f10 : (v : Int) ≤ 1023 := by omega
    clear hl
    go_enter Tryd.func24, Tryd.ntmps24
    go_wp2
    go_ret
    exact ⟨rfl, rfl⟩
  · have hl : letS v = true := by unfold letS; exact decide_eq_true (by omega)
    rw [hl]
    have f0 : ¬ (97 : Int) ≤ (v : Int) := by omega
    have f1 : (v : Int) ≤ 122 := by omega
    have f2 : (65 : Int) ≤ (v : Int) := by omega
    have f3 : (v : Int) ≤ 90 := by omega
    have f4 : ((v : Int) == 95) = false := by rw [beq_eq_false_iff_ne]; omega
    have f5 : ¬ (192 : Int) ≤ (v : Int) := by omega
    have f6 : (v : Int) ≤ 687 := by omega
    have f7 : ((v : Int) != 215) = true := by rw [bne_iff_ne]; omega
    have f8 : ((v : Int) != 247) = true := by rw [bne_iff_ne]; omega
    have f9 : ¬ (880 : Int) ≤ (v : Int) := by omega
    have f10 : (v : Int) ≤ 1023 := by omega
    clear hl
    go_enter Tryd.func24, Tryd.ntmps24
    go_wp2
    go_ret
    exact ⟨rfl, rfl⟩
  · have hl : letS v = false := by unfold letS; exact decide_eq_false (by omega)
    rw [hl]
    have f0 : ¬ (97 : Int) ≤ (v : Int) := by omega
    have f1 : (v : Int) ≤ 122 := by omega
    have f2 : (65 : Int) ≤ (v : Int) := by omega
    have f3 : ¬ (v : Int) ≤ 90 := by omega
    have f4 : ((v : Int) == 95) = false := by rw [beq_eq_false_iff_ne]; omega
    have f5 : ¬ (192 : Int) ≤ (v : Int) := by omega
    have f6 : (v : Int) ≤ 687 := by omega
    have f7 : ((v : Int) != 215) = true := by rw [bne_iff_ne]; omega
    have f8 : ((v : Int) != 247) = true := by rw [bne_iff_ne]; omega
    have f9 : ¬ (880 : Int) ≤ (v : Int) := by omega
    have f10 : (v : Int) ≤ 1023 := by omega
    clear hl
    go_enter Tryd.func24, Tryd.ntmps24
    go_wp2
    go_ret
    exact ⟨rfl, rfl⟩
  · have hl : letS v = true := by unfold letS; exact decide_eq_true (by omega)
    rw [hl]
    have f0 : ¬ (97 : Int) ≤ (v : Int) := by omega
    have f1 : (v : Int) ≤ 122 := by omega
    have f2 : (65 : Int) ≤ (v : Int) := by omega
    have f3 : ¬ (v : Int) ≤ 90 := by omega
    have f4 : ((v : Int) == 95) = true := by rw [beq_iff_eq]; omega
    have f5 : ¬ (192 : Int) ≤ (v : Int) := by omega
    have f6 : (v : Int) ≤ 687 := by omega
    have f7 : ((v : Int) != 215) = true := by rw [bne_iff_ne]; omega
    have f8 : ((v : Int) != 247) = true := by rw [bne_iff_ne]; omega
    have f9 : ¬ (880 : Int) ≤ (v : Int) := by omega
    have f10 : (v : Int) ≤ 1023 := by omega
    clear hl
    go_enter Tryd.func24, Tryd.ntmps24
    go_wp2
    go_ret
    exact ⟨rfl, rfl⟩
  · have hl : letS v = false := by unfold letS; exact decide_eq_false (by omega)
    rw [hl]
    have f0 : ¬ (97 : Int) ≤ (v : Int) := by omega
    have f1 : (v : Int) ≤ 122 := by omega
    have f2 : (65 : Int) ≤ (v : Int) := by omega
    have f3 : ¬ (v : Int) ≤ 90 := by omega
    have f4 : ((v : Int) == 95) = false := by rw [beq_eq_false_iff_ne]; omega
    have f5 : ¬ (192 : Int) ≤ (v : Int) := by omega
    have f6 : (v : Int) ≤ 687 := by omega
    have f7 : ((v : Int) != 215) = true := by rw [bne_iff_ne]; omega
    have f8 : ((v : Int) != 247) = true := by rw [bne_iff_ne]; omega
    have f9 : ¬ (880 : Int) ≤ (v : Int) := by omega
    have f10 : (v : Int) ≤ 1023 := by omega
    clear hl
    go_enter Tryd.func24, Tryd.ntmps24
    go_wp2
    go_ret
    exact ⟨rfl, rfl⟩
  · have hl : letS v = true := by unfold letS; exact decide_eq_true (by omega)
    rw [hl]
    have f0 : (97 : Int) ≤ (v : Int) := by omega
    have f1 : (v : Int) ≤ 122 := by omega
    have f2 : (65 : Int) ≤ (v : Int) := by omega
    have f3 : ¬ (v : Int) ≤ 90 := by omega
    have f4 : ((v : Int) == 95) = false := by rw [beq_eq_false_iff_ne]; omega
    have f5 : ¬ (192 : Int) ≤ (v : Int) := by omega
    have f6 : (v : Int) ≤ 687 := by omega
    have f7 : ((v : Int) != 215) = true := by rw [bne_iff_ne]; omega
    have f8 : ((v : Int) != 247) = true := by rw [bne_iff_ne]; omega
    have f9 : ¬ (880 : Int) ≤ (v : Int) := by omega
    have f10 : (v : Int) ≤ 1023 := by omega
    clear hl
    go_enter Tryd.func24, Tryd.ntmps24
    go_wp2
    go_ret
    exact ⟨rfl, rfl⟩
  · have hl : letS v = false := by unfold letS; exact decide_eq_false (by omega)
    rw [hl]
    have f0 : (97 : Int) ≤ (v : Int) := by omega
    have f1 : ¬ (v : Int) ≤ 122 := by omega
    have f2 : (65 : Int) ≤ (v : Int) := by omega
    have f3 : ¬ (v : Int) ≤ 90 := by omega
    have f4 : ((v : Int) == 95) = false := by rw [beq_eq_false_iff_ne]; omega
    have f5 : ¬ (192 : Int) ≤ (v : Int) := by omega
    have f6 : (v : Int) ≤ 687 := by omega
    have f7 : ((v : Int) != 215) = true := by rw [bne_iff_ne]; omega
    have f8 : ((v : Int) != 247) = true := by rw [bne_iff_ne]; omega
    have f9 : ¬ (880 : Int) ≤ (v : Int) := by omega
    have f10 : (v : Int) ≤ 1023 := by omega
    clear hl
    go_enter Tryd.func24, Tryd.ntmps24
    go_wp2
    go_ret
    exact ⟨rfl, rfl⟩
  · have hl : letS v = true := by unfold letS; exact decide_eq_true (by omega)
    rw [hl]
    have f0 : (97 : Int) ≤ (v : Int) := by omega
    have f1 : ¬ (v : Int) ≤ 122 := by omega
    have f2 : (65 : Int) ≤ (v : Int) := by omega
    have f3 : ¬ (v : Int) ≤ 90 := by omega
    have f4 : ((v : Int) == 95) = false := by rw [beq_eq_false_iff_ne]; omega
    have f5 : (192 : Int) ≤ (v : Int) := by omega
    have f6 : (v : Int) ≤ 687 := by omega
    have f7 : ((v : Int) != 215) = true := by rw [bne_iff_ne]; omega
    have f8 : ((v : Int) != 247) = true := by rw [bne_iff_ne]; omega
    have f9 : ¬ (880 : Int) ≤ (v : Int) := by omega
    have f10 : (v : Int) ≤ 1023 := by omega
    clear hl
    go_enter Tryd.func24, Tryd.ntmps24
    go_wp2
    go_ret
    exact ⟨rfl, rfl⟩
  · have hl : letS v = false := by unfold letS; exact decide_eq_false (by omega)
    rw [hl]
    have f0 : (97 : Int) ≤ (v : Int) := by omega
    have f1 : ¬ (v : Int) ≤ 122 := by omega
    have f2 : (65 : Int) ≤ (v : Int) := by omega
    have f3 : ¬ (v : Int) ≤ 90 := by omega
    have f4 : ((v : Int) == 95) = false := by rw [beq_eq_false_iff_ne]; omega
    have f5 : (192 : Int) ≤ (v : Int) := by omega
    have f6 : (v : Int) ≤ 687 := by omega
    have f7 : ((v : Int) != 215) = false := by rw [bne_eq_false_iff_eq]; omega
    have f8 : ((v : Int) != 247) = true := by rw [bne_iff_ne]; omega
    have f9 : ¬ (880 : Int) ≤ (v : Int) := by omega
    have f10 : (v : Int) ≤ 1023 := by omega
    clear hl
    go_enter Tryd.func24, Tryd.ntmps24
    go_wp2
    go_ret
    exact ⟨rfl, rfl⟩
  · have hl : letS v = true := by unfold letS; exact decide_eq_true (by omega)
    rw [hl]
    have f0 : (97 : Int) ≤ (v : Int) := by omega
    have f1 : ¬ (v : Int) ≤ 122 := by omega
    have f2 : (65 : Int) ≤ (v : Int) := by omega
    have f3 : ¬ (v : Int) ≤ 90 := by omega
    have f4 : ((v : Int) == 95) = false := by rw [beq_eq_false_iff_ne]; omega
    have f5 : (192 : Int) ≤ (v : Int) := by omega
    have f6 : (v : Int) ≤ 687 := by omega
    have f7 : ((v : Int) != 215) = true := by rw [bne_iff_ne]; omega
    have f8 : ((v : Int) != 247) = true := by rw [bne_iff_ne]; omega
    have f9 : ¬ (880 : Int) ≤ (v : Int) := by omega
    have f10 : (v : Int) ≤ 1023 := by omega
    clear hl
    go_enter Tryd.func24, Tryd.ntmps24
    go_wp2
    go_ret
    exact ⟨rfl, rfl⟩
  · have hl : letS v = false := by unfold letS; exact decide_eq_false (by omega)
    rw [hl]
    have f0 : (97 : Int) ≤ (v : Int) := by omega
    have f1 : ¬ (v : Int) ≤ 122 := by omega
    have f2 : (65 : Int) ≤ (v : Int) := by omega
    have f3 : ¬ (v : Int) ≤ 90 := by omega
    have f4 : ((v : Int) == 95) = false := by rw [beq_eq_false_iff_ne]; omega
    have f5 : (192 : Int) ≤ (v : Int) := by omega
    have f6 : (v : Int) ≤ 687 := by omega
    have f7 : ((v : Int) != 215) = true := by rw [bne_iff_ne]; omega
    have f8 : ((v : Int) != 247) = false := by rw [bne_eq_false_iff_eq]; omega
    have f9 : ¬ (880 : Int) ≤ (v : Int) := by omega
    have f10 : (v : Int) ≤ 1023 := by omega
    clear hl
    go_enter Tryd.func24, Tryd.ntmps24
    go_wp2
    go_ret
    exact ⟨rfl, rfl⟩
  · have hl : letS v = true := by unfold letS; exact decide_eq_true (by omega)
    rw [hl]
    have f0 : (97 : Int) ≤ (v : Int) := by omega
    have f1 : ¬ (v : Int) ≤ 122 := by omega
    have f2 : (65 : Int) ≤ (v : Int) := by omega
    have f3 : ¬ (v : Int) ≤ 90 := by omega
    have f4 : ((v : Int) == 95) = false := by rw [beq_eq_false_iff_ne]; omega
    have f5 : (192 : Int) ≤ (v : Int) := by omega
    have f6 : (v : Int) ≤ 687 := by omega
    have f7 : ((v : Int) != 215) = true := by rw [bne_iff_ne]; omega
    have f8 : ((v : Int) != 247) = true := by rw [bne_iff_ne]; omega
    have f9 : ¬ (880 : Int) ≤ (v : Int) := by omega
    have f10 : (v : Int) ≤ 1023 := by omega
    clear hl
    go_enter Tryd.func24, Tryd.ntmps24
    go_wp2
    go_ret
    exact ⟨rfl, rfl⟩
  · have hl : letS v = false := by unfold letS; exact decide_eq_false (by omega)
    rw [hl]
    have f0 : (97 : Int) ≤ (v : Int) := by omega
    have f1 : ¬ (v : Int) ≤ 122 := by omega
    have f2 : (65 : Int) ≤ (v : Int) := by omega
    have f3 : ¬ (v : Int) ≤ 90 := by omega
    have f4 : ((v : Int) == 95) = false := by rw [beq_eq_false_iff_ne]; omega
    have f5 : (192 : Int) ≤ (v : Int) := by omega
    have f6 : ¬ (v : Int) ≤ 687 := by omega
    have f7 : ((v : Int) != 215) = true := by rw [bne_iff_ne]; omega
    have f8 : ((v : Int) != 247) = true := by rw [bne_iff_ne]; omega
    have f9 : ¬ (880 : Int) ≤ (v : Int) := by omega
    have f10 : (v : Int) ≤ 1023 := by omega
    clear hl
    go_enter Tryd.func24, Tryd.ntmps24
    go_wp2
    go_ret
    exact ⟨rfl, rfl⟩
  · have hl : letS v = true := by unfold letS; exact decide_eq_true (by omega)
    rw [hl]
    have f0 : (97 : Int) ≤ (v : Int) := by omega
    have f1 : ¬ (v : Int) ≤ 122 := by omega
    have f2 : (65 : Int) ≤ (v : Int) := by omega
    have f3 : ¬ (v : Int) ≤ 90 := by omega
    have f4 : ((v : Int) == 95) = false := by rw [beq_eq_false_iff_ne]; omega
    have f5 : (192 : Int) ≤ (v : Int) := by omega
    have f6 : ¬ (v : Int) ≤ 687 := by omega
    have f7 : ((v : Int) != 215) = true := by rw [bne_iff_ne]; omega
    have f8 : ((v : Int) != 247) = true := by rw [bne_iff_ne]; omega
    have f9 : (880 : Int) ≤ (v : Int) := by omega
    have f10 : (v : Int) ≤ 1023 := by omega
    clear hl
    go_enter Tryd.func24, Tryd.ntmps24
    go_wp2
    go_ret
    exact ⟨rfl, rfl⟩
  · have hl : letS v = false := by unfold letS; exact decide_eq_false (by omega)
    rw [hl]
    have f0 : (97 : Int) ≤ (v : Int) := by omega
    have f1 : ¬ (v : Int) ≤ 122 := by omega
    have f2 : (65 : Int) ≤ (v : Int) := by omega
    have f3 : ¬ (v : Int) ≤ 90 := by omega
    have f4 : ((v : Int) == 95) = false := by rw [beq_eq_false_iff_ne]; omega
    have f5 : (192 : Int) ≤ (v : Int) := by omega
    have f6 : ¬ (v : Int) ≤ 687 := by omega
    have f7 : ((v : Int) != 215) = true := by rw [bne_iff_ne]; omega
    have f8 : ((v : Int) != 247) = true := by rw [bne_iff_ne]; omega
    have f9 : (880 : Int) ≤ (v : Int) := by omega
    have f10 : ¬ (v : Int) ≤ 1023 := by omega
    clear hl
    go_enter Tryd.func24, Tryd.ntmps24
    go_wp2
    go_ret
    exact ⟨rfl, rfl⟩
theorem blank25 (w : World) (v : Nat) : Calls Tryd.prog 19 #[.int .i64 (v : Int)] w fun e w' => e = .returned (.bool (blkS v)) ∧ w' = w := by
  have hv : (0 ≤ v ∧ v ≤ 8) ∨ (9 ≤ v ∧ v ≤ 9) ∨ (10 ≤ v ∧ v ≤ 31) ∨ (32 ≤ v ∧ v ≤ 32) ∨ (33 ≤ v ∧ v ≤ 159) ∨ (160 ≤ v ∧ v ≤ 160) ∨ (161 ≤ v) := by omega
  rcases hv with ⟨h, h'⟩ | ⟨h, h'⟩ | ⟨h, h'⟩ | ⟨h, h'⟩ | ⟨h, h'⟩ | ⟨h, h'⟩ | h
  · have hl : blkS v = false := by unfold blkS; exact decide_eq_false (by omega)
    rw [hl]
    have f0 : ((v : Int) == 32) = false := by rw [beq_eq_false_iff_ne]; omega
    have f1 : ((v : Int) == 9) = false := by rw [beq_eq_false_iff_ne]; omega
    have f2 : ((v : Int) == 160) = false := by rw [beq_eq_false_iff_ne]; omega
    clear hl
    go_enter Tryd.func19, Tryd.ntmps19
    go_wp2
    go_ret
    exact ⟨rfl, rfl⟩
  · have hl : blkS v = true := by unfold blkS; exact decide_eq_true (by omega)
    rw [hl]
    have f0 : ((v : Int) == 32) = false := by rw [beq_eq_false_iff_ne]; omega
    have f1 : ((v : Int) == 9) = true := by rw [beq_iff_eq]; omega
    have f2 : ((v : Int) == 160) = false := by rw [beq_eq_false_iff_ne]; omega
    clear hl
    go_enter Tryd.func19, Tryd.ntmps19
    go_wp2
    go_ret
    exact ⟨rfl, rfl⟩
  · have hl : blkS v = false := by unfold blkS; exact decide_eq_false (by omega)
    rw [hl]
    have f0 : ((v : Int) == 32) = false := by rw [beq_eq_false_iff_ne]; omega
    have f1 : ((v : Int) == 9) = false := by rw [beq_eq_false_iff_ne]; omega
    have f2 : ((v : Int) == 160) = false := by rw [beq_eq_false_iff_ne]; omega
    clear hl
    go_enter Tryd.func19, Tryd.ntmps19
    go_wp2
    go_ret
    exact ⟨rfl, rfl⟩
  · have hl : blkS v = true := by unfold blkS; exact decide_eq_true (by omega)
    rw [hl]
    have f0 : ((v : Int) == 32) = true := by rw [beq_iff_eq]; omega
    have f1 : ((v : Int) == 9) = false := by rw [beq_eq_false_iff_ne]; omega
    have f2 : ((v : Int) == 160) = false := by rw [beq_eq_false_iff_ne]; omega
    clear hl
    go_enter Tryd.func19, Tryd.ntmps19
    go_wp2
    go_ret
    exact ⟨rfl, rfl⟩
  · have hl : blkS v = false := by unfold blkS; exact decide_eq_false (by omega)
    rw [hl]
    have f0 : ((v : Int) == 32) = false := by rw [beq_eq_false_iff_ne]; omega
    have f1 : ((v : Int) == 9) = false := by rw [beq_eq_false_iff_ne]; omega
    have f2 : ((v : Int) == 160) = false := by rw [beq_eq_false_iff_ne]; omega
    clear hl
    go_enter Tryd.func19, Tryd.ntmps19
    go_wp2
    go_ret
    exact ⟨rfl, rfl⟩
  · have hl : blkS v = true := by unfold blkS; exact decide_eq_true (by omega)
    rw [hl]
    have f0 : ((v : Int) == 32) = false := by rw [beq_eq_false_iff_ne]; omega
    have f1 : ((v : Int) == 9) = false := by rw [beq_eq_false_iff_ne]; omega
    have f2 : ((v : Int) == 160) = true := by rw [beq_iff_eq]; omega
    clear hl
    go_enter Tryd.func19, Tryd.ntmps19
    go_wp2
    go_ret
    exact ⟨rfl, rfl⟩
  · have hl : blkS v = false := by unfold blkS; exact decide_eq_false (by omega)
    rw [hl]
    have f0 : ((v : Int) == 32) = false := by rw [beq_eq_false_iff_ne]; omega
    have f1 : ((v : Int) == 9) = false := by rw [beq_eq_false_iff_ne]; omega
    have f2 : ((v : Int) == 160) = false := by rw [beq_eq_false_iff_ne]; omega
    clear hl
    go_enter Tryd.func19, Tryd.ntmps19
    go_wp2
    go_ret
    exact ⟨rfl, rfl⟩
end Go.Proofs.YtdfnehngffajiaaDoor
