/-
  Back70: the law ApproxBack where there is no number, or 0
-/
import Derived.Test.YtbamffggnnacaaaDoorQNz7ToNb7
namespace Go.Proofs.YtbamffggnnacaaaDoor
open Go.RowKit
set_option linter.unusedVariables false

set_option maxHeartbeats 25600000 in
set_option maxRecDepth 100000 in
theorem back_not {w : World} {F : Nat} (hF : F < 2 ^ 64) (hT : Tab w) (hf : ¬ Fin7 F) :
    Calls Tryd.prog 4 #[.int .u64 (F : Int)] w fun e w' => e = .returned (.bool true) ∧ Below w.heap.size w w' := by
  have k2 := ffrom_run F
  have HT0 := hid hT
  have HF := hid hF
  clear hT hF
  have HF1 := hid hf
  clear hf
  have G : Hid (Below w.heap.size w w) := Below.refl _ _
  go_enter Tryd.func4, Tryd.ntmps4
  go_wp2_with fail
  refine (awake7 HT0.out).mono ?_
  rintro e w1 ⟨rfl, b⟩
  replace G := hid (below_step G.out b)
  have lz2 := (show Below _ _ _ from b).size
  clear b 
  go_wp2_with fail
  refine (split_not HF.out HF1.out _).mono ?_
  rintro e w3 ⟨r0, rfl, m0, b⟩
  obtain ⟨nm, xm, adm, qm, rfl, -, -, -, -, -⟩ := id m0
  replace G := hid (below_step G.out b)
  have lz4 := (show Below _ _ _ from b).size
  have Zm := hid m0
  clear b m0
  obtain ⟨V5, hW⟩ : ∃ V5, w3.alloc (duo (.bool nm) (.slice adm xm.length qm)) = V5 := ⟨_, rfl⟩
  obtain ⟨kW, sz5⟩ := alloc1 w3 (duo (.bool nm) (.slice adm xm.length qm))
  rw [hW] at kW sz5
  replace Zm := hid (Zm.out.now kW)
  replace G := hid (below_step G.out kW)
  have lz6 := (show Below _ _ _ from kW).size
  have Pm : Hid (Duo V5 (w3.heap.size) (.bool nm) (.slice adm xm.length qm)) := by unfold Hid; rw [← hW]; exact duo_at (by simp)
  clear kW
  have EW := hid hW
  clear hW
  go_wp2_with fail
  rw [EW.out]
  clear EW
  refine (whole_not HF.out HF1.out _).mono ?_
  rintro e w7 ⟨r0, rfl, m0, b⟩
  obtain ⟨no, xo, ado, qo, rfl, -, -, -, -, -⟩ := id m0
  replace Zm := hid (Zm.out.now b)
  replace Pm := hid (Pm.out.step b)
  replace G := hid (below_step G.out b)
  have lz8 := (show Below _ _ _ from b).size
  have Zo := hid m0
  clear b m0
  obtain ⟨V9, hW⟩ : ∃ V9, w7.alloc (duo (.bool no) (.slice ado xo.length qo)) = V9 := ⟨_, rfl⟩
  obtain ⟨kW, sz9⟩ := alloc1 w7 (duo (.bool no) (.slice ado xo.length qo))
  rw [hW] at kW sz9
  replace Zm := hid (Zm.out.now kW)
  replace Zo := hid (Zo.out.now kW)
  replace Pm := hid (Pm.out.step kW)
  replace G := hid (below_step G.out kW)
  have lz10 := (show Below _ _ _ from kW).size
  have Po : Hid (Duo V9 (w7.heap.size) (.bool no) (.slice ado xo.length qo)) := by unfold Hid; rw [← hW]; exact duo_at (by simp)
  clear kW
  have EW := hid hW
  clear hW
  go_wp2_with fail
  rw [EW.out]
  clear EW
  refine (finite_no HF1.out _).mono ?_
  rintro e w11 ⟨rfl, b⟩
  replace Zm := hid (Zm.out.now b)
  replace Zo := hid (Zo.out.now b)
  replace Pm := hid (Pm.out.step b)
  replace Po := hid (Po.out.step b)
  replace G := hid (below_step G.out b)
  have lz12 := (show Below _ _ _ from b).size
  clear b 
  have q3 : ((3 : Int) == 3) = true := rfl
  go_wp2
  go_ret
  exact ⟨rfl, G.out⟩
set_option maxHeartbeats 25600000 in
set_option maxRecDepth 100000 in
theorem back_zero {w : World} {F : Nat} (hF : F < 2 ^ 64) (hT : Tab w) (hz : rg F = 0) :
    Calls Tryd.prog 4 #[.int .u64 (F : Int)] w fun e w' => e = .returned (.bool true) ∧ Below w.heap.size w w' := by
  have k2 := ffrom_run F
  have HT0 := hid hT
  have HF := hid hF
  clear hT hF
  have HZ := hid hz
  clear hz
  have HF1 : Hid (Fin7 F) := by unfold Hid Fin7; rw [HZ.out]; omega
  have HW0 : Hid (swv F = 0) := by unfold Hid swv wv; rw [HZ.out, fv_zero, Nat.zero_div]; split <;> rfl
  have ez : (FloatKind.f64.format.order F 0 == some .eq) = true := by
    show (Ieee.double.order F 0 == some .eq) = true
    rw [order_zero_eq, decide_eq_true HZ.out]
  have G : Hid (Below w.heap.size w w) := Below.refl _ _
  go_enter Tryd.func4, Tryd.ntmps4
  go_wp2_with fail
  refine (awake7 HT0.out).mono ?_
  rintro e w1 ⟨rfl, b⟩
  replace G := hid (below_step G.out b)
  have lz2 := (show Below _ _ _ from b).size
  clear b 
  go_wp2_with fail
  refine (split_zero HF.out HZ.out _).mono ?_
  rintro e w3 ⟨r0, rfl, m0, b⟩
  obtain ⟨nm, xm, adm, qm, rfl, -, -, -, -, -⟩ := id m0
  replace G := hid (below_step G.out b)
  have lz4 := (show Below _ _ _ from b).size
  have Zm := hid m0
  clear b m0
  obtain ⟨V5, hW⟩ : ∃ V5, w3.alloc (duo (.bool nm) (.slice adm xm.length qm)) = V5 := ⟨_, rfl⟩
  obtain ⟨kW, sz5⟩ := alloc1 w3 (duo (.bool nm) (.slice adm xm.length qm))
  rw [hW] at kW sz5
  replace Zm := hid (Zm.out.now kW)
  replace G := hid (below_step G.out kW)
  have lz6 := (show Below _ _ _ from kW).size
  have Pm : Hid (Duo V5 (w3.heap.size) (.bool nm) (.slice adm xm.length qm)) := by unfold Hid; rw [← hW]; exact duo_at (by simp)
  clear kW
  have EW := hid hW
  clear hW
  go_wp2_with fail
  rw [EW.out]
  clear EW
  refine (whole_fin HF.out HF1.out _).mono ?_
  rintro e w7 ⟨r0, rfl, m0, b⟩
  obtain ⟨no, xo, ado, qo, rfl, -, -, -, -, -⟩ := id m0
  replace Zm := hid (Zm.out.now b)
  replace Pm := hid (Pm.out.step b)
  replace G := hid (below_step G.out b)
  have lz8 := (show Below _ _ _ from b).size
  have Zo := hid m0
  clear b m0
  obtain ⟨V9, hW⟩ : ∃ V9, w7.alloc (duo (.bool no) (.slice ado xo.length qo)) = V9 := ⟨_, rfl⟩
  obtain ⟨kW, sz9⟩ := alloc1 w7 (duo (.bool no) (.slice ado xo.length qo))
  rw [hW] at kW sz9
  replace Zm := hid (Zm.out.now kW)
  replace Zo := hid (Zo.out.now kW)
  replace Pm := hid (Pm.out.step kW)
  replace G := hid (below_step G.out kW)
  have lz10 := (show Below _ _ _ from kW).size
  have Po : Hid (Duo V9 (w7.heap.size) (.bool no) (.slice ado xo.length qo)) := by unfold Hid; rw [← hW]; exact duo_at (by simp)
  clear kW
  have EW := hid hW
  clear hW
  go_wp2_with fail
  rw [EW.out]
  clear EW
  refine (finite_yes HF1.out _).mono ?_
  rintro e w11 ⟨rfl, b⟩
  replace Zm := hid (Zm.out.now b)
  replace Zo := hid (Zo.out.now b)
  replace Pm := hid (Pm.out.step b)
  replace Po := hid (Po.out.step b)
  replace G := hid (below_step G.out b)
  have lz12 := (show Below _ _ _ from b).size
  clear b 
  have q0 : ((0 : Int) == 0) = true := rfl
  have q1 : ((0 : Int) != 0) = false := rfl
  have cm0 := Pm.out.c0
  have cm1 := Pm.out.c1
  go_wp2_with fail
  clear cm0 cm1
  refine (sign_no Zm.out.zi rfl).mono ?_
  rintro e w13 ⟨rfl, b⟩
  replace Zm := hid (Zm.out.now b)
  replace Zo := hid (Zo.out.now b)
  replace Pm := hid (Pm.out.step b)
  replace Po := hid (Po.out.step b)
  replace G := hid (below_step G.out b)
  have lz14 := (show Below _ _ _ from b).size
  clear b 
  have co0 := Po.out.c0
  have co1 := Po.out.c1
  go_wp2_with fail
  clear co0 co1
  refine (sign_no Zo.out.zi HW0.out).mono ?_
  rintro e w15 ⟨rfl, b⟩
  replace Zm := hid (Zm.out.now b)
  replace Zo := hid (Zo.out.now b)
  replace Pm := hid (Pm.out.step b)
  replace Po := hid (Po.out.step b)
  replace G := hid (below_step G.out b)
  have lz16 := (show Below _ _ _ from b).size
  clear b 
  go_wp2
  go_ret
  exact ⟨rfl, G.out⟩
end Go.Proofs.YtbamffggnnacaaaDoor
