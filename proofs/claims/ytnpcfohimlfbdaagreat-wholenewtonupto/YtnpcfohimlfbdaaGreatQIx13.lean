/-
 Ix13: the first number of a line that is not 0.
-/
import Derived.Test.YtnpcfohimlfbdaaGreatQSr13
import Derived.Test.YtnpcfohimlfbdaaGreatQZOnesToZCmp
set_option maxRecDepth 100000
set_option maxHeartbeats 6400000
set_option linter.unusedVariables false
set_option linter.unusedSimpArgs false
namespace Go.Proofs.YtnpcfohimlfbdaaGreat
open Go.RowKit

abbrev fnNz13 : Value := .func (.func 79) #[] #[]
theorem cmpI_ne {z : Int} (h : z ≠ 0) : (cmpI z 0 != 0) = true := by
 rcases Int.lt_or_gt_of_ne h with q | q
 ·rw [cmpI_lt q]; rfl
 ·rw [cmpI_gt q]; rfl
theorem nz13 {w : World} {v : Value} {z : Int} {k : Nat} (h : Zi w v z k) : Calls Tryz.prog 79 #[v] w fun e w' => e = .returned (.bool (z != 0)) ∧ Below w.heap.size w w' := by
 have z0 := h
 obtain ⟨n, xs, a, c, rfl, -, -, -⟩ := h
 obtain ⟨W0, hW⟩ : ∃ W0, w.alloc (duo (.bool n) (.slice a xs.length c)) = W0 := ⟨_, rfl⟩
 obtain ⟨b0, sz0⟩ := alo1 w (duo (.bool n) (.slice a xs.length c))
 rw [hW] at b0 sz0
 have HS := hid (sign_z (z0.now b0))
 have G := hid b0
 have EW := hid hW
 have EB : (cmpI z 0 != 0) = (z != 0) := by
  by_cases q : z = 0
  ·subst q; rw [cmpI_self]
  ·rw [cmpI_ne q]; simp [q]
 have HEB := hid EB
 clear z0 b0 hW sz0 EB
 go_enter Tryz.func79, Tryz.ntmps79
 go_wp2_with fail
 rw [EW.out]
 refine HS.out.mono ?_
 rintro e w1 ⟨rfl, b⟩
 have G1 := hid (below_step G.out b)
 clear b HS
 generalize cmpI z 0 = cz at *
 go_wp2
 go_ret
 refine ⟨?_, G1.out⟩
 rw [← HEB.out]
 rfl
/-- What IndexFunc answers. -/
def FstN (n : Nat) (zs : List Int) (r : Int) : Prop := (r = -1 ∧ ∀ j, j < n → zs.getD j 0 = 0) ∨ ∃ c : Nat, r = (c : Int) ∧ c < n ∧ (∀ j, j < c → zs.getD j 0 = 0) ∧ zs.getD c 0 ≠ 0
def Fst13 (w : World) (n : Nat) (zs : List Int) (e : Ending) (w' : World) : Prop := ∃ r : Int, e = .returned (.int .i64 r) ∧ FstN n zs r ∧ Below w.heap.size w w'
def IxH13 (w : World) (g n : Nat) (ps : List (Value × Value)) (zs : List Int) (k gk : Nat) (s : Value) (wx : World) : Prop :=
 ∃ i : Nat, s = .int .i64 (i : Int) ∧ i ≤ n ∧ gk = n - i ∧ (∀ j, j < i → zs.getD j 0 = 0) ∧ Arr wx g ps ∧ Zms wx ps zs k ∧ Below w.heap.size w wx
theorem index13 {w : World} {g n k : Nat} {ps : List (Value × Value)} {zs : List Int} (hA : Arr w g ps) (hz : Zms w ps zs k) (hl : zs.length = n) (hn : n ≤ 64) :
  Calls Tryz.prog 78 #[.slice (some ⟨g, 0, none⟩) n n, fnNz13] w (Fst13 w n zs) := by
 have H0 : Hid (IxH13 w g n ps zs k n (.int .i64 0) w) := ⟨0, rfl, Nat.zero_le _, rfl, fun j hj => by omega, hA, hz, Below.refl _ _⟩
 have HL := hid hl
 clear hA hz hl
 go_enter Tryz.func78, Tryz.ntmps78
 go_wp2_with fail
 go_loopg [8] n (fun gk s8 wx => IxH13 w g n ps zs k gk s8 wx)
 case atStart => exact H0.out
 case round =>
  clear H0
  obtain ⟨i, rfl, hin, hg, hpos, ar, zr, hG⟩ := hrel
  have AR := hid ar
  have ZR := hid zr
  have G := hid hG
  have HG := hid hg
  have HP := hid hpos
  clear ar zr hG hg hpos
  by_cases hlt : i < n
  ·have hlt' : (i : Int) < (n : Int) := by omega
   obtain ⟨nf, af, lf, cf, k0, k1, -, -, zf⟩ := ZR.out.at AR.out (t := i) (by rw [HL.out]; exact hlt)
   have HS := hid (nz13 zf.zi)
   have hw := wrapI9 (i := i) (by omega)
   clear zf
   by_cases hp : zs.getD i 0 = 0
   ·have e0 : (zs.getD i 0 != 0) = false := by rw [hp]; rfl
    rw [e0] at HS
    have HPP := hid hp
    clear hp e0
    go_wp2_with fail
    refine HS.out.mono ?_
    rintro e w1 ⟨rfl, b⟩
    have HN1 : Hid (IxH13 w g n ps zs k (n - (i + 1)) (.int .i64 ((i + 1 : Nat) : Int)) w1) := ⟨i + 1, rfl, by omega, rfl, fun j hj => by
     by_cases q : j < i
     ·exact HP.out j q
     ·obtain rfl : j = i := by omega
      exact HPP.out, AR.out.step b, ZR.out.now b, below_step G.out b⟩
    have HMM : Hid (n - (i + 1) < gk) := by unfold Hid; rw [HG.out]; omega
    clear HS HPP AR ZR G HG HP k0 k1 b
    go_wp2_with fail
    go_roundg (n - (i + 1))
    case rel => exact HN1.out
    case measure => exact HMM.out
   ·have e0 : (zs.getD i 0 != 0) = true := by simp only [bne_iff_ne]; exact hp
    rw [e0] at HS
    have HPP := hid hp
    clear hp e0
    go_wp2_with fail
    refine HS.out.mono ?_
    rintro e w1 ⟨rfl, b⟩
    have FIN : Hid (Fst13 w n zs (.returned (.int .i64 (i : Int))) w1) := ⟨(i : Int), rfl, .inr ⟨i, rfl, hlt, HP.out, HPP.out⟩, below_step G.out b⟩
    clear HS HPP AR ZR G HG HP k0 k1 b
    go_wp2
    go_ret
    exact FIN.out
  ·have hlt' : ¬ (i : Int) < (n : Int) := by omega
   have FIN : Hid (Fst13 w n zs (.returned (.int .i64 (-1))) wr) := ⟨-1, rfl, .inl ⟨rfl, fun j hj => HP.out j (by omega)⟩, G.out⟩
   clear AR ZR G HG HP
   go_wp2
   go_ret
   exact FIN.out
end Go.Proofs.YtnpcfohimlfbdaaGreat
