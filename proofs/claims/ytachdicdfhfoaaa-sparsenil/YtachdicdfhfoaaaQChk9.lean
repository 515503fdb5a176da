/-
  Chk9: isShape, Check, checkAll, Mul.
-/
import Derived.Test.YtachdicdfhfoaaaQMat9
namespace Go.Proofs.Ytachdicdfhfoaaa
open Go.RowKit
set_option linter.unusedVariables false

set_option maxHeartbeats 800000 in
set_option maxRecDepth 100000 in
theorem isShape_yes {w : World} {r c : Nat} (hr : r ≤ 64) (hc : c ≤ 64) : Calls Try.prog 48 #[.int .i64 (r : Int), .int .i64 (c : Int)] w fun e w' => e = .returned (.bool true) ∧ w' = w := by
  have h1 : (0 : Int) ≤ (r : Int) := by omega
  have h2 : (0 : Int) ≤ (c : Int) := by omega
  have h3 : (r : Int) ≤ 64 := by omega
  have h4 : (c : Int) ≤ 64 := by omega
  have h5 : max (r : Int) (c : Int) ≤ 64 := by omega
  have h6 : 0 ≤ min (r : Int) (c : Int) := by omega
  go_enter Try.func48, Try.ntmps48
  go_wp2
  go_ret
  exact ⟨rfl, rfl⟩
set_option maxHeartbeats 800000 in
set_option maxRecDepth 100000 in
theorem check_yes {w : World} {v : Value} {r c : Nat} {zs : List Int} {k : Nat} (h : Mx w v r c zs k) : Calls Try.prog 16 #[v] w fun e w' => e = .returned (.int .i64 0) ∧ Below w.heap.size w w' := by
  obtain ⟨a, cap, rfl, hr, hc⟩ := h.form
  have hm0 := wrapM9 (i := r) (c := c) hr hc
  obtain ⟨n, hn⟩ : ∃ n, r * c = n := ⟨_, rfl⟩
  rw [hn] at hm0
  have hm2 := hm0
  rw [IntKind.wrap_i64] at hm2
  rw [hn]
  obtain ⟨W0, hW⟩ : ∃ W0, w.alloc (matO r c (.slice a n cap)) = W0 := ⟨_, rfl⟩
  obtain ⟨b0, sz0⟩ := alo1 w (matO r c (.slice a n cap))
  rw [hW] at b0 sz0
  have P1 : Hid (Cel W0 w.heap.size 24 (matc r c (.slice a n cap))) := by unfold Hid; rw [← hW]; exact Cel.new w _ _
  have x0 := P1.out.at (i := 0) rfl
  have x1 := P1.out.at (i := 1) rfl
  have x2 := P1.out.at (i := 2) rfl
  rw [← hW] at x0 x1 x2
  have HS := hid (isShape_yes (w := W0) hr hc)
  have G0 := hid b0
  have EW := hid hW
  have q0 : ((n : Int) != (n : Int)) = false := by simp
  clear b0 sz0 hW h hn P1
  go_enter Try.func16, Try.ntmps16
  go_wp2_with fail
  rw [EW.out]
  refine HS.out.mono ?_
  rintro e w1 ⟨rfl, rfl⟩
  rw [EW.out] at x0 x1 x2
  go_wp2
  go_ret
  exact ⟨rfl, G0.out⟩
/-- A list of sound matrices. -/
def Ms (w : World) (v : Value) (n : Nat) : Prop := ∃ a cap, v = .slice a n cap ∧ n ≤ 1048576 ∧ (n = 0 ∨ ∃ b off, a = some ⟨b, off, none⟩ ∧ ∀ j, j < n → ∃ (r c l cap' : Nat) (a' : Option Addr), w.cell? ⟨b, off + j * 3, none⟩ = some (.int .i64 (r : Int)) ∧ w.cell? ⟨b, off + j * 3 + 1, none⟩ = some (.int .i64 (c : Int)) ∧ w.cell? ⟨b, off + j * 3 + 2, none⟩ = some (.slice a' l cap') ∧ ∃ zs k, Mx w (matv r c (.slice a' l cap')) r c zs k)
def ChkH (w : World) (n gk : Nat) (s : Value) (wx : World) : Prop := ∃ i : Nat, s = .int .i64 (i : Int) ∧ i ≤ n ∧ gk = n - i ∧ Below w.heap.size w wx
set_option maxHeartbeats 1600000 in
set_option maxRecDepth 100000 in
theorem checkAll_yes {w : World} {v : Value} {n : Nat} (h : Ms w v n) : Calls Try.prog 51 #[v] w fun e w' => e = .returned (.int .i64 0) ∧ Below w.heap.size w w' := by
  obtain ⟨a0, c0, rfl, hn, hel⟩ := h
  have EL := hid hel
  have H0 : Hid (ChkH w n n (.int .i64 0) w) := ⟨0, rfl, Nat.zero_le _, by omega, Below.refl _ _⟩
  clear hel
  go_enter Try.func51, Try.ntmps51
  go_wp2_with fail
  go_loopg [8] n (fun gk s8 wx => ChkH w n gk s8 wx)
  case atStart => exact H0.out
  case round =>
    clear H0
    obtain ⟨i, rfl, hin, hg, hG⟩ := hrel
    have G := hid hG
    have HG := hid hg
    clear hG hg
    by_cases hlt : i < n
    · have hlt' : (i : Int) < (n : Int) := by omega
      obtain ⟨b1, o1, rfl, hel⟩ := EL.out.resolve_left (by omega)
      obtain ⟨r, c, l, cap', a', e0, e1, e2, zs, k, hm⟩ := hel i hlt
      have k0 := cnow G.out e0
      have k1 := cnow G.out e1
      have k2 := cnow G.out e2
      obtain ⟨V1, hV⟩ : ∃ V1, wr.alloc (matO r c (.slice a' l cap')) = V1 := ⟨_, rfl⟩
      obtain ⟨b1', sz1⟩ := alo1 wr (matO r c (.slice a' l cap'))
      rw [hV] at b1' sz1
      have P4 : Hid (Cel V1 wr.heap.size 24 (matc r c (.slice a' l cap'))) := by unfold Hid; rw [← hV]; exact Cel.new wr _ _
      have GV := hid (below_step G.out b1')
      have HS := hid (check_yes (hm.now GV.out))
      have x0 := P4.out.at (i := 0) rfl
      have x1 := P4.out.at (i := 1) rfl
      have x2 := P4.out.at (i := 2) rfl
      rw [← hV] at x0 x1 x2
      have EV := hid hV
      have hw := wrapI9 (i := i) (by omega)
      clear e0 e1 e2 hel hm b1' sz1 hV P4 G
      go_wp2_with fail
      rw [EV.out]
      refine HS.out.mono ?_
      rintro e w1 ⟨rfl, b⟩
      have HN1 : Hid (ChkH w n (n - (i + 1)) (.int .i64 ((i + 1 : Nat) : Int)) w1) := ⟨i + 1, rfl, by omega, rfl, below_step GV.out b⟩
      have HMM : Hid (n - (i + 1) < gk) := by unfold Hid; rw [HG.out]; omega
      clear HS GV b EV HG x0 x1 x2 k0 k1 k2
      go_wp2_with fail
      go_roundg (n - (i + 1))
      case rel => exact HN1.out
      case measure => exact HMM.out
    · have hlt' : ¬ (i : Int) < (n : Int) := by omega
      clear HG
      go_wp2
      go_ret
      exact ⟨rfl, G.out⟩
end Go.Proofs.Ytachdicdfhfoaaa
