/-
  Law6: alike, of, least of the statements.
-/
import Derived.Test.YthdnnphpjdchnaaQZMetToBool6
namespace Go.Proofs.Ythdnnphpjdchnaa
open Go.RowKit
set_option linter.unusedVariables false

theorem least_top {xs : List Int} (h : Canon xs) (hx : xs ≠ []) : xs[xs.length - 1]'(by have := List.length_pos_iff.2 hx; omega) ≠ 0 := by
  have hp := List.length_pos_iff.2 hx
  have h1 := canon_drop (xs.length - 1) h
  rw [List.drop_eq_getElem_cons (by omega), show xs.length - 1 + 1 = xs.length by omega, List.drop_length] at h1
  intro e
  rw [e] at h1
  simpa [wid] using h1.2
theorem lit_zc {n : Bool} {x : Int} (w : World) (hx : 0 < x) (hx' : x ≤ 18446744073709551615) : Zc (w.alloc (.cells #[.int .u64 x] 45)) (.agg #[.bool n, .slice (some ⟨w.heap.size, 0, none⟩) 1 1]) (iv n [x]) 1 :=
  ⟨n, [x], _, _, rfl, word_one w x ⟨by omega, hx'⟩, ⟨(word_one w x ⟨by omega, hx'⟩).1, by simp [wid]; omega⟩, fun e => by simp at e, rfl, by simp⟩
set_option maxHeartbeats 6400000 in
set_option maxRecDepth 100000 in
theorem alike6_yes {w : World} {v u : Value} {z y : Int} {k l : Nat} (h : Zc w v z k) (h' : Zc w u y l) (hzy : z = y) :
    Calls Try.prog 14 #[v, u] w fun e w' => e = .returned (.bool true) ∧ Below w.heap.size w w' := by
  subst hzy
  obtain ⟨n, xs, a, c, rfl, s0, q0, e0, z0, k0⟩ := h
  obtain ⟨m, ys, b, d, rfl, s1, q1, e1, z1, k1⟩ := h'
  obtain ⟨rfl, rfl⟩ := iv_one (z0.trans z1.symm) q0 q1 e0 e1
  obtain ⟨W0, hW0⟩ : ∃ W0, (w.alloc (duo (.bool n) (.slice a xs.length c))).alloc (duo (.bool n) (.slice b xs.length d)) = W0 := ⟨_, rfl⟩
  obtain ⟨b0, sz0⟩ := alloc2 w (duo (.bool n) (.slice a xs.length c)) (duo (.bool n) (.slice b xs.length d))
  rw [hW0] at b0 sz0
  have p0 : Hid (Duo W0 w.heap.size (.bool n) (.slice a xs.length c)) := by unfold Hid; rw [← hW0]; exact duo_late (duo_at rfl) _
  have p1 : Hid (Duo W0 (w.heap.size + 1) (.bool n) (.slice b xs.length d)) := by unfold Hid; rw [← hW0]; exact duo_at (by simp)
  have HC := hid (same_yes (s0.now b0) (s1.now b0) rfl)
  have B0 := hid b0
  have EW := hid hW0
  have hq : (n == n) = true := by simp
  clear s0 s1 z0 z1 b0 q0 q1 e0 e1 hW0
  go_enter Try.func14, Try.ntmps14
  go_wp2_with fail
  rw [EW.out]
  refine HC.out.mono ?_
  rintro e w1 ⟨rfl, b1⟩
  have B1 := hid (below_step B0.out b1)
  have i0 := (p0.out.step b1).c0
  have i1 := (p1.out.step b1).c0
  clear b1 HC
  go_wp2
  go_ret
  exact ⟨rfl, B1.out⟩
/-- A call that answers an integer in whatever form. -/
def GivesI (w : World) (z : Int) (k : Nat) (e : Ending) (w' : World) : Prop := ∃ r, e = .returned r ∧ Zi w' r z k ∧ Below w.heap.size w w'
def GivesC (w : World) (z : Int) (k : Nat) (e : Ending) (w' : World) : Prop := ∃ r, e = .returned r ∧ Zc w' r z k ∧ Below w.heap.size w w'
set_option maxHeartbeats 6400000 in
set_option maxRecDepth 100000 in
theorem of6 {n : Int} (h0 : 0 ≤ n) (h1 : n ≤ 18446744073709551615) (w : World) :
    Calls Try.prog 30 #[.int .u64 n] w fun e w' => ∃ r, e = .returned r ∧ Zi w' r n 1 ∧ (0 < n → Zc w' r n 1) ∧ Below w.heap.size w w' := by
  obtain ⟨WX, hWX⟩ : ∃ WX, (w.alloc (duo (.bool false) (.slice (some ⟨w.heap.size + 1, 0, none⟩) 1 1))).alloc (.cells #[.int .u64 n] 45) = WX := ⟨_, rfl⟩
  obtain ⟨b0, sz0⟩ := alloc2 w (duo (.bool false) (.slice (some ⟨w.heap.size + 1, 0, none⟩) 1 1)) (.cells #[.int .u64 n] 45)
  rw [hWX] at b0 sz0
  have dX : Duo WX w.heap.size (.bool false) (.slice (some ⟨w.heap.size + 1, 0, none⟩) 1 1) := by rw [← hWX]; exact duo_late (duo_at rfl) _
  have sX : Sl WX.heap.size WX (.slice (some ⟨w.heap.size + 1, 0, none⟩) 1 1) [n] := by
    have := word_one (w.alloc (duo (.bool false) (.slice (some ⟨w.heap.size + 1, 0, none⟩) 1 1))) n ⟨h0, h1⟩
    rw [hWX] at this
    simpa using this
  have eV : iv false [n] = n := by simp [iv, val]
  have FIN : Hid (Zi WX (.agg #[.bool false, .slice (some ⟨w.heap.size + 1, 0, none⟩) 1 1]) n 1 ∧ (0 < n → Zc WX (.agg #[.bool false, .slice (some ⟨w.heap.size + 1, 0, none⟩) 1 1]) n 1)) :=
    ⟨⟨false, [n], _, _, rfl, sX, eV, by simp⟩, fun hn => ⟨false, [n], _, _, rfl, sX, ⟨sX.1, by simp [wid]; omega⟩, fun e => by simp at e, eV, by simp⟩⟩
  have EW := hid hWX
  have DX := hid dX
  have BX := hid b0
  clear sX dX eV b0 hWX
  go_enter Try.func30, Try.ntmps30
  go_wp2
  rw [EW.out]
  exact bodyPost_ret (zback Try.results30 DX.out _ (by rfl)) rfl ⟨_, rfl, FIN.out.1, FIN.out.2, BX.out⟩

set_option maxHeartbeats 6400000 in
set_option maxRecDepth 100000 in
theorem least6 {w : World} {v : Value} {z : Int} {k : Nat} (h : Zc w v z k) :
    Calls Try.prog 13 #[v] w fun e w' => e = .returned (.bool true) ∧ Below w.heap.size w w' := by
  obtain ⟨n, xs, a, c, rfl, s0, q0, e0, z0, k0⟩ := h
  have b0 := (alloc1 w (duo (.bool n) (.slice a xs.length c))).1
  have B0 := hid b0
  by_cases hx : xs = []
  · have hn := e0 hx
    subst hn hx
    clear s0 q0 e0 z0 k0 b0
    go_enter Try.func13, Try.ntmps13
    go_wp2
    go_ret
    exact ⟨rfl, B0.out⟩
  · have hp : 0 < xs.length := List.length_pos_iff.2 hx
    have s1 := s0.now b0
    have hw := least_top q0 hx
    obtain ⟨_, a', c', e1, _, _, e | ⟨g, off, e2, _, hc⟩⟩ := s1
    · exact absurd e hx
    · have h1 := hc (xs.length - 1) (by omega)
      simp only [Value.slice.injEq] at e1
      obtain ⟨rfl, -, rfl⟩ := e1
      subst e2
      obtain ⟨x, hxx⟩ : ∃ x, xs[xs.length - 1] = x := ⟨_, rfl⟩
      rw [hxx] at h1 hw
      have hne : (x != 0) = true := by simp [hw]
      obtain ⟨m, hm⟩ : ∃ m, xs.length = m + 1 := ⟨xs.length - 1, by omega⟩
      have hz : (((m + 1 : Nat) : Int) == 0) = false := by rw [beq_eq_false_iff_ne]; omega
      have hz' : (0 : Int) < ((m + 1 : Nat) : Int) := by omega
      have hs : ((m + 1 : Nat) : Int) - 1 = (m : Int) := by omega
      have hlt : m < m + 1 := by omega
      rw [hm] at h1 k0 ⊢
      rw [show m + 1 - 1 = m by omega] at h1
      rw [hm] at B0
      clear s0 q0 e0 z0 b0 hx hp hc hxx hw k0
      go_enter Try.func13, Try.ntmps13
      go_wp2
      go_ret
      exact ⟨rfl, B0.out⟩

end Go.Proofs.Ythdnnphpjdchnaa
