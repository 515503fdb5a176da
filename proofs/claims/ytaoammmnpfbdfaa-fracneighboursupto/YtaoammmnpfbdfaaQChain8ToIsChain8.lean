/-
  QChain8ToIsChain8: Chain8, IsChain8, joined.
-/
import Derived.Test.YtaoammmnpfbdfaaQCrtLPureToFit8
import Derived.Test.YtaoammmnpfbdfaaQZedToOnes

/- Chain8 -/
namespace Go.Proofs.Ytaoammmnpfbdfaa
open Go.RowKit
set_option linter.unusedVariables false

abbrev fnLow : Value := .func (.func 70) #[] #[]
set_option maxHeartbeats 800000 in
set_option maxRecDepth 100000 in
theorem low_yes {w : World} {v : Value} {z : Int} {k : Nat} (h : Zi w v z k) (hz : ¬ 1 ≤ z) : Calls Try.prog 70 #[v] w fun e w' => e = .returned (.bool true) ∧ Below w.heap.size w w' := by
  have z0 := h
  obtain ⟨n, xs, a, c, rfl, -, -, -⟩ := h
  obtain ⟨W0, hW⟩ : ∃ W0, w.alloc (duo (.bool n) (.slice a xs.length c)) = W0 := ⟨_, rfl⟩
  obtain ⟨b0, sz0⟩ := alloc1 w (duo (.bool n) (.slice a xs.length c))
  rw [hW] at b0 sz0
  have HS := hid (sign_low (z0.now b0) hz)
  have G := hid b0
  have EW := hid hW
  clear z0 b0 hW hz
  go_enter Try.func70, Try.ntmps70
  go_wp2_with fail
  rw [EW.out]
  refine HS.out.mono ?_
  rintro e w1 ⟨c', rfl, hc, b⟩
  have G1 := hid (below_step G.out b)
  clear b HS
  go_wp2
  go_ret
  exact ⟨rfl, G1.out⟩
set_option maxHeartbeats 800000 in
set_option maxRecDepth 100000 in
theorem low_no {w : World} {v : Value} {z : Int} {k : Nat} (h : Zi w v z k) (hz : 1 ≤ z) : Calls Try.prog 70 #[v] w fun e w' => e = .returned (.bool false) ∧ Below w.heap.size w w' := by
  have z0 := h
  obtain ⟨n, xs, a, c, rfl, -, -, -⟩ := h
  obtain ⟨W0, hW⟩ : ∃ W0, w.alloc (duo (.bool n) (.slice a xs.length c)) = W0 := ⟨_, rfl⟩
  obtain ⟨b0, sz0⟩ := alloc1 w (duo (.bool n) (.slice a xs.length c))
  rw [hW] at b0 sz0
  have HS := hid (sign_pos (z0.now b0) hz)
  have G := hid b0
  have EW := hid hW
  have q0 : ¬ ((1 : Int) < 1) := by decide
  clear z0 b0 hW hz
  go_enter Try.func70, Try.ntmps70
  go_wp2_with fail
  rw [EW.out]
  refine HS.out.mono ?_
  rintro e w1 ⟨rfl, b⟩
  have G1 := hid (below_step G.out b)
  clear b HS
  go_wp2
  go_ret
  exact ⟨rfl, G1.out⟩
/-- All of them are at least 1. -/
def AllPos (zs : List Int) : Prop := ∀ j (h : j < zs.length), 1 ≤ zs[j]
def Indexed (w : World) (zs : List Int) (e : Ending) (w' : World) : Prop := ∃ r : Int, e = .returned (.int .i64 r) ∧ ((0 : Int) ≤ r ↔ ¬ AllPos zs) ∧ Below w.heap.size w w'
def IdxH (w : World) (zs : List Int) (k n : Nat) (v : Value) (g : Nat) (s : Value) (wx : World) : Prop :=
  ∃ i : Nat, s = .int .i64 (i : Int) ∧ i ≤ n ∧ g = n - i ∧ (∀ j (h : j < zs.length), j < i → 1 ≤ zs[j]) ∧ ZlB w.heap.size wx v zs k ∧ Below w.heap.size w wx
set_option maxHeartbeats 3200000 in
set_option maxRecDepth 100000 in
theorem index8 {w : World} {v : Value} {zs : List Int} {k : Nat} (hv : Zl w v zs k) :
    Calls Try.prog 85 #[v, fnLow] w (Indexed w zs) := by
  have zv := hid hv.zlb
  obtain ⟨a0, c0, rfl, hc0, hn0, hf0⟩ := zv.out.form
  obtain ⟨n, hn⟩ : ∃ n, zs.length = n := ⟨_, rfl⟩
  rw [hn] at zv hc0 hn0 ⊢
  have HN := hid hn
  have F0 := hid hf0
  clear hv hf0 hn
  have H0 : Hid (IdxH w zs k n (.slice a0 n c0) n (.int .i64 0) w) := ⟨0, rfl, Nat.zero_le _, rfl, fun j _ h2 => by omega, zv.out, Below.refl _ _⟩
  clear zv
  go_enter Try.func85, Try.ntmps85
  go_wp2_with fail
  go_loopg [8] n (fun g s8 wx => IdxH w zs k n (.slice a0 n c0) g s8 wx)
  case atStart => exact H0.out
  case round =>
    clear H0
    obtain ⟨i, rfl, hin, hg, hpos, lz, hG⟩ := hrel
    have LZ := hid lz
    have G := hid hG
    have HG := hid hg
    have HP := hid hpos
    clear lz hG hg hpos
    by_cases hlt : i < n
    · have hlt' : (i : Int) < (n : Int) := by omega
      obtain ⟨b1, o1, rfl, -⟩ := F0.out (fun e => by have := HN.out; rw [e] at this; simp at this; omega)
      obtain ⟨nf, xf, adf, qf, k0, k1, zf⟩ := LZ.out.at (i := i) (by rw [HN.out]; exact hlt)
      have Zf := hid zf
      clear zf
      have hw := wrapI8 (i := i) (by omega)
      by_cases hp : 1 ≤ zs[i]'(by rw [HN.out]; exact hlt)
      · have HS := hid (low_no Zf.out hp)
        have HPP := hid hp
        clear hp Zf
        go_wp2_with fail
        refine HS.out.mono ?_
        rintro e w1 ⟨rfl, b⟩
        have HN1 : Hid (IdxH w zs k n (.slice (some ⟨b1, o1, none⟩) n c0) (n - (i + 1)) (.int .i64 ((i + 1 : Nat) : Int)) w1) := ⟨i + 1, rfl, by omega, rfl, fun j h hj => by
          by_cases q : j < i
          · exact HP.out j h q
          · obtain rfl : j = i := by omega
            exact HPP.out, LZ.out.now b, below_step G.out b⟩
        have HMM : Hid (n - (i + 1) < gk) := by unfold Hid; rw [HG.out]; omega
        clear HS HPP LZ G HG HP k0 k1 b
        go_wp2_with fail
        go_roundg (n - (i + 1))
        case rel => exact HN1.out
        case measure => exact HMM.out
      · have HS := hid (low_yes Zf.out hp)
        have HPP := hid hp
        clear hp Zf
        go_wp2_with fail
        refine HS.out.mono ?_
        rintro e w1 ⟨rfl, b⟩
        have FIN : Hid (Indexed w zs (.returned (.int .i64 (i : Int))) w1) := ⟨(i : Int), rfl, ⟨fun _ e => (by have h1 := e i (by rw [HN.out]; exact hlt); have h2 := HPP.out; omega), fun _ => by omega⟩, below_step G.out b⟩
        clear HS HPP LZ G HG HP k0 k1 b
        go_wp2
        go_ret
        exact FIN.out
    · have hlt' : ¬ (i : Int) < (n : Int) := by omega
      have FIN : Hid (Indexed w zs (.returned (.int .i64 (-1))) wr) := ⟨-1, rfl, ⟨fun h => (by omega), fun h => absurd (fun j hj => HP.out j hj (by have := HN.out; omega)) h⟩, G.out⟩
      clear LZ G HG HP
      go_wp2
      go_ret
      exact FIN.out
def Contained (w : World) (zs : List Int) (e : Ending) (w' : World) : Prop := ∃ b : Bool, e = .returned (.bool b) ∧ (b = true ↔ ¬ AllPos zs) ∧ Below w.heap.size w w'
set_option maxHeartbeats 800000 in
set_option maxRecDepth 100000 in
theorem contains8 {w : World} {v : Value} {zs : List Int} {k : Nat} (hv : Zl w v zs k) :
    Calls Try.prog 69 #[v, fnLow] w (Contained w zs) := by
  have HI := hid (index8 hv)
  obtain ⟨a0, c0, rfl, -, -, -⟩ := hv
  go_enter Try.func69, Try.ntmps69
  go_wp2_with fail
  refine HI.out.mono ?_
  rintro e w1 ⟨r, rfl, hr, b⟩
  have FIN : Hid (Contained w zs (.returned (.bool (decide (0 ≤ r)))) w1) := ⟨_, rfl, by rw [decide_eq_true_eq]; exact hr, b⟩
  clear HI hr b
  go_wp2
  go_ret
  exact FIN.out
end Go.Proofs.Ytaoammmnpfbdfaa

/- IsChain8 -/
namespace Go.Proofs.Ytaoammmnpfbdfaa
open Go.RowKit
set_option linter.unusedVariables false

theorem fit_drop {zs : List Int} : Fit zs ↔ 0 < zs.length ∧ AllPos (zs.drop 1) := by
  unfold Fit AllPos
  refine ⟨fun h => ⟨h.1, fun j hj => ?_⟩, fun h => ⟨h.1, fun j hj h1 => ?_⟩⟩
  · rw [List.getElem_drop]
    rw [List.length_drop] at hj
    exact h.2 (1 + j) (by omega) (by omega)
  · have := h.2 (j - 1) (by rw [List.length_drop]; omega)
    rw [List.getElem_drop] at this
    simpa [show 1 + (j - 1) = j by omega] using this
set_option maxHeartbeats 3200000 in
set_option maxRecDepth 100000 in
theorem isChain8 {w : World} {v : Value} {zs : List Int} {k : Nat} (hv : Zl w v zs k) :
    Calls Try.prog 50 #[v] w (Fitted w zs) := by
  have zv := hid hv
  obtain ⟨a0, c0, rfl, hc0, hn0, hf0⟩ := hv
  obtain ⟨n, hn⟩ : ∃ n, zs.length = n := ⟨_, rfl⟩
  rw [hn] at zv hc0 hn0 ⊢
  have HN := hid hn
  by_cases h0 : n = 0
  · subst h0
    have FIN : Hid (Fitted w zs (.returned (.bool false)) w) := ⟨false, rfl, ⟨fun e => (by cases e), fun e => (by have := e.1; omega)⟩, Below.refl _ _⟩
    clear zv hf0 hn hc0 hn0
    go_enter Try.func50, Try.ntmps50
    go_wp2
    go_ret
    exact FIN.out
  · rcases hf0 with e | ⟨b, off, rfl, hb, hel⟩
    · rw [e] at hn; simp at hn; omega
    have hp : (0 : Int) < (n : Int) := by omega
    by_cases hc1 : c0 = 1
    · obtain rfl : n = 1 := by omega
      subst hc1
      have HD : Hid (Calls Try.prog 69 #[.slice (some ⟨b, off, none⟩) 0 0, fnLow] w (Contained w (zs.drop 1))) := by
        refine contains8 (k := k) ⟨some ⟨b, off, none⟩, 0, ?_, ?_, ?_, .inl ?_⟩
        · rw [List.length_drop, hn]
        · rw [List.length_drop, hn]; omega
        · rw [List.length_drop, hn]; omega
        · exact List.drop_eq_nil_of_le (by omega)
      clear hel hn zv
      go_enter Try.func50, Try.ntmps50
      go_wp2_with fail
      refine HD.out.mono ?_
      rintro e w1 ⟨r, rfl, hr, b'⟩
      have FIN : Hid (Fitted w zs (.returned (.bool (!r))) w1) := by
        refine ⟨_, rfl, ?_, b'⟩
        rw [fit_drop]
        have hl : 0 < zs.length := by have := HN.out; omega
        cases r
        · refine ⟨fun _ => ⟨hl, Classical.byContradiction fun q => ?_⟩, fun _ => rfl⟩
          exact absurd (hr.2 q) (by simp)
        · refine ⟨fun e => (by cases e), fun q => ?_⟩
          exact absurd q.2 (hr.1 rfl)
      clear HD hr b'
      go_wp2
      go_ret
      exact FIN.out
    have hs := slice_hi w b off n c0 1 (by omega) (by omega)
    have HD := hid (contains8 (zv.out.dropped (n := 1) (by have := HN.out; omega)))
    clear hel hn zv
    go_enter Try.func50, Try.ntmps50
    go_wp2_with fail
    refine HD.out.mono ?_
    rintro e w1 ⟨r, rfl, hr, b'⟩
    have FIN : Hid (Fitted w zs (.returned (.bool (!r))) w1) := by
      refine ⟨_, rfl, ?_, b'⟩
      rw [fit_drop]
      have hl : 0 < zs.length := by have := HN.out; omega
      cases r
      · refine ⟨fun _ => ⟨hl, Classical.byContradiction fun q => ?_⟩, fun _ => rfl⟩
        exact absurd (hr.2 q) (by simp)
      · refine ⟨fun e => (by cases e), fun q => ?_⟩
        exact absurd q.2 (hr.1 rfl)
    clear HD hr b'
    go_wp2
    go_ret
    exact FIN.out
end Go.Proofs.Ytaoammmnpfbdfaa
