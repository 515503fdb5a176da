/-
  Sign4: the law's sign and awake; Dec, ReadDec, Digits.
-/
import Derived.Test.YtjpnaicgefiglaaDoorQRead
namespace Go.Proofs.YtjpnaicgefiglaaDoor
open Go.RowKit
set_option linter.unusedVariables false

/-- The value that the law's sign answers. -/
def sv (c : Nat) : Int := if 48 ≤ c ∧ c ≤ 57 then (c : Int) - 48 else if 97 ≤ c ∧ c ≤ 122 then (c : Int) - 87 else if 65 ≤ c ∧ c ≤ 90 then (c : Int) - 55 else -1
theorem sv_ok {c B : Nat} (hB : B ≤ 36) : (0 ≤ sv c ∧ sv c < (B : Int)) ↔ dv c < B := by
  unfold sv dv
  (repeat' split) <;> omega
theorem sv_dv {c : Nat} (h : dv c < 36) : sv c = (dv c : Int) := by
  unfold dv at h ⊢
  unfold sv
  (repeat' split at h) <;> (repeat' split) <;> omega
set_option maxRecDepth 100000 in
set_option maxHeartbeats 3200000 in
theorem sign_any {c : Nat} (hc : c < 256) (b : Int) (hb0 : -9223372036854775808 ≤ b) (hb1 : b ≤ 9223372036854775807) (w : World) :
    Calls Tryd.prog 20 #[.int .u8 (c : Int), .int .i64 b] w fun e w' => e = .returned (.tuple #[.int .i64 (sv c), .bool (decide (0 ≤ sv c ∧ sv c < b))]) ∧ w' = w := by
  by_cases q0 : 48 ≤ c ∧ c ≤ 57
  · have ev : sv c = (c : Int) - 48 := by unfold sv; (repeat' split) <;> omega
    rw [ev]
    have f0 : (48 : Int) ≤ (c : Int) := by omega
    have f1 : (c : Int) ≤ 57 := by omega
    obtain ⟨v, hv⟩ : ∃ v : Nat, (v : Int) = (c : Int) - 48 := ⟨((c : Int) - 48).toNat, by omega⟩
    rw [← hv]
    have g0 : (0 : Int) ≤ (v : Int) := by omega
    have g1 : (c : Int) - 48 = (v : Int) := hv.symm
    have g2 : v < 256 := by omega
    clear hv ev q0
    by_cases h : (v : Int) < b
    · rw [decide_eq_true ⟨g0, h⟩]
      go_enter Tryd.func20, Tryd.ntmps20
      go_wp2
      go_ret2
      exact ⟨rfl, rfl⟩
    · rw [decide_eq_false (fun q => h q.2)]
      go_enter Tryd.func20, Tryd.ntmps20
      go_wp2
      go_ret2
      exact ⟨rfl, rfl⟩
  by_cases q1 : 97 ≤ c ∧ c ≤ 122
  · have ev : sv c = (c : Int) - 87 := by unfold sv; (repeat' split) <;> omega
    rw [ev]
    have f0 : (48 : Int) ≤ (c : Int) := by omega
    have f1 : ¬ (c : Int) ≤ 57 := by omega
    have f2 : (97 : Int) ≤ (c : Int) := by omega
    have f3 : (c : Int) ≤ 122 := by omega
    obtain ⟨v, hv⟩ : ∃ v : Nat, (v : Int) = (c : Int) - 87 := ⟨((c : Int) - 87).toNat, by omega⟩
    rw [← hv]
    have g0 : (0 : Int) ≤ (v : Int) := by omega
    obtain ⟨u, hu⟩ : ∃ u : Nat, (u : Int) = (c : Int) - 97 := ⟨((c : Int) - 97).toNat, by omega⟩
    have g1 : (c : Int) - 97 = (u : Int) := hu.symm
    have g2 : u < 256 := by omega
    have g3 : (u : Int) + 10 = (v : Int) := by omega
    clear hu
    clear hv ev q0 q1
    by_cases h : (v : Int) < b
    · rw [decide_eq_true ⟨g0, h⟩]
      go_enter Tryd.func20, Tryd.ntmps20
      go_wp2
      go_ret2
      exact ⟨rfl, rfl⟩
    · rw [decide_eq_false (fun q => h q.2)]
      go_enter Tryd.func20, Tryd.ntmps20
      go_wp2
      go_ret2
      exact ⟨rfl, rfl⟩
  by_cases q2 : 65 ≤ c ∧ c ≤ 90
  · have ev : sv c = (c : Int) - 55 := by unfold sv; (repeat' split) <;> omega
    rw [ev]
    have f0 : (48 : Int) ≤ (c : Int) := by omega
    have f1 : ¬ (c : Int) ≤ 57 := by omega
    have f2 : ¬ (97 : Int) ≤ (c : Int) := by omega
    have f3 : (65 : Int) ≤ (c : Int) := by omega
    have f4 : (c : Int) ≤ 90 := by omega
    obtain ⟨v, hv⟩ : ∃ v : Nat, (v : Int) = (c : Int) - 55 := ⟨((c : Int) - 55).toNat, by omega⟩
    rw [← hv]
    have g0 : (0 : Int) ≤ (v : Int) := by omega
    obtain ⟨u, hu⟩ : ∃ u : Nat, (u : Int) = (c : Int) - 65 := ⟨((c : Int) - 65).toNat, by omega⟩
    have g1 : (c : Int) - 65 = (u : Int) := hu.symm
    have g2 : u < 256 := by omega
    have g3 : (u : Int) + 10 = (v : Int) := by omega
    clear hu
    clear hv ev q0 q1 q2
    by_cases h : (v : Int) < b
    · rw [decide_eq_true ⟨g0, h⟩]
      go_enter Tryd.func20, Tryd.ntmps20
      go_wp2
      go_ret2
      exact ⟨rfl, rfl⟩
    · rw [decide_eq_false (fun q => h q.2)]
      go_enter Tryd.func20, Tryd.ntmps20
      go_wp2
      go_ret2
      exact ⟨rfl, rfl⟩
  by_cases q3 : c < 48
  · have ev : sv c = -1 := by unfold sv; (repeat' split) <;> omega
    rw [ev]
    have f0 : ¬ (48 : Int) ≤ (c : Int) := by omega
    have f1 : ¬ (97 : Int) ≤ (c : Int) := by omega
    have f2 : ¬ (65 : Int) ≤ (c : Int) := by omega
    rw [decide_eq_false (fun q => absurd q.1 (by decide))]
    clear ev q0 q1 q2 q3
    go_enter Tryd.func20, Tryd.ntmps20
    go_wp2
    go_ret2
    exact ⟨rfl, rfl⟩
  by_cases q4 : c < 65
  · have ev : sv c = -1 := by unfold sv; (repeat' split) <;> omega
    rw [ev]
    have f0 : (48 : Int) ≤ (c : Int) := by omega
    have f1 : ¬ (c : Int) ≤ 57 := by omega
    have f2 : ¬ (97 : Int) ≤ (c : Int) := by omega
    have f3 : ¬ (65 : Int) ≤ (c : Int) := by omega
    rw [decide_eq_false (fun q => absurd q.1 (by decide))]
    clear ev q0 q1 q2 q3 q4
    go_enter Tryd.func20, Tryd.ntmps20
    go_wp2
    go_ret2
    exact ⟨rfl, rfl⟩
  by_cases q5 : c < 97
  · have ev : sv c = -1 := by unfold sv; (repeat' split) <;> omega
    rw [ev]
    have f0 : (48 : Int) ≤ (c : Int) := by omega
    have f1 : ¬ (c : Int) ≤ 57 := by omega
    have f2 : ¬ (97 : Int) ≤ (c : Int) := by omega
    have f3 : (65 : Int) ≤ (c : Int) := by omega
    have f4 : ¬ (c : Int) ≤ 90 := by omega
    rw [decide_eq_false (fun q => absurd q.1 (by decide))]
    clear ev q0 q1 q2 q3 q4 q5
    go_enter Tryd.func20, Tryd.ntmps20
    go_wp2
    go_ret2
    exact ⟨rfl, rfl⟩
  have ev : sv c = -1 := by unfold sv; (repeat' split) <;> omega
  rw [ev]
  have f0 : (48 : Int) ≤ (c : Int) := by omega
  have f1 : ¬ (c : Int) ≤ 57 := by omega
  have f2 : (97 : Int) ≤ (c : Int) := by omega
  have f3 : ¬ (c : Int) ≤ 122 := by omega
  have f4 : (65 : Int) ≤ (c : Int) := by omega
  have f5 : ¬ (c : Int) ≤ 90 := by omega
  rw [decide_eq_false (fun q => absurd q.1 (by decide))]
  clear ev q0 q1 q2 q3 q4 q5
  go_enter Tryd.func20, Tryd.ntmps20
  go_wp2
  go_ret2
  exact ⟨rfl, rfl⟩

theorem txt_ff : txt 16 255 = ⟨#[102, 102]⟩ := by
  have e : lead (digF 16 255 255) = [15, 15] := by
    rw [leadD_any (k := 2) (lt_pow_self (by omega) 255) (by decide)]
    decide
  unfold txt txtL
  rw [if_neg (by decide), e]
  rfl
/-- A list of one word that is written down. -/
theorem lit_one (w : World) (x : Int) (hx : IsW x) : Sl (w.alloc (.cells #[.int .u64 x] 42)).heap.size (w.alloc (.cells #[.int .u64 x] 42)) (.slice (some ⟨w.heap.size, 0, none⟩) 1 1) [x] :=
  lit_last w [x] #[.int .u64 x] rfl (wf_word (by unfold IsW wB at hx; omega) WF.nil) (by simp) 1 rfl
set_option maxRecDepth 100000 in
theorem awake4_any {w : World} (hT : Sg w) : Calls Tryd.prog 10 #[] w fun e w' => e = .returned (.bool true) ∧ Below w.heap.size w w' := by
  have k := (Below.refl w.heap.size w).alloc (Nat.le_refl _) (.cells #[.int .u64 255] 42)
  have hs := lit_one w 255 (by unfold IsW wB; omega)
  have HT := hid (text_any (B := 16) hs (by simp) (by omega) (by omega) (hT.now k))
  have e1 : vn [255] = 255 := by simp [vn]
  rw [e1, txt_ff] at HT
  have K := hid k
  clear k hs hT e1
  go_enter Tryd.func10, Tryd.ntmps10
  go_wp2_with fail
  refine HT.out.mono ?_
  rintro e w1 ⟨rfl, k1⟩
  have K1 := hid (below_step K.out k1)
  clear k1 HT K
  go_wp2
  go_ret
  exact ⟨rfl, K1.out⟩
theorem dec_any {w : World} {va : Value} {xs : List Int} (ha : Sl w.heap.size w va xs) (lx : xs.length ≤ 1048576) (hT : Sg w) :
    Calls Tryd.prog 15 #[va] w fun e w' => e = .returned (.string (txt 10 (vn xs))) ∧ Below w.heap.size w w' := by
  have HT := hid (text_any (B := 10) ha lx (by omega) (by omega) hT)
  obtain ⟨a, c, rfl⟩ : ∃ a c, va = .slice a xs.length c := by obtain ⟨_, a, c, e, _⟩ := ha; exact ⟨a, c, e⟩
  clear ha hT
  generalize txt 10 (vn xs) = t at *
  go_enter Tryd.func15, Tryd.ntmps15
  go_wp2_with fail
  refine HT.out.mono ?_
  rintro e w1 ⟨rfl, k1⟩
  have K1 := hid k1
  clear k1 HT
  go_wp2
  go_ret
  exact ⟨rfl, K1.out⟩
theorem digits_any {w : World} {va : Value} {xs : List Int} (ha : Sl w.heap.size w va xs) (lx : xs.length ≤ 1048576) (hT : Sg w) :
    Calls Tryd.prog 17 #[va] w fun e w' => e = .returned (.int .i64 ((txtL 10 (vn xs)).length : Int)) ∧ Below w.heap.size w w' := by
  have HT := hid (dec_any ha lx hT)
  obtain ⟨a, c, rfl⟩ : ∃ a c, va = .slice a xs.length c := by obtain ⟨_, a, c, e, _⟩ := ha; exact ⟨a, c, e⟩
  have hsz : (txt 10 (vn xs)).size = (txtL 10 (vn xs)).length := mk_size _
  clear ha hT
  generalize txt 10 (vn xs) = t at *
  generalize (txtL 10 (vn xs)).length = n at *
  go_enter Tryd.func17, Tryd.ntmps17
  go_wp2_with fail
  refine HT.out.mono ?_
  rintro e w1 ⟨rfl, k1⟩
  have K1 := hid k1
  clear k1 HT
  go_wp2
  go_ret
  exact ⟨rfl, K1.out⟩
end Go.Proofs.YtjpnaicgefiglaaDoor
