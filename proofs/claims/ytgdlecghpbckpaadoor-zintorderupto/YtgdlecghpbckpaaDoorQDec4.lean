/-
  Dec4: Dec; a list of one word that is written down.
-/
import Derived.Test.YtgdlecghpbckpaaDoorQText
namespace Go.Proofs.YtgdlecghpbckpaaDoor
open Go.RowKit
set_option linter.unusedVariables false

/-- A list of one word that is written down. -/
theorem lit_one (w : World) (x : Int) (hx : IsW x) : Sl (w.alloc (.cells #[.int .u64 x] 40)).heap.size (w.alloc (.cells #[.int .u64 x] 40)) (.slice (some ⟨w.heap.size, 0, none⟩) 1 1) [x] :=
  lit_last w [x] #[.int .u64 x] rfl (wf_word (by unfold IsW wB at hx; omega) WF.nil) (by simp) 1 rfl
theorem dec_any {w : World} {va : Value} {xs : List Int} (ha : Sl w.heap.size w va xs) (lx : xs.length ≤ 1048576) (hT : Sg w) :
    Calls Tryd.prog 40 #[va] w fun e w' => e = .returned (.string (txt 10 (vn xs))) ∧ Below w.heap.size w w' := by
  have HT := hid (text_any (B := 10) ha lx (by omega) (by omega) hT)
  obtain ⟨a, c, rfl⟩ : ∃ a c, va = .slice a xs.length c := by obtain ⟨_, a, c, e, _⟩ := ha; exact ⟨a, c, e⟩
  clear ha hT
  generalize txt 10 (vn xs) = t at *
  go_enter Tryd.func40, Tryd.ntmps40
  go_wp2_with fail
  refine HT.out.mono ?_
  rintro e w1 ⟨rfl, k1⟩
  have K1 := hid k1
  clear k1 HT
  go_wp2
  go_ret
  exact ⟨rfl, K1.out⟩
theorem txtL_le {B n k : Nat} (hB : 2 ≤ B) (h : n < B ^ k) (hk : 1 ≤ k) : (txtL B n).length ≤ k := by
  unfold txtL
  split
  · simpa using hk
  · rw [List.length_map, leadD_any (lt_pow_self hB n) h]
    unfold lead
    exact Nat.le_trans (List.dropWhile_suffix _).length_le (Nat.le_of_eq (digF_len B k n))
theorem txt_size {B : Nat} {xs : List Int} (hB : 2 ≤ B) (hx : WF xs) (lx : xs.length ≤ 1048576) : (txt B (vn xs)).size ≤ 67108865 := by
  have h1 := vn_lt_two hx
  have h2 : 2 ^ (64 * xs.length) ≤ B ^ (64 * xs.length + 1) := Nat.le_trans (Nat.pow_le_pow_left hB _) (Nat.pow_le_pow_right (by omega) (Nat.le_succ _))
  have h3 := txtL_le hB (Nat.lt_of_lt_of_le h1 h2) (by omega)
  have h4 : (txt B (vn xs)).size = (txtL B (vn xs)).length := mk_size _
  omega
end Go.Proofs.YtgdlecghpbckpaaDoor
