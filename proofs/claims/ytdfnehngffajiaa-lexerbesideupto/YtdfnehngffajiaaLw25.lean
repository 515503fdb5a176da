/-
  Lw25: the law LexerColumns, given what awake and the program's Columns answer.
-/
import Derived.Test.YtdfnehngffajiaaCp25
import Derived.Deep.LoopGhost
import Derived.Laws.Concat
import Derived.Below
namespace Go.Proofs.Ytdfnehngffajiaa
open Go.RowKit
set_option linter.unusedVariables false

/-- A law's answer. -/
def Well25 (w : World) (e : Ending) (w' : World) : Prop := e = .returned (.bool true) ∧ Below w.heap.size w w'
/-- What the program's Columns answers. -/
def ColP (s : ByteArray) (w : World) (e : Ending) (w' : World) : Prop := ∃ n f, e = .returned (.tuple #[.int .i64 n, .int .i64 f]) ∧ ColD s n f ∧ Below w.heap.size w w'
theorem cnB_le (s : ByteArray) : ∀ i, cnB s i ≤ i
  | 0 => Nat.le_refl _
  | i + 1 => by
    have := cnB_le s i
    unfold cnB
    split <;> omega
theorem colE_le {s : ByteArray} {k : Nat} {f : Int} (h : ColE s 0 k f) : k ≤ s.size := by
  have := h.1.le (Nat.zero_le _)
  omega
theorem colE_err {s : ByteArray} {i k : Nat} {f : Int} (h : ColE s i k f) : f = 0 ∨ f = 12 := by
  rcases h.2 with ⟨q, _⟩ | ⟨q, _⟩
  · exact .inl q
  · exact .inr q
theorem chS_zet : chS ⟨#[197, 188]⟩ 0 = (380, 2) := by decide +kernel
theorem colD_zet : ColD ⟨#[197, 188]⟩ 1 0 := by
  refine ⟨1, ⟨fun j hj => ?_, .inl ⟨rfl, ?_⟩⟩, rfl⟩
  · obtain rfl : j = 0 := by omega
    show 0 < 2 ∧ (chS ⟨#[197, 188]⟩ 0).2 ≠ 0
    rw [chS_zet]
    exact ⟨by omega, by simp⟩
  · show 0 + (chS ⟨#[197, 188]⟩ 0).2 = 2
    rw [chS_zet]
    rfl
theorem cols_law {a b : ByteArray} {m n k e f g : Int} (h1 : ColD a m e) (h2 : ColD b n f) (h3 : ColD (a ++ b) k g) :
    (e = 12 ∧ m = 0) ∨ (e = 0 ∧ f = 12 ∧ n = 0 ∧ g = 12 ∧ k = 0) ∨ (e = 0 ∧ f = 0 ∧ g = 0 ∧ ∃ x y : Nat, m = (x : Int) ∧ n = (y : Int) ∧ k = ((x + y : Nat) : Int) ∧ x = cnB a a.size ∧ x ≤ a.size ∧ y ≤ b.size) := by
  obtain ⟨x, hx, rfl⟩ := h1
  obtain ⟨y, hy, rfl⟩ := h2
  obtain ⟨z, hz, rfl⟩ := h3
  rcases colE_err hx with rfl | rfl
  · obtain ⟨e1, e2⟩ := colE_one (colE_app hx hy) hz
    subst e1 e2
    rcases colE_err hy with rfl | rfl
    · exact .inr (.inr ⟨rfl, rfl, rfl, x, y, rfl, rfl, rfl, (cnB_all hx).symm, colE_le hx, colE_le hy⟩)
    · exact .inr (.inl ⟨rfl, rfl, rfl, rfl, rfl⟩)
  · exact .inl ⟨rfl, rfl⟩
set_option maxHeartbeats 1600000 in
set_option maxRecDepth 100000 in
theorem lexerColumns_of {w : World} {a b : ByteArray} (ha : a.size ≤ 1048576) (hb : b.size ≤ 1048576)
    (AW : Calls Try.prog 6 #[] w (Well25 w))
    (PC : ∀ (s : ByteArray) (w : World), s.size ≤ 4194304 → Calls Try.prog 9 #[.string s] w (ColP s w)) :
    Calls Try.prog 5 #[.string a, .string b] w (Well25 w) := by
  have HAT : Hid (∀ (k : Nat) (h : k < a.size), ((a[k]'h).toNat : Int) = (byS a k : Int)) := fun k h => byS_at h
  have A0 := hid AW
  have PA : Hid (∀ w : World, Calls Try.prog 9 #[.string a] w (ColP a w)) := hid fun w => PC a w (by omega)
  have PB : Hid (∀ w : World, Calls Try.prog 9 #[.string b] w (ColP b w)) := hid fun w => PC b w (by omega)
  have PAB : Hid (∀ w : World, Calls Try.prog 9 #[.string (a ++ b)] w (ColP (a ++ b) w)) := hid fun w => PC (a ++ b) w (by rw [app_size]; omega)
  have PZ : Hid (∀ w : World, Calls Try.prog 9 #[.string ⟨#[197, 188]⟩] w (ColP ⟨#[197, 188]⟩ w)) := hid fun w => PC _ w (by show 2 ≤ _; omega)
  have HS := hid ha
  have HSB := hid hb
  clear AW PC ha hb
  unfold ColP at PA PB PAB PZ
  unfold Well25 at A0 ⊢
  go_enter Try.func5, Try.ntmps5
  go_wp2_with fail
  refine A0.out.mono ?_
  rintro x w1 ⟨rfl, b1⟩
  have B1 := hid b1
  clear A0 b1
  go_wp2_with fail
  refine (PA.out w1).mono ?_
  rintro x w2 ⟨m, e, rfl, c2, b2⟩
  have C2 := hid c2
  have B2 := hid (B1.out.trans (b2.mono B1.out.size))
  clear PA c2 b2 B1
  go_wp2_with fail
  refine (PB.out w2).mono ?_
  rintro x w3 ⟨n, f, rfl, c3, b3⟩
  have C3 := hid c3
  have B3 := hid (B2.out.trans (b3.mono B2.out.size))
  clear PB c3 b3 B2
  have hcat : ¬ (9223372036854775807 < a.size + b.size) := by have := HS.out; have := HSB.out; omega
  go_wp2_with fail
  refine (PAB.out w3).mono ?_
  rintro x w4 ⟨k, g, rfl, c4, b4⟩
  have CL := hid (cols_law C2.out C3.out c4)
  have B4 := hid (B3.out.trans (b4.mono B3.out.size))
  clear PAB c4 b4 B3 C2 C3
  go_wp2_with fail
  refine (PZ.out w4).mono ?_
  rintro x w5 ⟨o, d, rfl, c5, b5⟩
  obtain ⟨rfl, rfl⟩ := colD_one c5 colD_zet
  have B5 := hid (B4.out.trans (b5.mono B4.out.size))
  clear PZ c5 b5 B4
  go_wp2_with fail
  go_loopg [13, 14] a.size (fun gk s13 s14 wr => ∃ i : Nat, s13 = .int .i64 (cnB a i : Int) ∧ s14 = .int .i64 (i : Int) ∧ i ≤ a.size ∧ gk = a.size - i ∧ wr = w5)
  case atStart => exact ⟨0, rfl, rfl, Nat.zero_le _, rfl, rfl⟩
  case round =>
    obtain ⟨i, rfl, rfl, hi, hgk, rfl⟩ := hrel
    have HGK := hid hgk
    clear hgk
    have hsz := HS.out
    have hcl := cnB_le a i
    by_cases hlt : i < a.size
    · have h1 : (i : Int) < (a.size : Int) := by omega
      have hat := HAT.out i hlt
      have hcn : cnB a (i + 1) = cnB a i + (if 128 ≤ byS a i ∧ byS a i < 192 then 0 else 1) := rfl
      obtain ⟨C, hC⟩ : ∃ C, cnB a i = C := ⟨_, rfl⟩
      obtain ⟨c, hc⟩ : ∃ c, byS a i = c := ⟨_, rfl⟩
      rw [hC] at hcl hcn ⊢
      rw [hc] at hat hcn
      have HCN := hid hcn
      clear hC hc hcn CL HAT HS HSB
      by_cases q1 : c < 128
      · have g1 : (c : Int) < 128 := by omega
        have e1 := HCN.out
        rw [if_neg (by omega)] at e1
        have HE := hid e1
        clear e1 HCN
        go_wp2_with fail
        go_roundg (a.size - (i + 1))
        case rel => exact ⟨i + 1, by rw [HE.out]; go_num, by go_num, by omega, rfl, rfl⟩
        case measure => have := HGK.out; omega
      have g1 : ¬ (c : Int) < 128 := by omega
      by_cases q2 : 192 ≤ c
      · have g2 : (192 : Int) ≤ (c : Int) := by omega
        have e1 := HCN.out
        rw [if_neg (by omega)] at e1
        have HE := hid e1
        clear e1 HCN
        go_wp2_with fail
        go_roundg (a.size - (i + 1))
        case rel => exact ⟨i + 1, by rw [HE.out]; go_num, by go_num, by omega, rfl, rfl⟩
        case measure => have := HGK.out; omega
      · have g2 : ¬ (192 : Int) ≤ (c : Int) := by omega
        have e1 := HCN.out
        rw [if_pos (by omega)] at e1
        have HE := hid e1
        clear e1 HCN
        go_wp2_with fail
        go_roundg (a.size - (i + 1))
        case rel => exact ⟨i + 1, by rw [HE.out]; first | rfl | go_num, by go_num, by omega, rfl, rfl⟩
        case measure => have := HGK.out; omega
    · have h1 : ¬ (i : Int) < (a.size : Int) := by omega
      obtain rfl : i = a.size := by omega
      have hsb := HSB.out
      clear HAT HGK
      rcases CL.out with ⟨rfl, rfl⟩ | ⟨rfl, rfl, rfl, rfl, rfl⟩ | ⟨rfl, rfl, rfl, x, y, rfl, rfl, rfl, hx, hx2, hy2⟩
      · clear CL
        go_wp2
        go_ret
        exact ⟨rfl, B5.out⟩
      · clear CL
        go_wp2
        go_ret
        exact ⟨rfl, B5.out⟩
      · rw [← hx]
        have g1 : IntKind.i64.wrap ((x : Int) + (y : Int)) = ((x + y : Nat) : Int) := by rw [wrap_is] <;> omega
        have g2 : ((x : Int) == (x : Int)) = true := by rw [beq_iff_eq]
        have g3 : (((x + y : Nat) : Int) == ((x + y : Nat) : Int)) = true := by rw [beq_iff_eq]
        clear CL hx
        go_wp2
        go_ret
        exact ⟨rfl, B5.out⟩
end Go.Proofs.Ytdfnehngffajiaa
