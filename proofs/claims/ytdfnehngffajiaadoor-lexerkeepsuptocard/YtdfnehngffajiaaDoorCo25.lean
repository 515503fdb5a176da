/-
  Co25: the reference's Columns and comment.
-/
import Derived.Test.YtdfnehngffajiaaDoorPs25
import Derived.Test.YtdfnehngffajiaaDoorLc25
namespace Go.Proofs.YtdfnehngffajiaaDoor
open Go.RowKit
set_option linter.unusedVariables false

set_option maxHeartbeats 1600000 in
set_option maxRecDepth 100000 in
theorem rcolumns25 (w : World) {s : ByteArray} (hs : s.size ≤ 1152921504606846976) : Calls Tryd.prog 30 #[.string s] w fun e w' => ∃ n f, e = .returned (.tuple #[.int .i64 n, .int .i64 f]) ∧ ColD s n f ∧ w' = w := by
  have HC : Hid (∀ i, i < s.size → Calls Tryd.prog 17 #[.string s, .int .i64 (i : Int)] w (ChD s i w)) := hid fun i hi => char25 w hi hs
  have HS := hid hs
  clear hs
  go_enter Tryd.func30, Tryd.ntmps30
  go_wp2_with fail
  go_loopg [4, 5] s.size (fun gk s4 s5 wr => ∃ k : Nat, s4 = .int .i64 (k : Int) ∧ s5 = .int .i64 ((ps s 0 k : Nat) : Int) ∧ gk = s.size - ps s 0 k ∧ Hid (gdS s 0 k) ∧ wr = w)
  case atStart => exact ⟨0, rfl, rfl, by rfl, hid (gdS.zero s 0), rfl⟩
  case round =>
    obtain ⟨k, rfl, rfl, hgk, hgd, rfl⟩ := hrel
    have HGK := hid hgk
    clear hgk
    obtain ⟨h1, h2⟩ := hgd.out.le (Nat.zero_le _)
    have hsz := HS.out
    obtain ⟨i, hi⟩ : ∃ i, ps s 0 k = i := ⟨_, rfl⟩
    have HI := hid hi
    rw [hi] at h1 h2 ⊢
    clear hi
    by_cases hlt : i < s.size
    · have hlt' : (i : Int) < (s.size : Int) := by omega
      have CH := hid (HC.out i hlt)
      have HIN := hid (chS_in hlt)
      unfold ChD at CH
      obtain ⟨V, hV⟩ : ∃ V, (chS s i).1 = V := ⟨_, rfl⟩
      obtain ⟨N, hN⟩ : ∃ N, (chS s i).2 = N := ⟨_, rfl⟩
      rw [hV, hN] at CH
      rw [hN] at HIN
      have HN := hid hN
      clear hV hN HC HS
      by_cases h0 : N = 0
      · subst h0
        have FIN : Hid (ColD s 0 12) := hid ⟨k, ⟨hgd.out, .inr ⟨rfl, by rw [HI.out]; exact hlt, by rw [HI.out]; exact HN.out⟩⟩, rfl⟩
        clear hgd HI HN HIN HGK
        go_wp2_with fail
        refine CH.out.mono ?_
        rintro e w1 ⟨rfl, rfl⟩
        clear CH
        go_wp2
        go_ret2
        exact ⟨_, _, rfl, FIN.out, rfl⟩
      · have hn0 : ((N : Int) == 0) = false := by rw [beq_eq_false_iff_ne]; omega
        have ga : IntKind.i64.wrap ((i : Int) + (N : Int)) = ((i + N : Nat) : Int) := by have := HIN.out; rw [wrap_is] <;> omega
        have gb : IntKind.i64.wrap ((k : Int) + 1) = ((k + 1 : Nat) : Int) := by rw [wrap_is] <;> omega
        have EP : Hid (ps s 0 (k + 1) = i + N) := hid (by show ps s 0 k + (chS s (ps s 0 k)).2 = _; rw [HI.out, HN.out])
        have GD : Hid (gdS s 0 (k + 1)) := hid (hgd.out.succ (by rw [HI.out]; exact hlt) (by rw [HI.out, HN.out]; exact h0))
        have hin := HIN.out
        clear hgd HN HIN
        go_wp2_with fail
        refine CH.out.mono ?_
        rintro e w1 ⟨rfl, rfl⟩
        clear CH
        go_wp2_with fail
        go_roundg (s.size - ps s 0 (k + 1))
        case rel => exact ⟨k + 1, rfl, by rw [EP.out]; go_num, rfl, GD, rfl⟩
        case measure => have := HGK.out; have := HI.out; have := EP.out; omega
    · have hlt' : ¬ (i : Int) < (s.size : Int) := by omega
      have FIN : Hid (ColD s (k : Int) 0) := hid ⟨k, ⟨hgd.out, .inl ⟨rfl, by rw [HI.out]; omega⟩⟩, rfl⟩
      clear hgd HI HGK HC HS
      go_wp2
      go_ret2
      exact ⟨_, _, rfl, FIN.out, rfl⟩
set_option maxHeartbeats 1600000 in
set_option maxRecDepth 100000 in
theorem rcomment25 (w : World) {s : ByteArray} {a : Nat} (col : Int) (ha : a ≤ s.size) (hs : s.size ≤ 1152921504606846976) (hcol : 0 ≤ col ∧ col ≤ 1152921504606846976) : Calls Tryd.prog 20 #[.string s, .int .i64 (a : Int), .int .i64 col] w fun e w' => ∃ k f, e = .returned (.int .i64 (if f = 0 then 0 else col + (k : Nat))) ∧ ColE s a k f ∧ w' = w := by
  have HC : Hid (∀ i, i < s.size → Calls Tryd.prog 17 #[.string s, .int .i64 (i : Int)] w (ChD s i w)) := hid fun i hi => char25 w hi hs
  have HS := hid hs
  have HA := hid ha
  have HCO := hid hcol
  clear hs ha hcol
  go_enter Tryd.func20, Tryd.ntmps20
  go_wp2_with fail
  go_loopg [1, 2] (s.size - a) (fun gk s1 s2 wr => ∃ k : Nat, s2 = .int .i64 (col + (k : Int)) ∧ s1 = .int .i64 ((ps s a k : Nat) : Int) ∧ gk = s.size - ps s a k ∧ Hid (gdS s a k) ∧ wr = w)
  case atStart => exact ⟨0, by simp, rfl, by rfl, hid (gdS.zero s a), rfl⟩
  case round =>
    obtain ⟨k, rfl, rfl, hgk, hgd, rfl⟩ := hrel
    have HGK := hid hgk
    clear hgk
    obtain ⟨h1, h2⟩ := hgd.out.le HA.out
    have hsz := HS.out
    have hco := HCO.out
    obtain ⟨i, hi⟩ : ∃ i, ps s a k = i := ⟨_, rfl⟩
    have HI := hid hi
    rw [hi] at h1 h2 ⊢
    clear hi
    by_cases hlt : i < s.size
    · have hlt' : (i : Int) < (s.size : Int) := by omega
      have CH := hid (HC.out i hlt)
      have HIN := hid (chS_in hlt)
      unfold ChD at CH
      obtain ⟨V, hV⟩ : ∃ V, (chS s i).1 = V := ⟨_, rfl⟩
      obtain ⟨N, hN⟩ : ∃ N, (chS s i).2 = N := ⟨_, rfl⟩
      rw [hV, hN] at CH
      rw [hN] at HIN
      have HN := hid hN
      clear hV hN HC HS
      by_cases h0 : N = 0
      · subst h0
        have FIN : Hid (ColE s a k 12) := hid ⟨hgd.out, .inr ⟨rfl, by rw [HI.out]; exact hlt, by rw [HI.out]; exact HN.out⟩⟩
        clear hgd HI HN HIN HGK
        go_wp2_with fail
        refine CH.out.mono ?_
        rintro e w1 ⟨rfl, rfl⟩
        clear CH
        go_wp2
        go_ret
        exact ⟨k, 12, rfl, FIN.out, rfl⟩
      · have hn0 : ((N : Int) == 0) = false := by rw [beq_eq_false_iff_ne]; omega
        have ga : IntKind.i64.wrap ((i : Int) + (N : Int)) = ((i + N : Nat) : Int) := by have := HIN.out; rw [wrap_is] <;> omega
        have gb : IntKind.i64.wrap (col + (k : Int) + 1) = col + ((k + 1 : Nat) : Int) := by rw [wrap_is] <;> omega
        have EP : Hid (ps s a (k + 1) = i + N) := hid (by show ps s a k + (chS s (ps s a k)).2 = _; rw [HI.out, HN.out])
        have GD : Hid (gdS s a (k + 1)) := hid (hgd.out.succ (by rw [HI.out]; exact hlt) (by rw [HI.out, HN.out]; exact h0))
        have hin := HIN.out
        clear hgd HN HIN
        go_wp2_with fail
        refine CH.out.mono ?_
        rintro e w1 ⟨rfl, rfl⟩
        clear CH
        go_wp2_with fail
        go_roundg (s.size - ps s a (k + 1))
        case rel => exact ⟨k + 1, by first | rfl | go_num, by rw [EP.out]; go_num, rfl, GD, rfl⟩
        case measure => have := HGK.out; have := HI.out; have := EP.out; omega
    · have hlt' : ¬ (i : Int) < (s.size : Int) := by omega
      have FIN : Hid (ColE s a k 0) := hid ⟨hgd.out, .inl ⟨rfl, by rw [HI.out]; omega⟩⟩
      clear hgd HI HGK HC HS
      go_wp2
      go_ret
      exact ⟨k, 0, rfl, FIN.out, rfl⟩
end Go.Proofs.YtdfnehngffajiaaDoor
