/-
  Ko25: the program's kindOf.
-/
import Derived.Test.YtdfnehngffajiaaDoorKd25
namespace Go.Proofs.YtdfnehngffajiaaDoor
open Go.RowKit
set_option linter.unusedVariables false

theorem emq25 {M : ByteArray} (h : ¬ M = ⟨#[]⟩) : M.toList.isEmpty = false := by
  rw [Bool.eq_false_iff]
  intro q
  rw [List.isEmpty_iff, Lib.toList_data] at q
  obtain ⟨d⟩ := M
  simp at q
  exact h (by rw [q])
set_option maxHeartbeats 1600000 in
set_option maxRecDepth 100000 in
theorem kindOf25 (w : World) {s : ByteArray} {i : Nat} (hi : i < s.size) : Calls Tryd.prog 35 #[.string s, .int .i64 (i : Int), .int .i32 (((Utf8.decode s i).1 : Nat) : Int)] w fun e w' => e = .returned (.int .i64 ((kdS (chS s i).1 (chS s i).2 : Nat) : Int)) ∧ w' = w := by
  have h1 : (0 : Int) ≤ (i : Int) := by omega
  have h2 : (i : Int) ≤ (s.size : Int) := by omega
  have hP := hid (hasPrefix25 (s.extract i s.size) ⟨#[239, 191, 189]⟩ w)
  have hM := hid (markText25 w (Utf8.decode s i).1)
  have hL := hid (isLetter25 w (Utf8.decode s i).1)
  by_cases hR : (Utf8.decode s i).1 = 65533
  · rcases chS_ffd hR with ⟨q1, q2⟩ | ⟨q1, q2⟩
    · have hp : Lib.hasPrefix (s.extract i s.size).data.toList [239, 191, 189] = false := by
        rw [Bool.eq_false_iff]
        exact fun q => q2 (ffd_pre.1 q)
      have hP' := hid (hp ▸ hP.out)
      rw [hR, q1]
      clear hP hM hL hR q1 q2 hp
      go_enter Tryd.func35, Tryd.ntmps35
      go_wp2_with fail
      refine hP'.out.mono ?_
      rintro e w1 ⟨rfl, hw1⟩
      subst hw1
      go_wp2
      go_ret
      exact ⟨rfl, rfl⟩
    · have hp : Lib.hasPrefix (s.extract i s.size).data.toList [239, 191, 189] = true := ffd_pre.2 q2
      have hP' := hid (hp ▸ hP.out)
      rw [hR] at hM hL
      rw [show mkS 65533 = ⟨#[]⟩ by decide +kernel] at hM
      rw [show letP 65533 = false by decide +kernel] at hL
      rw [hR, q1]
      clear hP hR q1 q2 hp
      go_enter Tryd.func35, Tryd.ntmps35
      go_wp2_with fail
      refine hP'.out.mono ?_
      rintro e w1 ⟨rfl, hw1⟩
      subst hw1
      clear hP'
      go_wp2_with fail
      refine hM.out.mono ?_
      rintro e w1 ⟨rfl, hw1⟩
      subst hw1
      clear hM
      go_wp2_with fail
      refine hL.out.mono ?_
      rintro e w1 ⟨rfl, hw1⟩
      subst hw1
      clear hL
      go_wp2
      go_ret
      exact ⟨rfl, rfl⟩
  · have hn := dec_sz25 s i
    rw [chS_dec hR]
    obtain ⟨R, hRR⟩ : ∃ R, (Utf8.decode s i).1 = R := ⟨_, rfl⟩
    obtain ⟨n, hnn⟩ : ∃ n, (Utf8.decode s i).2 = n := ⟨_, rfl⟩
    rw [hRR] at hM hL hR ⊢
    rw [hnn] at hn ⊢
    clear hRR hnn hP
    have g0 : ((R : Int) == 65533) = false := by rw [beq_eq_false_iff_ne]; omega
    have K0 : kdS R n = _ := if_neg (by omega)
    rw [K0]
    clear hR K0 hn
    by_cases c0 : R = 32
    · subst c0
      rw [if_pos (by decide)]
      clear hM hL
      go_enter Tryd.func35, Tryd.ntmps35
      go_wp2
      go_ret
      exact ⟨rfl, rfl⟩
    by_cases c1 : R = 9
    · subst c1
      rw [if_pos (by decide)]
      clear hM hL
      go_enter Tryd.func35, Tryd.ntmps35
      go_wp2
      go_ret
      exact ⟨rfl, rfl⟩
    by_cases c2 : R = 160
    · subst c2
      rw [if_pos (by decide)]
      clear hM hL
      go_enter Tryd.func35, Tryd.ntmps35
      go_wp2
      go_ret
      exact ⟨rfl, rfl⟩
    rw [if_neg (by unfold blkS; simp; omega)]
    have f0 : ((R : Int) == 32) = false := by rw [beq_eq_false_iff_ne]; omega
    have f1 : ((R : Int) == 9) = false := by rw [beq_eq_false_iff_ne]; omega
    have f2 : ((R : Int) == 160) = false := by rw [beq_eq_false_iff_ne]; omega
    by_cases c3 : R = 35
    · subst c3
      rw [if_pos rfl]
      clear hM hL
      go_enter Tryd.func35, Tryd.ntmps35
      go_wp2
      go_ret
      exact ⟨rfl, rfl⟩
    rw [if_neg c3]
    have f3 : ((R : Int) == 35) = false := by rw [beq_eq_false_iff_ne]; omega
    by_cases c4 : 48 ≤ R ∧ R ≤ 57
    · rw [if_pos (by unfold digS; exact decide_eq_true c4)]
      have d1 : (48 : Int) ≤ (R : Int) := by omega
      have d2 : (R : Int) ≤ 57 := by omega
      clear hM hL c0 c1 c2 c3 c4
      go_enter Tryd.func35, Tryd.ntmps35
      go_wp2
      go_ret
      exact ⟨rfl, rfl⟩
    rw [if_neg (by unfold digS; simp; omega)]
    by_cases d : 48 ≤ R
    · have d1 : (48 : Int) ≤ (R : Int) := by omega
      have d2 : ¬ (R : Int) ≤ 57 := by omega
      clear d
      by_cases c5 : R = 95
      · subst c5
        rw [if_pos rfl]
        clear hM hL c0 c1 c2 c3 c4
        go_enter Tryd.func35, Tryd.ntmps35
        go_wp2
        go_ret
        exact ⟨rfl, rfl⟩
      rw [if_neg c5]
      have f5 : ((R : Int) == 95) = false := by rw [beq_eq_false_iff_ne]; omega
      by_cases c6 : mkS R = ⟨#[]⟩
      · rw [if_pos c6]
        rw [c6] at hM
        by_cases c7 : letP R = true
        · rw [if_pos c7]
          rw [c7] at hL
          clear c0 c1 c2 c3 c4 c5 c6 c7
          go_enter Tryd.func35, Tryd.ntmps35
          go_wp2_with fail
          refine hM.out.mono ?_
          rintro e w1 ⟨rfl, hw1⟩
          subst hw1
          clear hM
          go_wp2_with fail
          refine hL.out.mono ?_
          rintro e w1 ⟨rfl, hw1⟩
          subst hw1
          clear hL
          go_wp2
          go_ret
          exact ⟨rfl, rfl⟩
        · rw [if_neg c7]
          rw [show letP R = false by simpa using c7] at hL
          clear c0 c1 c2 c3 c4 c5 c6 c7
          go_enter Tryd.func35, Tryd.ntmps35
          go_wp2_with fail
          refine hM.out.mono ?_
          rintro e w1 ⟨rfl, hw1⟩
          subst hw1
          clear hM
          go_wp2_with fail
          refine hL.out.mono ?_
          rintro e w1 ⟨rfl, hw1⟩
          subst hw1
          clear hL
          go_wp2
          go_ret
          exact ⟨rfl, rfl⟩
      · rw [if_neg c6]
        obtain ⟨M, hMM⟩ : ∃ M, mkS R = M := ⟨_, rfl⟩
        rw [hMM] at hM c6
        have hm2 := emq25 c6
        clear hL c0 c1 c2 c3 c4 c5 hMM
        go_enter Tryd.func35, Tryd.ntmps35
        go_wp2_with fail
        refine hM.out.mono ?_
        rintro e w1 ⟨rfl, hw1⟩
        subst hw1
        clear hM
        go_wp2
        go_ret
        exact ⟨rfl, rfl⟩
    · have d1 : ¬ (48 : Int) ≤ (R : Int) := by omega
      clear d
      by_cases c5 : R = 95
      · subst c5
        rw [if_pos rfl]
        clear hM hL c0 c1 c2 c3 c4
        go_enter Tryd.func35, Tryd.ntmps35
        go_wp2
        go_ret
        exact ⟨rfl, rfl⟩
      rw [if_neg c5]
      have f5 : ((R : Int) == 95) = false := by rw [beq_eq_false_iff_ne]; omega
      by_cases c6 : mkS R = ⟨#[]⟩
      · rw [if_pos c6]
        rw [c6] at hM
        by_cases c7 : letP R = true
        · rw [if_pos c7]
          rw [c7] at hL
          clear c0 c1 c2 c3 c4 c5 c6 c7
          go_enter Tryd.func35, Tryd.ntmps35
          go_wp2_with fail
          refine hM.out.mono ?_
          rintro e w1 ⟨rfl, hw1⟩
          subst hw1
          clear hM
          go_wp2_with fail
          refine hL.out.mono ?_
          rintro e w1 ⟨rfl, hw1⟩
          subst hw1
          clear hL
          go_wp2
          go_ret
          exact ⟨rfl, rfl⟩
        · rw [if_neg c7]
          rw [show letP R = false by simpa using c7] at hL
          clear c0 c1 c2 c3 c4 c5 c6 c7
          go_enter Tryd.func35, Tryd.ntmps35
          go_wp2_with fail
          refine hM.out.mono ?_
          rintro e w1 ⟨rfl, hw1⟩
          subst hw1
          clear hM
          go_wp2_with fail
          refine hL.out.mono ?_
          rintro e w1 ⟨rfl, hw1⟩
          subst hw1
          clear hL
          go_wp2
          go_ret
          exact ⟨rfl, rfl⟩
      · rw [if_neg c6]
        obtain ⟨M, hMM⟩ : ∃ M, mkS R = M := ⟨_, rfl⟩
        rw [hMM] at hM c6
        have hm2 := emq25 c6
        clear hL c0 c1 c2 c3 c4 c5 hMM
        go_enter Tryd.func35, Tryd.ntmps35
        go_wp2_with fail
        refine hM.out.mono ?_
        rintro e w1 ⟨rfl, hw1⟩
        subst hw1
        clear hM
        go_wp2
        go_ret
        exact ⟨rfl, rfl⟩
end Go.Proofs.YtdfnehngffajiaaDoor
