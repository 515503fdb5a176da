/-
  QKo25ToCu25: Ko25, Cu25, joined.
-/
import Derived.Test.YtdfnehngffajiabDoorQKd25
import Derived.Test.YtdfnehngffajiabDoorQPz25

/- Ko25 -/
namespace Go.Proofs.YtdfnehngffajiabDoor
open Go.RowKit
set_option linter.unusedVariables false

theorem emq25 {M : ByteArray} (h : ¬ M = ⟨#[]⟩) : M.toList.isEmpty = false := by
  rw [Bool.eq_false_iff]
  intro q
  rw [List.isEmpty_iff, Lib.toList_data] at q
  obtain ⟨d⟩ := M
  simp at q
  exact h (by rw [q])
set_option maxHeartbeats 1600000 in
set_option maxRecDepth 100000 in
theorem kindOf25 (w : World) {s : ByteArray} {i : Nat} (hi : i < s.size) : Calls Tryd.prog 14 #[.string s, .int .i64 (i : Int), .int .i32 (((Utf8.decode s i).1 : Nat) : Int)] w fun e w' => e = .returned (.int .i64 ((kdS (chS s i).1 (chS s i).2 : Nat) : Int)) ∧ w' = w := by
  have h1 : (0 : Int) ≤ (i : Int) := by omega
  have h2 : (i : Int) ≤ (s.size : Int) := by omega
  have hP := hid (hasPrefix25 (s.extract i s.size) ⟨#[239, 191, 189]⟩ w)
  have hM := hid (markText25 w (Utf8.decode s i).1)
  have hL := hid (isLetter25 w (Utf8.decode s i).1)
  by_cases hR : (Utf8.decode s i).1 = 65533
  · rcases chS_ffd hR with ⟨q1, q2⟩ | ⟨q1, q2⟩
    · have hp : Lib.hasPrefix (s.extract i s.size).data.toList [239, 191, 189] = false := by
        rw [Bool.eq_false_iff]
        exact fun q => q2 (ffd_pre.1 q)
      have hP' := hid (hp ▸ hP.out)
      rw [hR, q1]
      clear hP hM hL hR q1 q2 hp
      go_enter Tryd.func14, Tryd.ntmps14
      go_wp2_with fail
      refine hP'.out.mono ?_
      rintro e w1 ⟨rfl, hw1⟩
      subst hw1
      go_wp2
      go_ret
      exact ⟨rfl, rfl⟩
    · have hp : Lib.hasPrefix (s.extract i s.size).data.toList [239, 191, 189] = true := ffd_pre.2 q2
      have hP' := hid (hp ▸ hP.out)
      rw [hR] at hM hL
      rw [show mkS 65533 = ⟨#[]⟩ by decide +kernel] at hM
      rw [show letP 65533 = false by decide +kernel] at hL
      rw [hR, q1]
      clear hP hR q1 q2 hp
      go_enter Tryd.func14, Tryd.ntmps14
      go_wp2_with fail
      refine hP'.out.mono ?_
      rintro e w1 ⟨rfl, hw1⟩
      subst hw1
      clear hP'
      go_wp2_with fail
      refine hM.out.mono ?_
      rintro e w1 ⟨rfl, hw1⟩
      subst hw1
      clear hM
      go_wp2_with fail
      refine hL.out.mono ?_
      rintro e w1 ⟨rfl, hw1⟩
      subst hw1
      clear hL
      go_wp2
      go_ret
      exact ⟨rfl, rfl⟩
  · have hn := dec_sz25 s i
    rw [chS_dec hR]
    obtain ⟨R, hRR⟩ : ∃ R, (Utf8.decode s i).1 = R := ⟨_, rfl⟩
    obtain ⟨n, hnn⟩ : ∃ n, (Utf8.decode s i).2 = n := ⟨_, rfl⟩
    rw [hRR] at hM hL hR ⊢
    rw [hnn] at hn ⊢
    clear hRR hnn hP
    have g0 : ((R : Int) == 65533) = false := by rw [beq_eq_false_iff_ne]; omega
    have K0 : kdS R n = _ := if_neg (by omega)
    rw [K0]
    clear hR K0 hn
    by_cases c0 : R = 32
    · subst c0
      rw [if_pos (by decide)]
      clear hM hL
      go_enter Tryd.func14, Tryd.ntmps14
      go_wp2
      go_ret
      exact ⟨rfl, rfl⟩
    by_cases c1 : R = 9
    · subst c1
      rw [if_pos (by decide)]
      clear hM hL
      go_enter Tryd.func14, Tryd.ntmps14
      go_wp2
      go_ret
      exact ⟨rfl, rfl⟩
    by_cases c2 : R = 160
    · subst c2
      rw [if_pos (by decide)]
      clear hM hL
      go_enter Tryd.func14, Tryd.ntmps14
      go_wp2
      go_ret
      exact ⟨rfl, rfl⟩
    rw [if_neg (by unfold blkS; simp; omega)]
    have f0 : ((R : Int) == 32) = false := by rw [beq_eq_false_iff_ne]; omega
    have f1 : ((R : Int) == 9) = false := by rw [beq_eq_false_iff_ne]; omega
    have f2 : ((R : Int) == 160) = false := by rw [beq_eq_false_iff_ne]; omega
    by_cases c3 : R = 35
    · subst c3
      rw [if_pos rfl]
      clear hM hL
      go_enter Tryd.func14, Tryd.ntmps14
      go_wp2
      go_ret
      exact ⟨rfl, rfl⟩
    rw [if_neg c3]
    have f3 : ((R : Int) == 35) = false := by rw [beq_eq_false_iff_ne]; omega
    by_cases c4 : 48 ≤ R ∧ R ≤ 57
    · rw [if_pos (by unfold digS; exact decide_eq_true c4)]
      have d1 : (48 : Int) ≤ (R : Int) := by omega
      have d2 : (R : Int) ≤ 57 := by omega
      clear hM hL c0 c1 c2 c3 c4
      go_enter Tryd.func14, Tryd.ntmps14
      go_wp2
      go_ret
      exact ⟨rfl, rfl⟩
    rw [if_neg (by unfold digS; simp; omega)]
    by_cases d : 48 ≤ R
    · have d1 : (48 : Int) ≤ (R : Int) := by omega
      have d2 : ¬ (R : Int) ≤ 57 := by omega
      clear d
      by_cases c5 : R = 95
      · subst c5
        rw [if_pos rfl]
        clear hM hL c0 c1 c2 c3 c4
        go_enter Tryd.func14, Tryd.ntmps14
        go_wp2
        go_ret
        exact ⟨rfl, rfl⟩
      rw [if_neg c5]
      have f5 : ((R : Int) == 95) = false := by rw [beq_eq_false_iff_ne]; omega
      by_cases c6 : mkS R = ⟨#[]⟩
      · rw [if_pos c6]
        rw [c6] at hM
        by_cases c7 : letP R = true
        · rw [if_pos c7]
          rw [c7] at hL
          clear c0 c1 c2 c3 c4 c5 c6 c7
          go_enter Tryd.func14, Tryd.ntmps14
          go_wp2_with fail
          refine hM.out.mono ?_
          rintro e w1 ⟨rfl, hw1⟩
          subst hw1
          clear hM
          go_wp2_with fail
          refine hL.out.mono ?_
          rintro e w1 ⟨rfl, hw1⟩
          subst hw1
          clear hL
          go_wp2
          go_ret
          exact ⟨rfl, rfl⟩
        · rw [if_neg c7]
          rw [show letP R = false by simpa using c7] at hL
          clear c0 c1 c2 c3 c4 c5 c6 c7
          go_enter Tryd.func14, Tryd.ntmps14
          go_wp2_with fail
          refine hM.out.mono ?_
          rintro e w1 ⟨rfl, hw1⟩
          subst hw1
          clear hM
          go_wp2_with fail
          refine hL.out.mono ?_
          rintro e w1 ⟨rfl, hw1⟩
          subst hw1
          clear hL
          go_wp2
          go_ret
          exact ⟨rfl, rfl⟩
      · rw [if_neg c6]
        obtain ⟨M, hMM⟩ : ∃ M, mkS R = M := ⟨_, rfl⟩
        rw [hMM] at hM c6
        have hm2 := emq25 c6
        clear hL c0 c1 c2 c3 c4 c5 hMM
        go_enter Tryd.func14, Tryd.ntmps14
        go_wp2_with fail
        refine hM.out.mono ?_
        rintro e w1 ⟨rfl, hw1⟩
        subst hw1
        clear hM
        go_wp2
        go_ret
        exact ⟨rfl, rfl⟩
    · have d1 : ¬ (48 : Int) ≤ (R : Int) := by omega
      clear d
      by_cases c5 : R = 95
      · subst c5
        rw [if_pos rfl]
        clear hM hL c0 c1 c2 c3 c4
        go_enter Tryd.func14, Tryd.ntmps14
        go_wp2
        go_ret
        exact ⟨rfl, rfl⟩
      rw [if_neg c5]
      have f5 : ((R : Int) == 95) = false := by rw [beq_eq_false_iff_ne]; omega
      by_cases c6 : mkS R = ⟨#[]⟩
      · rw [if_pos c6]
        rw [c6] at hM
        by_cases c7 : letP R = true
        · rw [if_pos c7]
          rw [c7] at hL
          clear c0 c1 c2 c3 c4 c5 c6 c7
          go_enter Tryd.func14, Tryd.ntmps14
          go_wp2_with fail
          refine hM.out.mono ?_
          rintro e w1 ⟨rfl, hw1⟩
          subst hw1
          clear hM
          go_wp2_with fail
          refine hL.out.mono ?_
          rintro e w1 ⟨rfl, hw1⟩
          subst hw1
          clear hL
          go_wp2
          go_ret
          exact ⟨rfl, rfl⟩
        · rw [if_neg c7]
          rw [show letP R = false by simpa using c7] at hL
          clear c0 c1 c2 c3 c4 c5 c6 c7
          go_enter Tryd.func14, Tryd.ntmps14
          go_wp2_with fail
          refine hM.out.mono ?_
          rintro e w1 ⟨rfl, hw1⟩
          subst hw1
          clear hM
          go_wp2_with fail
          refine hL.out.mono ?_
          rintro e w1 ⟨rfl, hw1⟩
          subst hw1
          clear hL
          go_wp2
          go_ret
          exact ⟨rfl, rfl⟩
      · rw [if_neg c6]
        obtain ⟨M, hMM⟩ : ∃ M, mkS R = M := ⟨_, rfl⟩
        rw [hMM] at hM c6
        have hm2 := emq25 c6
        clear hL c0 c1 c2 c3 c4 c5 hMM
        go_enter Tryd.func14, Tryd.ntmps14
        go_wp2_with fail
        refine hM.out.mono ?_
        rintro e w1 ⟨rfl, hw1⟩
        subst hw1
        clear hM
        go_wp2
        go_ret
        exact ⟨rfl, rfl⟩
end Go.Proofs.YtdfnehngffajiabDoor

/- Cu25 -/
namespace Go.Proofs.YtdfnehngffajiabDoor
open Go.RowKit
set_option linter.unusedVariables false

/-- The cells of a block. -/
def Ce (w : World) (b : Nat) (T : TypeId) (L : List Value) : Prop := w.heap[b]? = some (.cells L.toArray T (0, 0))
theorem Ce.lt {w : World} {b : Nat} {T : TypeId} {L : List Value} (h : Ce w b T L) : b < w.heap.size := (Array.getElem?_eq_some_iff.1 (show w.heap[b]? = _ from h)).1
theorem Ce.at {w : World} {b : Nat} {T : TypeId} {L : List Value} (h : Ce w b T L) {i : Nat} {v : Value} (e : L[i]? = some v) : w.cell? ⟨b, i, none⟩ = some v := by
  simp only [World.cell?, show w.heap[b]? = _ from h]
  simpa using e
theorem Ce.fz {w : World} {b : Nat} {T : TypeId} {L : List Value} (h : Ce w b T L) (i : Nat) : w.frozen? ⟨b, i, none⟩ = false := by simp [World.frozen?, show w.heap[b]? = _ from h]
theorem Ce.set {w : World} {b : Nat} {T : TypeId} {L : List Value} (h : Ce w b T L) (i : Nat) (v : Value) : Ce (w.setCell ⟨b, i, none⟩ v) b T (L.set i v) := by
  have hb := h.lt
  unfold Ce at h ⊢
  simp [World.setCell, Array.getElem?_modify, h]
theorem Ce.keep {w w' : World} {b : Nat} {T : TypeId} {L : List Value} (h : Ce w b T L) (hb : w'.heap[b]? = w.heap[b]?) : Ce w' b T L := hb.trans h
/-- The cutter in the block c. -/
abbrev Cu (w : World) (c : Nat) (s : ByteArray) (lv : Value) (col op b rc : Nat) (cm : Bool) (ft : Int) : Prop := Ce w c 44 [.string s, lv, .int .i64 (col : Int), .int .i64 (op : Int), .int .i64 (b : Int), .int .i64 (rc : Int), .bool cm, .int .i64 ft]
variable {w : World} {c : Nat} {s : ByteArray} {lv : Value} {col op b rc : Nat} {cm : Bool} {ft : Int}
theorem Toks.set {B : Nat} {v : Value} {L : List Tok} {p : Addr} {x : Value} (h : Toks B w v L) (hp : p.block < B) : Toks B (w.setCell p x) v L := h.keep fun g hg _ => Below.heap_setCell _ _ _ _ (by omega)
theorem wrong25 (h : Cu w c s lv col op b rc cm ft) (x e : Int) : Calls Tryd.prog 19 #[.pointer (some ⟨c, 0, none⟩), .int .i64 x, .int .i64 e] w fun y w' => y = .returned (.int .i64 e) ∧ w' = w.setCell ⟨c, 7, none⟩ (.int .i64 x) := by
  have k7 := h.at (i := 7) rfl
  have z7 := h.fz 7
  go_enter Tryd.func19, Tryd.ntmps19
  go_wp2
  go_ret
  exact ⟨rfl, rfl⟩
/-- Does a character of that kind go on? -/
def goS (op kd : Nat) : Bool := if op = 1 then (kd == 4 || kd == 5) else if op = 2 then (kd == 4 || kd == 5 || kd == 6) else false
theorem goesOn25 (h : Cu w c s lv col op b rc cm ft) (kd : Nat) (ho : op = 0 ∨ op = 1 ∨ op = 2) : Calls Tryd.prog 18 #[.pointer (some ⟨c, 0, none⟩), .int .i64 (kd : Int)] w fun y w' => y = .returned (.bool (goS op kd)) ∧ w' = w := by
  have k3 := h.at (i := 3) rfl
  rcases ho with rfl | rfl | rfl
  · rw [show goS 0 kd = false from rfl]
    clear h
    go_enter Tryd.func18, Tryd.ntmps18
    go_wp2
    go_ret
    exact ⟨rfl, rfl⟩
  · rw [show goS 1 kd = (kd == 4 || kd == 5) from rfl]
    clear h
    by_cases c4 : kd = 4
    · subst c4
      go_enter Tryd.func18, Tryd.ntmps18
      go_wp2
      go_ret
      exact ⟨rfl, rfl⟩
    by_cases c5 : kd = 5
    · subst c5
      go_enter Tryd.func18, Tryd.ntmps18
      go_wp2
      go_ret
      exact ⟨rfl, rfl⟩
    have f4 : ((kd : Int) == 4) = false := by rw [beq_eq_false_iff_ne]; omega
    have f5 : ((kd : Int) == 5) = false := by rw [beq_eq_false_iff_ne]; omega
    have e : (kd == 4 || kd == 5) = false := by simp [c4, c5]
    rw [e]
    clear c4 c5 e
    go_enter Tryd.func18, Tryd.ntmps18
    go_wp2
    go_ret
    exact ⟨rfl, rfl⟩
  · rw [show goS 2 kd = (kd == 4 || kd == 5 || kd == 6) from rfl]
    clear h
    by_cases c4 : kd = 4
    · subst c4
      go_enter Tryd.func18, Tryd.ntmps18
      go_wp2
      go_ret
      exact ⟨rfl, rfl⟩
    by_cases c5 : kd = 5
    · subst c5
      go_enter Tryd.func18, Tryd.ntmps18
      go_wp2
      go_ret
      exact ⟨rfl, rfl⟩
    by_cases c6 : kd = 6
    · subst c6
      go_enter Tryd.func18, Tryd.ntmps18
      go_wp2
      go_ret
      exact ⟨rfl, rfl⟩
    have f4 : ((kd : Int) == 4) = false := by rw [beq_eq_false_iff_ne]; omega
    have f5 : ((kd : Int) == 5) = false := by rw [beq_eq_false_iff_ne]; omega
    have f6 : ((kd : Int) == 6) = false := by rw [beq_eq_false_iff_ne]; omega
    have e : (kd == 4 || kd == 5 || kd == 6) = false := by simp [c4, c5, c6]
    rw [e]
    clear c4 c5 c6 e
    go_enter Tryd.func18, Tryd.ntmps18
    go_wp2
    go_ret
    exact ⟨rfl, rfl⟩
end Go.Proofs.YtdfnehngffajiabDoor
