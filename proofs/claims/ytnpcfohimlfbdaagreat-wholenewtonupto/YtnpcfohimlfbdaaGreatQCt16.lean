/-
 Ct16: charpoly's checkSquare, Char, Traces.
-/
import Derived.Test.YtnpcfohimlfbdaaGreatQGi10ToGather8
import Derived.Test.YtnpcfohimlfbdaaGreatQTr16
import Derived.Test.YtnpcfohimlfbdaaGreatQSt11ToChkN9
set_option maxRecDepth 100000
set_option maxHeartbeats 6400000
set_option linter.unusedVariables false
set_option linter.unusedSimpArgs false
namespace Go.Proofs.YtnpcfohimlfbdaaGreat
open Go.RowKit

theorem pcsq_no {w : World} {r c : Int} {a : Option Addr} {l cap : Nat} (h : ¬ Snd r c l) : Calls Tryz.prog 38 #[.agg #[.int .i64 r, .int .i64 c, .slice a l cap]] w fun e w' => e = .returned (.int .i64 1) ∧ Below w.heap.size w w' := by
 obtain ⟨W0, hW⟩ : ∃ W0, w.alloc (.cells #[.int .i64 r, .int .i64 c, .slice a l cap] 24) = W0 := ⟨_, rfl⟩
 obtain ⟨b0, sz0⟩ := alo1 w (.cells #[.int .i64 r, .int .i64 c, .slice a l cap] 24)
 rw [hW] at b0 sz0
 have HC := hid (check_no (w := W0) (a := a) (cap := cap) h)
 have G := hid b0
 have EW := hid hW
 clear h b0 sz0 hW
 go_enter Tryz.func38, Tryz.ntmps38
 go_wp2_with fail
 rw [EW.out]
 refine HC.out.mono ?_
 rintro e w1 ⟨rfl, b⟩
 have G1 := hid (below_step G.out b)
 clear HC b
 go_wp2
 go_ret
 exact ⟨rfl, G1.out⟩
theorem pcsq_fit {w : World} {v : Value} {r c : Nat} {zs : List Int} {k : Nat} (h : Mx w v r c zs k) (hrc : r ≠ c) : Calls Tryz.prog 38 #[v] w fun e w' => e = .returned (.int .i64 2) ∧ Below w.heap.size w w' := by
 have M0 := h
 obtain ⟨aa, ca, rfl, hr, hc⟩ := h.form
 obtain ⟨la, hla⟩ : ∃ la, r * c = la := ⟨_, rfl⟩
 rw [hla] at M0 ⊢
 obtain ⟨W0, hW⟩ : ∃ W0, w.alloc (matO r c (.slice aa la ca)) = W0 := ⟨_, rfl⟩
 obtain ⟨b0, sz0⟩ := alo1 w (matO r c (.slice aa la ca))
 rw [hW] at b0 sz0
 have P0 : Hid (Cel W0 w.heap.size 24 (matc r c (.slice aa la ca))) := by unfold Hid; rw [← hW]; exact Cel.new w _ _
 have HC := hid (check_yes (M0.now b0))
 have G := hid b0
 have EW := hid hW
 have hne : ¬ (r : Int) = (c : Int) := by omega
 have hnb : ((r : Int) != (c : Int)) = true := by simp; omega
 have HNB := hid hnb
 clear h M0 b0 sz0 hW hla hrc hnb
 go_enter Tryz.func38, Tryz.ntmps38
 go_wp2_with fail
 rw [EW.out]
 refine HC.out.mono ?_
 rintro e w1 ⟨rfl, b⟩
 have G1 := hid (below_step G.out b)
 have x0 := (P0.out.step b).at (i := 0) rfl
 have x1 := (P0.out.step b).at (i := 1) rfl
 clear HC b
 go_wp2
 go_ret
 exact ⟨rfl, G1.out⟩
theorem pcsq_yes {w : World} {v : Value} {n : Nat} {zs : List Int} {k : Nat} (h : Mx w v n n zs k) : Calls Tryz.prog 38 #[v] w fun e w' => e = .returned (.int .i64 0) ∧ Below w.heap.size w w' := by
 have M0 := h
 obtain ⟨aa, ca, rfl, hr, hc⟩ := h.form
 obtain ⟨la, hla⟩ : ∃ la, n * n = la := ⟨_, rfl⟩
 rw [hla] at M0 ⊢
 obtain ⟨W0, hW⟩ : ∃ W0, w.alloc (matO n n (.slice aa la ca)) = W0 := ⟨_, rfl⟩
 obtain ⟨b0, sz0⟩ := alo1 w (matO n n (.slice aa la ca))
 rw [hW] at b0 sz0
 have P0 : Hid (Cel W0 w.heap.size 24 (matc n n (.slice aa la ca))) := by unfold Hid; rw [← hW]; exact Cel.new w _ _
 have HC := hid (check_yes (M0.now b0))
 have G := hid b0
 have EW := hid hW
 clear h M0 b0 sz0 hW hla
 go_enter Tryz.func38, Tryz.ntmps38
 go_wp2_with fail
 rw [EW.out]
 refine HC.out.mono ?_
 rintro e w1 ⟨rfl, b⟩
 have G1 := hid (below_step G.out b)
 have x0 := (P0.out.step b).at (i := 0) rfl
 have x1 := (P0.out.step b).at (i := 1) rfl
 clear HC b
 go_wp2
 go_ret
 exact ⟨rfl, G1.out⟩
theorem char_of {w : World} {r c : Int} {a : Option Addr} {l cap : Nat} {E : Int} (hE : E = 1 ∨ E = 2)
  (h : ∀ w', Below w.heap.size w w' → Calls Tryz.prog 38 #[.agg #[.int .i64 r, .int .i64 c, .slice a l cap]] w' fun e w'' => e = .returned (.int .i64 E) ∧ Below w'.heap.size w' w'') :
  Calls Tryz.prog 16 #[.agg #[.int .i64 r, .int .i64 c, .slice a l cap]] w fun e w' => e = .returned (.tuple #[.slice none 0 0, .int .i64 E]) ∧ Below w.heap.size w w' := by
 obtain ⟨W0, hW⟩ : ∃ W0, w.alloc (.cells #[.int .i64 r, .int .i64 c, .slice a l cap] 24) = W0 := ⟨_, rfl⟩
 obtain ⟨b0, sz0⟩ := alo1 w (.cells #[.int .i64 r, .int .i64 c, .slice a l cap] 24)
 rw [hW] at b0 sz0
 have P0 : Cel W0 w.heap.size 24 [.int .i64 r, .int .i64 c, .slice a l cap] := by rw [← hW]; exact Cel.new w _ _
 have x0 := P0.at (i := 0) rfl
 have x1 := P0.at (i := 1) rfl
 have x2 := P0.at (i := 2) rfl
 rw [← hW] at x0 x1 x2
 have HC := hid (h W0 b0)
 have G := hid b0
 have EW := hid hW
 have hne : ¬ E = 0 := by omega
 have hnb : (E != 0) = true := by simp; omega
 clear h b0 sz0 hW hE P0
 go_enter Tryz.func16, Tryz.ntmps16
 go_wp2_with fail
 rw [EW.out]
 clear EW x0 x1 x2
 refine HC.out.mono ?_
 rintro e w1 ⟨rfl, b⟩
 have G1 := hid (below_step G.out b)
 clear HC b
 go_wp2
 go_ret2
 exact ⟨rfl, G1.out⟩
/-- What Char answers of a matrix that came in. -/
def Chard (w : World) (n : Nat) (A : List Int) (k : Nat) (e : Ending) (w' : World) : Prop := ∃ g, e = .returned (.tuple #[.slice (some ⟨g, 0, none⟩) (n + 1) (n + 1), .int .i64 0]) ∧ w.heap.size ≤ g ∧ AllZ w' g (chL n A n) k ∧ Below w.heap.size w w'
theorem char_un {w : World} {r c : Int} {a : Option Addr} {l cap : Nat} (h : ¬ Snd r c l) : Calls Tryz.prog 16 #[.agg #[.int .i64 r, .int .i64 c, .slice a l cap]] w fun e w' => e = .returned (.tuple #[.slice none 0 0, .int .i64 1]) ∧ Below w.heap.size w w' := char_of (.inl rfl) fun w' _ => pcsq_no h
theorem char_fit {w : World} {v : Value} {r c : Nat} {zs : List Int} {k : Nat} (h : Mx w v r c zs k) (hrc : r ≠ c) : Calls Tryz.prog 16 #[v] w fun e w' => e = .returned (.tuple #[.slice none 0 0, .int .i64 2]) ∧ Below w.heap.size w w' := by
 have M0 := h
 obtain ⟨aa, ca, rfl, hr, hc⟩ := h.form
 exact char_of (.inr rfl) fun w' b => pcsq_fit (M0.now b) hrc
theorem char_yes {w : World} {v : Value} {n : Nat} {zs : List Int} {k : Nat} (h : Mx w v n n zs k) (hk1 : 1 ≤ k) (hk : k ≤ 4000000000) : Calls Tryz.prog 16 #[v] w (Chard w n zs (1 + n * (66 * (k + 65)))) := by
 have M0 := h
 obtain ⟨aa, ca, rfl, hr, hc⟩ := h.form
 obtain ⟨la, hla⟩ : ∃ la, n * n = la := ⟨_, rfl⟩
 rw [hla] at M0 ⊢
 obtain ⟨W0, hW⟩ : ∃ W0, w.alloc (matO n n (.slice aa la ca)) = W0 := ⟨_, rfl⟩
 obtain ⟨b0, sz0⟩ := alo1 w (matO n n (.slice aa la ca))
 rw [hW] at b0 sz0
 have pa : Cel W0 w.heap.size 24 (matc n n (.slice aa la ca)) := by rw [← hW]; exact Cel.new w _ _
 have x0 := pa.at (i := 0) rfl
 have x1 := pa.at (i := 1) rfl
 have x2 := pa.at (i := 2) rfl
 rw [← hW] at x0 x1 x2
 have PA := hid pa
 have MA := hid (M0.now b0)
 have HC := hid (pcsq_yes (M0.now b0))
 have G := hid b0
 have EW := hid hW
 have HK1 := hid hk1
 have HK := hid hk
 clear h M0 b0 sz0 hW hla pa hk1 hk
 go_enter Tryz.func16, Tryz.ntmps16
 go_wp2_with fail
 rw [EW.out]
 clear EW x0 x1 x2
 refine HC.out.mono ?_
 rintro e w1 ⟨rfl, b⟩
 replace PA := hid (PA.out.step b)
 replace MA := hid (MA.out.now b)
 replace G := hid (below_step G.out b)
 have x0 := PA.out.at (i := 0) rfl
 have x1 := PA.out.at (i := 1) rfl
 have x2 := PA.out.at (i := 2) rfl
 have HD := hid (chr_any MA.out HK1.out HK.out)
 clear HC b
 go_wp2_with fail
 clear x0 x1 x2
 refine HD.out.mono ?_
 rintro e w2 ⟨g, rfl, hg, hz, b⟩
 have FIN : Hid (Chard w n zs (1 + n * (66 * (k + 65))) (.returned (.tuple #[.slice (some ⟨g, 0, none⟩) (n + 1) (n + 1), .int .i64 0])) w2) := ⟨g, rfl, Nat.le_trans G.out.size hg, hz, below_step G.out b⟩
 clear HD hg hz b
 go_wp2
 go_ret2
 exact FIN.out
def Trd (w : World) (n d : Nat) (A : List Int) (k : Nat) (e : Ending) (w' : World) : Prop := ∃ a cap, e = .returned (.tuple #[.slice a d cap, .int .i64 0]) ∧ Zl w' (.slice a d cap) (trL n (chL n A n) d) k ∧ Below w.heap.size w w'
theorem traces_yes {w : World} {v : Value} {n d : Nat} {zs : List Int} {k : Nat} (h : Mx w v n n zs k) (hk1 : 1 ≤ k) (hk : k ≤ 80000000) (hd : d ≤ n) : Calls Tryz.prog 17 #[v, .int .i64 (d : Int)] w (Trd w n d zs (1 + d * (1 + n * (66 * (k + 65)) + 300))) := by
 have M0 := h
 obtain ⟨aa, ca, rfl, hr, hc⟩ := h.form
 obtain ⟨la, hla⟩ : ∃ la, n * n = la := ⟨_, rfl⟩
 rw [hla] at M0 ⊢
 obtain ⟨W0, hW⟩ : ∃ W0, w.alloc (matO n n (.slice aa la ca)) = W0 := ⟨_, rfl⟩
 obtain ⟨b0, sz0⟩ := alo1 w (matO n n (.slice aa la ca))
 rw [hW] at b0 sz0
 have pa : Cel W0 w.heap.size 24 (matc n n (.slice aa la ca)) := by rw [← hW]; exact Cel.new w _ _
 have x0 := pa.at (i := 0) rfl
 have x1 := pa.at (i := 1) rfl
 have x2 := pa.at (i := 2) rfl
 rw [← hW] at x0 x1 x2
 have PA := hid pa
 have MA := hid (M0.now b0)
 have HC := hid (pcsq_yes (M0.now b0))
 have G := hid b0
 have EW := hid hW
 have HK1 := hid hk1
 have HK := hid hk
 have hd0 : ¬ (d : Int) < 0 := by omega
 have hd1 : ¬ (256 : Int) < (d : Int) := by omega
 have hdb : decide ((256 : Int) < (d : Int)) = false := decide_eq_false hd1
 have KN : Hid (1 + n * (66 * (k + 65)) ≤ 400000000000) := by
  have h2 : n * (66 * (k + 65)) ≤ 64 * (66 * (k + 65)) := Nat.mul_le_mul_right _ hr
  unfold Hid
  omega
 clear h M0 b0 sz0 hW hla pa hk1 hk
 go_enter Tryz.func17, Tryz.ntmps17
 go_wp2_with fail
 rw [EW.out]
 clear EW x0 x1 x2
 refine HC.out.mono ?_
 rintro e w1 ⟨rfl, b⟩
 replace PA := hid (PA.out.step b)
 replace MA := hid (MA.out.now b)
 replace G := hid (below_step G.out b)
 have x0 := PA.out.at (i := 0) rfl
 have x1 := PA.out.at (i := 1) rfl
 have x2 := PA.out.at (i := 2) rfl
 have HD := hid (chr_any MA.out HK1.out (by have := HK.out; omega))
 clear HC b
 go_wp2_with fail
 clear x0 x1 x2
 refine HD.out.mono ?_
 rintro e w2 ⟨g, rfl, hg, hz, b⟩
 have HT := hid (traces_any (hz.zl (by rw [chL_length]; omega) (chL_length n)) hr hd KN.out)
 replace G := hid (below_step G.out b)
 clear HD hg hz b
 go_wp2_with fail
 refine HT.out.mono ?_
 rintro e w3 ⟨a3, cap3, rfl, hz, b⟩
 have FIN : Hid (Trd w n d zs (1 + d * (1 + n * (66 * (k + 65)) + 300)) (.returned (.tuple #[.slice a3 d cap3, .int .i64 0])) w3) := ⟨a3, cap3, rfl, hz, below_step G.out b⟩
 clear HT hz b
 go_wp2
 go_ret2
 exact FIN.out
end Go.Proofs.YtnpcfohimlfbdaaGreat
