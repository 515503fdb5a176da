/-
  Lu25: the law LexerCuts, given what awake and the program's Lines answer.
-/
import Derived.Test.YtdfnehngffajiaaDoorAp25
import Derived.Test.YtdfnehngffajiaaDoorLq25
import Derived.Test.YtdfnehngffajiaaDoorHs25
import Derived.Test.YtdfnehngffajiaaDoorTx25
import Derived.Test.YtdfnehngffajiaaDoorRt25
import Derived.Laws.Concat
namespace Go.Proofs.YtdfnehngffajiaaDoor
open Go.RowKit
set_option linter.unusedVariables false

theorem linesS_empty {s : ByteArray} (h : s.size = 0) : linesS s = [] := by
  unfold linesS
  rw [h]
  exact if_pos rfl
theorem linesS_nl0 : linesS nl25 = [⟨#[]⟩] := by decide +kernel
set_option maxHeartbeats 3200000 in
set_option maxRecDepth 100000 in
theorem lexerCuts_of {w : World} {s t : ByteArray} (hs : s.size ≤ 1048576) (ht : t.size ≤ 1048576)
    (hmx : MaxL w) (AW : Calls Tryd.prog 7 #[] w (Well25 w))
    (PL : ∀ (x : ByteArray) (w : World), MaxL w → x.size ≤ 4194304 → Calls Tryd.prog 10 #[.string x] w (LinP x w)) :
    Calls Tryd.prog 5 #[.string s, .string t] w (Well25 w) := by
  have HAT : Hid (∀ (k : Nat) (h : k < s.size), ((s[k]'h).toNat : Int) = (byS s k : Int)) := fun k h => byS_at h
  have A0 := hid AW
  have n1 : (s ++ nl25).size = s.size + 1 := app_size _ _
  have P1 : Hid (∀ w, MaxL w → Calls Tryd.prog 10 #[.string (s ++ nl25)] w (LinP (s ++ nl25) w)) := hid fun w hx => PL _ w hx (by omega)
  have P2 : Hid (∀ w, MaxL w → Calls Tryd.prog 10 #[.string t] w (LinP t w)) := hid fun w hx => PL _ w hx (by omega)
  have P3 : Hid (∀ w, MaxL w → Calls Tryd.prog 10 #[.string (s ++ nl25 ++ t)] w (LinP (s ++ nl25 ++ t) w)) := hid fun w hx => PL _ w hx (by rw [app_size]; omega)
  have P4 : Hid (∀ w, MaxL w → Calls Tryd.prog 10 #[.string s] w (LinP s w)) := hid fun w hx => PL _ w hx (by omega)
  have P5 : Hid (∀ w, MaxL w → Calls Tryd.prog 10 #[.string nl25] w (LinP nl25 w)) := hid fun w hx => PL _ w hx (by show 1 ≤ _; omega)
  have HH : Hid (∀ w, Calls Tryd.prog 15 #[.string s, .int .u8 10] w (HasD s 10 w)) := hid fun w => has25 w s 10 (by omega)
  have LN : Hid ((linesS (s ++ nl25)).length ≤ 1000000000000 ∧ (linesS t).length ≤ 1000000000000 ∧ (linesS (s ++ nl25 ++ t)).length ≤ 1000000000000) := hid ⟨by have := linesS_len (s ++ nl25); omega, by have := linesS_len t; omega, by have := linesS_len (s ++ nl25 ++ t); rw [app_size, n1] at this; omega⟩
  have hc1 : ¬ (9223372036854775807 < s.size + 1) := by omega
  have hc2 : ¬ (9223372036854775807 < s.size + 1 + t.size) := by omega
  have hc3 : ¬ (9223372036854775807 < (s ++ nl25).size + t.size) := by omega
  have hsz := hid hs
  have MX : Hid (∀ wx : World, Below w.heap.size w wx → MaxL wx) := hid fun wx hb => hmx.on hb
  clear AW PL hs ht hmx
  unfold Well25 at A0 ⊢
  unfold LinP at P1 P2 P3 P4 P5
  unfold HasD at HH
  go_enter Tryd.func5, Tryd.ntmps5
  go_wp2_with fail
  refine A0.out.mono ?_
  rintro x w1 ⟨rfl, b1⟩
  have B1 := hid b1
  have L1 := hid b1.size
  clear A0 b1
  go_wp2_with fail
  refine (P1.out w1 (MX.out _ B1.out)).mono ?_
  rintro x w2 ⟨v1, rfl, s1, b2⟩
  have B2 := hid (below_on25 B1.out b2)
  have S1 := hid s1
  have L2 := hid b2.size
  clear b2 s1 B1
  go_wp2_with fail
  refine (P2.out w2 (MX.out _ B2.out)).mono ?_
  rintro x w3 ⟨v2, rfl, s2, b3⟩
  have B3 := hid (below_on25 B2.out b3)
  have S2 := hid s2
  have S1b := hid (S1.out.now b3)
  have OW : Hid (∀ g, v1.ownBlock = some g → g < w3.heap.size) := hid fun g e => Nat.lt_of_lt_of_le (S1.out.own e).2 b3.size
  have L3 := hid b3.size
  clear b3 s2 P2 B2 S1
  go_wp2_with fail
  refine (P3.out w3 (MX.out _ B3.out)).mono ?_
  rintro x w4 ⟨v3, rfl, s3, b4⟩
  have B4 := hid (below_on25 B3.out b4)
  have S3 := hid s3
  have S1 := hid (S1b.out.now b4)
  have S2b := hid (S2.out.now b4)
  have L4 := hid b4.size
  have LW : Hid (w.heap.size ≤ w1.heap.size ∧ w1.heap.size ≤ w4.heap.size) := hid ⟨L1.out, by have := L2.out; have := L3.out; have := L4.out; omega⟩
  clear b4 s3 P3 B3 S1b S2
  go_wp2_with (at_builtin; refine wpList_append_strs25 _ rfl (.tmp 23) (.tmp 24) rfl w1.heap.size w2.heap.size _ _ (linesS (s ++ nl25)) (linesS t) rfl rfl S1.out S2b.out LN.out.1 LN.out.2.1 LW.out.2 ?_)
  intro v4 w5 hf hS hb hk
  have B5 := hid (B4.out.trans (hb.out.mono LW.out.1))
  have S4 : Hid (Strs w1.heap.size w5 v4 (linesS (s ++ nl25 ++ t))) := by rw [linesS_cut]; exact hS
  have S3b := hid (S3.out.keep (w' := w5) fun g h1 h2 => hk.out g h2 (fun e => by have := OW.out g e; omega))
  have L3n := LN.out.2.2
  obtain ⟨a4, c4, rfl⟩ := hf.out
  clear hf hS hb hk B4 S1 S2b S3 OW LN LW
  go_wp2_with fail
  refine (texts25 S3b.out S4.out L3n).mono ?_
  rintro x w6 ⟨rfl, n6, rfl⟩
  have B6 := hid (below_dr25 n6 B5.out)
  generalize w5.drewN n6 = w6 at *
  clear B5 S3b S4 L3n
  go_wp2_with fail
  refine (HH.out w6).mono ?_
  rintro x w7 ⟨b, rfl, hno, hw7⟩
  subst hw7
  have HNO := hid hno
  clear HH hno
  cases b with
  | true =>
    clear HAT P1 P4 P5 HNO
    go_wp2
    go_ret
    exact ⟨rfl, B6.out⟩
  | false =>
  have NO := hid (HNO.out rfl)
  clear HNO
  by_cases h0 : s.size = 0
  · have hem : s.toList.isEmpty = true := by
      rw [List.isEmpty_iff, Lib.toList_data]
      have : s.data.size = 0 := h0
      simp only [Array.toList_eq_nil_iff]
      exact Array.eq_empty_of_size_eq_zero this
    have g1 : ¬ (0 : Int) < (s.size : Int) := by omega
    have LE := linesS_empty h0
    clear HAT P1 NO
    go_wp2_with fail
    refine (P4.out _ (MX.out _ B6.out)).mono ?_
    rintro x w8 ⟨v8, rfl, s8, b8⟩
    rw [LE] at s8
    obtain ⟨a8, c8, rfl⟩ := s8.form
    simp only [List.length_nil]
    have B8 := hid (below_on25 B6.out b8)
    clear b8 s8 P4 B6 LE
    go_wp2_with fail
    refine (P5.out _ (MX.out _ B8.out)).mono ?_
    rintro x w11 ⟨v11, rfl, s11, b11⟩
    rw [linesS_nl0] at s11
    have B11 := hid (below_on25 B8.out b11)
    have S11 := hid (s11.now ((Below.refl w11.heap.size w11).alloc (Nat.le_refl _) (.cells #[.string ⟨#[]⟩] 9)))
    have S12 := hid (strs_lit25 (B := w11.heap.size) w11 ⟨#[]⟩ (Nat.le_refl _))
    have B12 := hid (below_on25 B11.out ((Below.refl w11.heap.size w11).alloc (Nat.le_refl _) (.cells #[.string ⟨#[]⟩] 9)))
    clear b11 s11 P5 B8 B11
    go_wp2_with fail
    refine (texts25 S11.out S12.out (by simp)).mono ?_
    rintro x w13 ⟨rfl, n13, rfl⟩
    have B13 := hid (below_dr25 n13 B12.out)
    clear B12 S11 S12
    go_wp2
    go_ret
    exact ⟨rfl, B13.out⟩
  have hpos : 0 < s.size := by omega
  have hem : s.toList.isEmpty = false := emp25 (fun e => h0 (by rw [e]; rfl))
  have g1 : (0 : Int) < (s.size : Int) := by omega
  have hsz' := hsz.out
  have g2 : IntKind.i64.wrap ((s.size : Int) - 1) = ((s.size - 1 : Nat) : Int) := by rw [wrap_is] <;> omega
  have g3 : ((s.size - 1 : Nat) : Int) < (s.size : Int) := by omega
  have g4 : ((s.size - 1 : Nat) : Int) ≤ (s.size : Int) := by omega
  have hat := HAT.out (s.size - 1) (by omega)
  clear P5 HAT
  by_cases h13 : byS s (s.size - 1) = 13
  · rw [h13] at hat
    have ON : Hid (linesS s = [(s.extract 0 (s.size - 1))] ∧ linesS (s ++ nl25) = [(s.extract 0 (s.size - 1))]) := hid ⟨by rw [linesS_one NO.out hpos, oneL_cr hpos h13], by rw [linesS_oneNl NO.out, oneL_cr hpos h13]⟩
    clear NO
    go_wp2_with fail
    refine (P4.out _ (MX.out _ B6.out)).mono ?_
    rintro x w8 ⟨v8, rfl, s8, b8⟩
    rw [ON.out.1] at s8
    obtain ⟨a8, c8, rfl⟩ := s8.form
    have B8 := hid (below_on25 B6.out b8)
    have S8 := hid (s8.now ((Below.refl w8.heap.size w8).alloc (Nat.le_refl _) (.cells #[.string (s.extract 0 (s.size - 1))] 9)))
    have S9 := hid (strs_lit25 (B := w8.heap.size) w8 (s.extract 0 (s.size - 1)) (Nat.le_refl _))
    have B9 := hid (below_on25 B8.out ((Below.refl w8.heap.size w8).alloc (Nat.le_refl _) (.cells #[.string (s.extract 0 (s.size - 1))] 9)))
    clear b8 s8 P4 B6 B8
    go_wp2_with fail
    refine (texts25 S8.out S9.out (by simp)).mono ?_
    rintro x w10 ⟨rfl, n10, rfl⟩
    have B10 := hid (below_dr25 n10 B9.out)
    generalize (w8.alloc (.cells #[.string (s.extract 0 (s.size - 1))] 9)).drewN n10 = w10 at *
    clear B9 S8 S9
    go_wp2_with fail
    refine (P1.out _ (MX.out _ B10.out)).mono ?_
    rintro x w11 ⟨v11, rfl, s11, b11⟩
    rw [ON.out.2] at s11
    have B11 := hid (below_on25 B10.out b11)
    have S11 := hid (s11.now ((Below.refl w11.heap.size w11).alloc (Nat.le_refl _) (.cells #[.string (s.extract 0 (s.size - 1))] 9)))
    have S12 := hid (strs_lit25 (B := w11.heap.size) w11 (s.extract 0 (s.size - 1)) (Nat.le_refl _))
    have B12 := hid (below_on25 B11.out ((Below.refl w11.heap.size w11).alloc (Nat.le_refl _) (.cells #[.string (s.extract 0 (s.size - 1))] 9)))
    clear b11 s11 P1 B10 B11 ON
    go_wp2_with fail
    refine (texts25 S11.out S12.out (by simp)).mono ?_
    rintro x w13 ⟨rfl, n13, rfl⟩
    have B13 := hid (below_dr25 n13 B12.out)
    clear B12 S11 S12
    go_wp2
    go_ret
    exact ⟨rfl, B13.out⟩
  · have g5 : ((byS s (s.size - 1) : Int) == 13) = false := by rw [beq_eq_false_iff_ne]; omega
    have ON : Hid (linesS s = [s] ∧ linesS (s ++ nl25) = [s]) := hid ⟨by rw [linesS_one NO.out hpos, oneL_no (fun q => h13 q.2)], by rw [linesS_oneNl NO.out, oneL_no (fun q => h13 q.2)]⟩
    clear NO
    go_wp2_with fail
    refine (P4.out _ (MX.out _ B6.out)).mono ?_
    rintro x w8 ⟨v8, rfl, s8, b8⟩
    rw [ON.out.1] at s8
    obtain ⟨a8, c8, rfl⟩ := s8.form
    have B8 := hid (below_on25 B6.out b8)
    have S8 := hid (s8.now ((Below.refl w8.heap.size w8).alloc (Nat.le_refl _) (.cells #[.string s] 9)))
    have S9 := hid (strs_lit25 (B := w8.heap.size) w8 s (Nat.le_refl _))
    have B9 := hid (below_on25 B8.out ((Below.refl w8.heap.size w8).alloc (Nat.le_refl _) (.cells #[.string s] 9)))
    clear b8 s8 P4 B6 B8
    go_wp2_with fail
    refine (texts25 S8.out S9.out (by simp)).mono ?_
    rintro x w10 ⟨rfl, n10, rfl⟩
    have B10 := hid (below_dr25 n10 B9.out)
    generalize (w8.alloc (.cells #[.string s] 9)).drewN n10 = w10 at *
    clear B9 S8 S9
    go_wp2_with fail
    refine (P1.out _ (MX.out _ B10.out)).mono ?_
    rintro x w11 ⟨v11, rfl, s11, b11⟩
    rw [ON.out.2] at s11
    have B11 := hid (below_on25 B10.out b11)
    have S11 := hid (s11.now ((Below.refl w11.heap.size w11).alloc (Nat.le_refl _) (.cells #[.string s] 9)))
    have S12 := hid (strs_lit25 (B := w11.heap.size) w11 s (Nat.le_refl _))
    have B12 := hid (below_on25 B11.out ((Below.refl w11.heap.size w11).alloc (Nat.le_refl _) (.cells #[.string s] 9)))
    clear b11 s11 P1 B10 B11 ON
    go_wp2_with fail
    refine (texts25 S11.out S12.out (by simp)).mono ?_
    rintro x w13 ⟨rfl, n13, rfl⟩
    have B13 := hid (below_dr25 n13 B12.out)
    clear B12 S11 S12
    go_wp2
    go_ret
    exact ⟨rfl, B13.out⟩
end Go.Proofs.YtdfnehngffajiaaDoor
