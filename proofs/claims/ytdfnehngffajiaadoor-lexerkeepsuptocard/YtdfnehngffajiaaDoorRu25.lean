/-
  Ru25: the reference's run.
-/
import Derived.Test.YtdfnehngffajiaaDoorCo25
import Derived.Test.YtdfnehngffajiaaDoorCk25
namespace Go.Proofs.YtdfnehngffajiaaDoor
open Go.RowKit
set_option linter.unusedVariables false

/-- A character that goes on a run. -/
def okC (number : Bool) (v : Nat) : Bool := digS v || (v == 95 || (!number && letS v))
/-- The longest run from a on has k characters. -/
def RunE (s : ByteArray) (a : Nat) (number : Bool) (k : Nat) : Prop := gdS s a k ∧ (∀ j, j < k → okC number (chS s (ps s a j)).1 = true) ∧ ¬ (ps s a k < s.size ∧ (chS s (ps s a k)).2 ≠ 0 ∧ okC number (chS s (ps s a k)).1 = true)
theorem runE_one {s : ByteArray} {a k l : Nat} {b : Bool} (h : RunE s a b k) (g : RunE s a b l) : k = l := by
  obtain ⟨h1, h2, h3⟩ := h
  obtain ⟨g1, g2, g3⟩ := g
  by_cases c : k < l
  · exact absurd ⟨(g1 k c).1, (g1 k c).2, g2 k c⟩ h3
  by_cases c' : l < k
  · exact absurd ⟨(h1 l c').1, (h1 l c').2, h2 l c'⟩ g3
  omega
set_option maxHeartbeats 1600000 in
set_option maxRecDepth 100000 in
theorem rrun25 (w : World) {s : ByteArray} {a : Nat} (number : Bool) (ha : a ≤ s.size) (hs : s.size ≤ 1152921504606846976) : Calls Tryd.prog 22 #[.string s, .int .i64 (a : Int), .bool number] w fun e w' => ∃ k, e = .returned (.tuple #[.int .i64 ((ps s a k - a : Nat) : Int), .int .i64 (k : Int)]) ∧ RunE s a number k ∧ w' = w := by
  have HC : Hid (∀ i, i < s.size → Calls Tryd.prog 17 #[.string s, .int .i64 (i : Int)] w (ChD s i w)) := hid fun i hi => char25 w hi hs
  have HD : Hid (∀ v : Nat, Calls Tryd.prog 21 #[.int .i64 (v : Int)] w fun e w' => e = .returned (.bool (digS v)) ∧ w' = w) := hid fun v => digit25 w v
  have HE : Hid (∀ v : Nat, Calls Tryd.prog 24 #[.int .i64 (v : Int)] w fun e w' => e = .returned (.bool (letS v)) ∧ w' = w) := hid fun v => letter25 w v
  have HS := hid hs
  have HA := hid ha
  clear hs ha
  go_enter Tryd.func22, Tryd.ntmps22
  go_wp2_with fail
  go_loopg [8, 9] (s.size - a) (fun gk s8 s9 wr => ∃ k : Nat, s9 = .int .i64 (k : Int) ∧ s8 = .int .i64 ((ps s a k - a : Nat) : Int) ∧ gk = s.size - ps s a k ∧ Hid (gdS s a k) ∧ Hid (∀ j, j < k → okC number (chS s (ps s a j)).1 = true) ∧ wr = w)
  case atStart => exact ⟨0, rfl, by simp [ps], by rfl, hid (gdS.zero s a), hid (fun j h => absurd h (Nat.not_lt_zero j)), rfl⟩
  case round =>
    obtain ⟨k, rfl, rfl, hgk, hgd, hok, rfl⟩ := hrel
    have HGK := hid hgk
    clear hgk
    obtain ⟨h1, h2⟩ := hgd.out.le HA.out
    have hsz := HS.out
    have haz := HA.out
    obtain ⟨i, hi⟩ : ∃ i, ps s a k = i := ⟨_, rfl⟩
    have HI := hid hi
    rw [hi] at h1 h2 ⊢
    clear hi
    have ge : IntKind.i64.wrap ((a : Int) + ((i - a : Nat) : Int)) = (i : Int) := by rw [wrap_is] <;> omega
    by_cases hlt : i < s.size
    · have hlt' : (i : Int) < (s.size : Int) := by omega
      have CH := hid (HC.out i hlt)
      have HIN := hid (chS_in hlt)
      unfold ChD at CH
      obtain ⟨V, hV⟩ : ∃ V, (chS s i).1 = V := ⟨_, rfl⟩
      obtain ⟨N, hN⟩ : ∃ N, (chS s i).2 = N := ⟨_, rfl⟩
      rw [hV, hN] at CH
      rw [hN] at HIN
      have HN := hid hN
      have HV := hid hV
      clear hV hN HC HS
      have CD := hid (HD.out V)
      have CE := hid (HE.out V)
      clear HD HE
      by_cases h0 : N = 0
      · subst h0
        have FIN : Hid (RunE s a number k) := hid ⟨hgd.out, hok.out, fun q => q.2.1 (by rw [HI.out]; exact HN.out)⟩
        clear hgd hok HN HV HIN HGK CD CE
        go_wp2_with fail
        refine CH.out.mono ?_
        rintro e w1 ⟨rfl, rfl⟩
        clear CH
        go_wp2
        go_ret2
        exact ⟨k, by rw [HI.out]; rfl, FIN.out, rfl⟩
      have hn0 : ((N : Int) == 0) = false := by rw [beq_eq_false_iff_ne]; omega
      have ga : IntKind.i64.wrap (((i - a : Nat) : Int) + (N : Int)) = ((i + N - a : Nat) : Int) := by have := HIN.out; rw [wrap_is] <;> omega
      have gb : IntKind.i64.wrap ((k : Int) + 1) = ((k + 1 : Nat) : Int) := by rw [wrap_is] <;> omega
      have EP : Hid (ps s a (k + 1) = i + N) := hid (by show ps s a k + (chS s (ps s a k)).2 = _; rw [HI.out, HN.out])
      have GD : Hid (gdS s a (k + 1)) := hid (hgd.out.succ (by rw [HI.out]; exact hlt) (by rw [HI.out, HN.out]; exact h0))
      have OK : Hid (okC number V = true → ∀ j, j < k + 1 → okC number (chS s (ps s a j)).1 = true) := hid fun q j hj => by
        by_cases e : j = k
        · subst e; rw [HI.out, HV.out]; exact q
        · exact hok.out j (by omega)
      have NO : Hid (okC number V = false → RunE s a number k) := hid fun q => ⟨hgd.out, hok.out, fun z => by
        have := z.2.2
        rw [HI.out, HV.out, q] at this
        exact absurd this (by simp)⟩
      have hin := HIN.out
      clear hgd hok HN HV HIN
      by_cases hd : digS V = true
      · rw [hd] at CD
        have G := hid (OK.out (by unfold okC; rw [hd]; rfl))
        clear OK NO
        go_wp2_with fail
        refine CH.out.mono ?_
        rintro e w1 ⟨rfl, rfl⟩
        clear CH
        go_wp2_with fail
        refine CD.out.mono ?_
        rintro e w1 ⟨rfl, rfl⟩
        clear CD
        go_wp2_with fail
        go_roundg (s.size - ps s a (k + 1))
        case rel => exact ⟨k + 1, by first | rfl | go_num, by rw [EP.out], rfl, GD, G, rfl⟩
        case measure => have := HGK.out; have := HI.out; have := EP.out; omega
      have hd0 : digS V = false := by simpa using hd
      rw [hd0] at CD
      clear hd
      by_cases h95 : V = 95
      · subst h95
        have G := hid (OK.out (by unfold okC; rw [hd0]; rfl))
        clear OK NO
        go_wp2_with fail
        refine CH.out.mono ?_
        rintro e w1 ⟨rfl, rfl⟩
        clear CH
        go_wp2_with fail
        refine CD.out.mono ?_
        rintro e w1 ⟨rfl, rfl⟩
        clear CD
        go_wp2_with fail
        go_roundg (s.size - ps s a (k + 1))
        case rel => exact ⟨k + 1, by first | rfl | go_num, by rw [EP.out], rfl, GD, G, rfl⟩
        case measure => have := HGK.out; have := HI.out; have := EP.out; omega
      have hb95 : ((V : Int) != 95) = true := by rw [bne_iff_ne]; omega
      have hb96 : (V == 95) = false := by rw [beq_eq_false_iff_ne]; exact h95
      cases number with
      | true =>
        have FIN := hid (NO.out (by unfold okC; rw [hd0, hb96]; rfl))
        clear OK NO GD
        go_wp2_with fail
        refine CH.out.mono ?_
        rintro e w1 ⟨rfl, rfl⟩
        clear CH
        go_wp2_with fail
        refine CD.out.mono ?_
        rintro e w1 ⟨rfl, rfl⟩
        clear CD
        go_wp2
        go_ret2
        exact ⟨k, by rw [HI.out]; rfl, FIN.out, rfl⟩
      | false =>
        by_cases hl : letS V = true
        · rw [hl] at CE
          have G := hid (OK.out (by unfold okC; rw [hd0, hb96, hl]; rfl))
          clear OK NO
          go_wp2_with fail
          refine CH.out.mono ?_
          rintro e w1 ⟨rfl, rfl⟩
          clear CH
          go_wp2_with fail
          refine CD.out.mono ?_
          rintro e w1 ⟨rfl, rfl⟩
          clear CD
          go_wp2_with fail
          refine CE.out.mono ?_
          rintro e w1 ⟨rfl, rfl⟩
          clear CE
          go_wp2_with fail
          go_roundg (s.size - ps s a (k + 1))
          case rel => exact ⟨k + 1, by first | rfl | go_num, by rw [EP.out], rfl, GD, G, rfl⟩
          case measure => have := HGK.out; have := HI.out; have := EP.out; omega
        · have hl0 : letS V = false := by simpa using hl
          rw [hl0] at CE
          have FIN := hid (NO.out (by unfold okC; rw [hd0, hb96, hl0]; rfl))
          clear OK NO GD
          go_wp2_with fail
          refine CH.out.mono ?_
          rintro e w1 ⟨rfl, rfl⟩
          clear CH
          go_wp2_with fail
          refine CD.out.mono ?_
          rintro e w1 ⟨rfl, rfl⟩
          clear CD
          go_wp2_with fail
          refine CE.out.mono ?_
          rintro e w1 ⟨rfl, rfl⟩
          clear CE
          go_wp2
          go_ret2
          exact ⟨k, by rw [HI.out]; rfl, FIN.out, rfl⟩
    · have hlt' : ¬ (i : Int) < (s.size : Int) := by omega
      have FIN : Hid (RunE s a number k) := hid ⟨hgd.out, hok.out, fun q => hlt (by rw [← HI.out]; exact q.1)⟩
      clear hgd hok HGK HC HD HE HS
      go_wp2
      go_ret2
      exact ⟨k, by rw [HI.out]; rfl, FIN.out, rfl⟩
end Go.Proofs.YtdfnehngffajiaaDoor
