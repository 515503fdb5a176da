/-
  Guess: the contract of guess: never too small.
-/
import Derived.Test.YtaoammmnpfbdfaaQDivParts
namespace Go.Proofs.Ytaoammmnpfbdfaa
open Go.RowKit
set_option linter.unusedVariables false

theorem val_top1 {bs : List Int} {N : Nat} (h : bs.length = N + 1) : val bs = val (bs.take N) + bs[N] * pw N := by
  have := val_take_succ bs N (by omega)
  rwa [← h, List.take_length] at this
theorem val_top2 {ps : List Int} {N : Nat} (h : ps.length = N + 2) : val ps = val (ps.take N) + (ps[N] + wB * ps[N + 1]) * pw N := by
  rw [val_top1 (N := N + 1) h, val_take_succ ps N (by omega), pw]
  generalize pw N = P
  generalize val (ps.take N) = V
  generalize ps[N] = a
  generalize ps[N + 1] = b
  grind
theorem guess_ok {ps bs : List Int} {N : Nat} {q r : Int} (hp : WF ps) (hb : WF bs) (h1 : ps.length = N + 2) (h2 : bs.length = N + 1) (hq : 0 ≤ q) (hr : r < bs[N]) (he : q * bs[N] + r = ps[N + 1] * wB + ps[N]) : val ps < (q + 1) * val bs := by
  rw [val_top2 h1, val_top1 h2]
  have l1 := val_lt_pw (hp.take N)
  have l2 := val_nonneg (hb.take N)
  rw [show (ps.take N).length = N by simp; omega] at l1
  have hP := pw_pos N
  generalize pw N = P at *
  generalize val (ps.take N) = V at *
  generalize val (bs.take N) = U at *
  generalize bs[N] = t at *
  generalize ps[N] = a at *
  generalize ps[N + 1] = b at *
  have e1 : a + wB * b + 1 ≤ (q + 1) * t := by rw [Int.add_mul, Int.one_mul, Int.mul_comm wB]; omega
  have e2 := Int.mul_le_mul_of_nonneg_right e1 (Int.le_of_lt hP)
  have e3 : 0 ≤ (q + 1) * U := Int.mul_nonneg (by omega) l2
  rw [Int.mul_add (q + 1), ← Int.mul_assoc]
  rw [Int.add_mul (a + wB * b), Int.one_mul] at e2
  omega

set_option maxHeartbeats 1000000 in
theorem guess_any {B : Nat} {w : World} {v u : Value} {ps bs : List Int} {N : Nat} (h : Sl B w v ps) (h' : Sl B w u bs) (h1 : ps.length = N + 2) (h2 : bs.length = N + 1) (hlt : val ps < wB * val bs) :
    Calls Try.prog 100 #[v, u] w fun e w' => (∃ d, e = .returned (.int .u64 d) ∧ IsW d ∧ val ps < (d + 1) * val bs) ∧ ∃ n, w' = w.drewN n := by
  obtain ⟨hwp, a, cap, rfl, hlc, hcm, hm⟩ := h
  obtain ⟨hwb, a', cap', rfl, hlc', hcm', hm'⟩ := h'
  rcases hm with e | ⟨b, off, rfl, hbB, hc⟩
  · subst e; simp at h1
  rcases hm' with e | ⟨b', off', rfl, hbB', hc'⟩
  · subst e; simp at h2
  have HG : Hid (∀ q r : Int, 0 ≤ q → r < bs[N] → q * bs[N] + r = ps[N + 1] * wB + ps[N] → val ps < (q + 1) * val bs) := fun q r q1 q2 q3 => guess_ok hwp hwb h1 h2 q1 q2 q3
  have HLT := hid hlt
  have w1 := hwp.get (show N < ps.length by omega)
  have w2 := hwp.get (show N + 1 < ps.length by omega)
  have w3 := hwb.get (show N < bs.length by omega)
  have c1 : ∀ q, (w.drewN q).cell? ⟨b, off + (N + 1), none⟩ = some (.int .u64 ps[N + 1]) := fun q => by simpa using hc (N + 1) (by omega)
  have c2 : ∀ q, (w.drewN q).cell? ⟨b, off + N, none⟩ = some (.int .u64 ps[N]) := fun q => by simpa using hc N (by omega)
  have c3 : ∀ q, (w.drewN q).cell? ⟨b', off' + N, none⟩ = some (.int .u64 bs[N]) := fun q => by simpa using hc' N (by omega)
  have c1' : w.cell? ⟨b, off + (N + 1), none⟩ = some (.int .u64 ps[N + 1]) := c1 0
  have c2' : w.cell? ⟨b, off + N, none⟩ = some (.int .u64 ps[N]) := c2 0
  have c3' : w.cell? ⟨b', off' + N, none⟩ = some (.int .u64 bs[N]) := c3 0
  rw [h1, h2]
  rw [h1] at hlc hcm
  rw [h2] at hlc' hcm'
  clear hc hc' hlt
  generalize ps[N + 1] = p1 at *
  generalize ps[N] = p0 at *
  generalize bs[N] = t at *
  have eN : ((N + 1 : Nat) : Int) - 1 = (N : Int) := by omega
  have HEND : Hid (IsW 18446744073709551615 ∧ val ps < (18446744073709551615 + 1) * val bs) := ⟨by unfold IsW wB; omega, HLT.out⟩
  clear h1 h2 hwp hwb HLT
  by_cases hge : t ≤ p1
  · clear HG
    go_enter Try.func100, Try.ntmps100
    go_wp2_with fail
    go_quiet (fail)
    go_wp2
    go_ret
    exact ⟨⟨_, rfl, HEND.out⟩, _, rfl⟩
  · obtain ⟨q, r, hq, hr0, hr1, he, hdiv⟩ := div64_any w2 w1 w3 (by omega)
    have HQ := hid (HG.out q r hq.1 hr1 he)
    clear HG he
    go_enter Try.func100, Try.ntmps100
    go_wp2_with fail
    go_quiet (fail)
    go_wp2_with fail
    go_quiet ((go_at_call 92; exact (hdiv _).mono (fun e w'' h => ⟨h.1, by obtain ⟨_, n, h2⟩ := h; exact ⟨_, by rw [h2, World.drewN_drewN, Nat.add_assoc]⟩⟩)))
    go_wp2
    go_ret
    exact ⟨⟨q, rfl, hq, HQ.out⟩, by first | exact ⟨_, rfl⟩ | exact ⟨_, World.drewN_drewN _ _ _⟩⟩
end Go.Proofs.Ytaoammmnpfbdfaa
