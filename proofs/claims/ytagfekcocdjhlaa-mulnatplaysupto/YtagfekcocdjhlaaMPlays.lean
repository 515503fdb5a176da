/-
  MPlays: the walk of MulnatPlays.
-/
import Derived.Test.YtagfekcocdjhlaaCopies
import Derived.Test.YtagfekcocdjhlaaWake
namespace Go.Proofs.Ytagfekcocdjhlaa
open Go.RowKit
set_option linter.unusedVariables false

/-- A script: its steps by their places. -/
def Script2 (w : World) (a : Option Addr) (len cap : Nat) (s : Nat → OpD) : Prop :=
  len ≤ cap ∧ len ≤ 1048576 ∧ (∀ k, k < len → OpOk w (s k)) ∧
  (len = 0 ∨ ∃ b off, a = some ⟨b, off, none⟩ ∧ b < w.heap.size ∧ ∀ k, k < len → w.cell? ⟨b, off + k * 6, none⟩ = some (.int .i64 (s k).kind) ∧ w.cell? ⟨b, off + k * 6 + 1, none⟩ = some (s k).va ∧ w.cell? ⟨b, off + k * 6 + 2, none⟩ = some (s k).vb ∧ w.cell? ⟨b, off + k * 6 + 3, none⟩ = some (s k).vc ∧
    w.cell? ⟨b, off + k * 6 + 4, none⟩ = some (.int .i64 (s k).n) ∧ w.cell? ⟨b, off + k * 6 + 5, none⟩ = some (s k).vl)

set_option maxRecDepth 100000 in
set_option maxHeartbeats 6400000 in
theorem mulnatPlays_any (hcop : CopiedOk) {w : World} {a : Option Addr} {len cap : Nat} {s : Nat → OpD} (h : Script2 w a len cap s) :
    Calls Try.prog 3 #[.slice a len cap] w fun e w' => e = .returned (.bool true) ∧ Below w.heap.size w w' := by
  obtain ⟨hlc, hcm, hst, hm⟩ := h
  have HST := hid hst
  have HM := hid hm
  have HCOP := hid hcop
  clear hst hm hcop
  go_enter Try.func3, Try.ntmps3
  go_wp2_with fail
  refine (wake_any _).mono ?_
  rintro e w1 ⟨rfl, k1⟩
  have K1 := hid k1
  clear k1
  go_wp2_with fail
  go_loopw [3] (fun i wr => ∃ k : Nat, k ≤ len ∧ i = .int .i64 k ∧ Hid (Below w.heap.size w wr)) (fun i _ => len - (intOf i).toNat)
  case atStart => exact ⟨0, Nat.zero_le _, rfl, K1⟩
  case round =>
    clear K1
    obtain ⟨k, hk, rfl, HB⟩ := hrel
    by_cases hlt : k < len
    · rcases HM.out with e | ⟨b, off, rfl, hbg, hc⟩
      · omega
      obtain ⟨hc0, hc1, hc2, hc3, hc4, hc5⟩ := hc k hlt
      have c0 := (HB.out.cell (p := ⟨b, off + k * 6, none⟩) hbg).trans hc0
      have c1 := (HB.out.cell (p := ⟨b, off + k * 6 + 1, none⟩) hbg).trans hc1
      have c2 := (HB.out.cell (p := ⟨b, off + k * 6 + 2, none⟩) hbg).trans hc2
      have c3 := (HB.out.cell (p := ⟨b, off + k * 6 + 3, none⟩) hbg).trans hc3
      have c4 := (HB.out.cell (p := ⟨b, off + k * 6 + 4, none⟩) hbg).trans hc4
      have c5 := (HB.out.cell (p := ⟨b, off + k * 6 + 5, none⟩) hbg).trans hc5
      have hok := (HST.out k hlt).now HB.out
      generalize s k = d at *
      obtain ⟨kind, va, xs, vb, ys, vc, zs, n, vl, Xs⟩ := d
      simp only [] at c0 c1 c2 c3 c4 c5
      have HCP := hid (copied_op HCOP.out hok)
      obtain ⟨aa, ca, rfl⟩ : ∃ a c, va = .slice a xs.length c := by obtain ⟨_, a, c, e, _⟩ := hok.sa; exact ⟨a, c, e⟩
      obtain ⟨ab, cb, rfl⟩ : ∃ a c, vb = .slice a ys.length c := by obtain ⟨_, a, c, e, _⟩ := hok.sb; exact ⟨a, c, e⟩
      obtain ⟨ac, cc, rfl⟩ : ∃ a c, vc = .slice a zs.length c := by obtain ⟨_, a, c, e, _⟩ := hok.sc; exact ⟨a, c, e⟩
      obtain ⟨al, cl, rfl⟩ : ∃ a c, vl = .slice a Xs.length c := by obtain ⟨a, c, e, _⟩ := hok.sl; exact ⟨a, c, e⟩
      clear hc hc0 hc1 hc2 hc3 hc4 hc5 hok
      go_wp2_with fail
      refine HCP.out.mono ?_
      rintro e w2 ⟨ba, da, bb, db, bc, dc, bl, dl, rfl, ok2, k2⟩
      have HB2 := hid (below_step HB.out k2)
      have kb := (Below.refl w2.heap.size w2).alloc (Nat.le_refl _) (.cells #[.int .i64 kind, .slice ba xs.length da, .slice bb ys.length db, .slice bc zs.length dc, .int .i64 n, .slice bl Xs.length dl] 27)
      have ok2b := ok2.now kb
      have HB2b := hid (below_step HB2.out kb)
      have OK2 := hid ok2b
      have HCP2 := hid (copied_op HCOP.out ok2b)
      clear c0 c1 c2 c3 c4 c5 HCP ok2 ok2b k2 HB HB2 kb
      go_wp2_with fail
      refine HCP2.out.mono ?_
      rintro e w3 ⟨ea, fa, eb, fb, ec, fc, el, fl, rfl, ok3, k3⟩
      have OK2c := hid (OK2.out.now k3)
      have HB3 := hid (below_step HB2b.out k3)
      have HTO := hid (told_op ok3)
      have CB : Hid (∀ j, w3.cell? ⟨w2.heap.size, j, none⟩ = (w2.alloc (.cells #[.int .i64 kind, .slice ba xs.length da, .slice bb ys.length db, .slice bc zs.length dc, .int .i64 n, .slice bl Xs.length dl] 27)).cell? ⟨w2.heap.size, j, none⟩) := fun j => k3.cell (p := ⟨w2.heap.size, j, none⟩) (by simp)
      have HSZ : Hid (w2.heap.size < w3.heap.size) := by unfold Hid; have := k3.size; simp at this; omega
      clear ok3 k3 OK2 HB2b HCP2
      go_wp2_with fail
      refine HTO.out.mono ?_
      rintro e w4 ⟨W, rw_, rfl, mW, cW, hW, k4⟩
      have OK4 := hid (OK2c.out.now k4)
      have HB4 := hid (below_step HB3.out k4)
      have HMW := hid mW.sl
      obtain ⟨wa, wc, rfl⟩ := mW.form
      have HCW := hid cW
      have HVW := hid hW
      have HAS := hid (asked_op OK4.out)
      have d0 : w4.cell? ⟨w2.heap.size, 0, none⟩ = some (.int .i64 kind) := (k4.cell (p := ⟨w2.heap.size, 0, none⟩) HSZ.out).trans ((CB.out 0).trans (by simp))
      have d1 : w4.cell? ⟨w2.heap.size, 1, none⟩ = some (.slice ba xs.length da) := (k4.cell (p := ⟨w2.heap.size, 1, none⟩) HSZ.out).trans ((CB.out 1).trans (by simp))
      have d2 : w4.cell? ⟨w2.heap.size, 2, none⟩ = some (.slice bb ys.length db) := (k4.cell (p := ⟨w2.heap.size, 2, none⟩) HSZ.out).trans ((CB.out 2).trans (by simp))
      have d3 : w4.cell? ⟨w2.heap.size, 3, none⟩ = some (.slice bc zs.length dc) := (k4.cell (p := ⟨w2.heap.size, 3, none⟩) HSZ.out).trans ((CB.out 3).trans (by simp))
      have d4 : w4.cell? ⟨w2.heap.size, 4, none⟩ = some (.int .i64 n) := (k4.cell (p := ⟨w2.heap.size, 4, none⟩) HSZ.out).trans ((CB.out 4).trans (by simp))
      have d5 : w4.cell? ⟨w2.heap.size, 5, none⟩ = some (.slice bl Xs.length dl) := (k4.cell (p := ⟨w2.heap.size, 5, none⟩) HSZ.out).trans ((CB.out 5).trans (by simp))
      clear mW cW hW k4 HTO CB HSZ OK2c HB3
      go_wp2_with fail
      refine HAS.out.mono ?_
      rintro e w5 ⟨G, rg, rfl, mG, cG, hG, k5⟩
      have HB5 := hid (below_step HB4.out k5)
      have HMG := hid mG.sl
      have HMW5 := hid (HMW.out.now k5)
      obtain ⟨ga, gc, rfl⟩ := mG.form
      have HEQ : Hid (G = W) := canon_inj cG HCW.out (by rw [hG, HVW.out])
      have hee : (opE kind n != opE kind n) = false := by simp
      generalize opE kind n = E at *
      clear d0 d1 d2 d3 d4 d5 mG cG hG k5 HAS HMW HB4 OK4
      go_wp2_with fail
      refine (same_yes HMG.out HMW5.out HEQ.out).mono ?_
      rintro e w6 ⟨rfl, k6⟩
      have HB6 := hid (below_step HB5.out k6)
      clear k6
      go_wp2
      go_roundw
      case rel => exact ⟨k + 1, by omega, by go_num, HB6⟩
      case measure => first | (simp [intOf]; done) | (simp [intOf]; omega)
    · go_wp2
      go_ret
      exact ⟨rfl, HB.out⟩
end Go.Proofs.Ytagfekcocdjhlaa
