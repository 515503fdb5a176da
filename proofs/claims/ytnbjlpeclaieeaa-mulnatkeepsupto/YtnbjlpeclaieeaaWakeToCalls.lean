/-
  WakeToCalls: Wake, MWord, Calls, joined.
-/
import Derived.Test.YtnbjlpeclaieeaaMulAllToSteps
import Derived.Test.YtnbjlpeclaieeaaSquareToFresh

/- Wake -/
namespace Go.Proofs.Ytnbjlpeclaieeaa
open Go.RowKit
set_option linter.unusedVariables false

theorem wake_prod {zs : List Int} (h : Canon zs) (hv : val zs = val [3] * val [5, 0]) : zs = [15] :=
  canon_inj h ⟨wf_word (by omega) WF.nil, rfl⟩ (by rw [hv]; decide +kernel)
set_option maxHeartbeats 800000 in
theorem wake_any (w : World) : Calls Try.prog 4 #[] w fun e w' => e = .returned (.bool true) ∧ Below w.heap.size w w' := by
  go_enter Try.func4, Try.ntmps4
  go_wp2_with fail
  refine (mul_now (xs := [3]) (ys := [5, 0]) ?_ ?_ (by simp)).mono ?_
  · exact (lit_last w [3] _ rfl (wf_word (by omega) WF.nil) (by simp) 1 rfl).later _
  · have := lit_last (w.alloc (.cells #[.int .u64 3] 32)) [5, 0] #[.int .u64 5, .int .u64 0] rfl (wf_word (by omega) (wf_word (by omega) WF.nil)) (by simp) 2 rfl
    simpa using this
  rintro e w1 ⟨zs, a, cap, rfl, hsl, hc, hv, _, hb⟩
  obtain rfl := wake_prod hc hv
  have hb1 : Below w.heap.size w w1 := ((((Below.refl _ _).alloc (Nat.le_refl _) _).alloc (by simp) _).trans (hb.mono (by simp; omega)))
  obtain ⟨_, a', cap', he, hlc, _, hm⟩ := hsl
  simp only [Value.slice.injEq] at he
  obtain ⟨rfl, _, rfl⟩ := he
  rcases hm with e | ⟨b, off, rfl, _, hcell⟩
  · cases e
  have c0 : w1.cell? ⟨b, off, none⟩ = some (.int .u64 15) := hcell 0 (by simp)
  clear hcell hc hv hb
  go_wp2
  go_ret
  exact ⟨rfl, hb1⟩

end Go.Proofs.Ytnbjlpeclaieeaa

/- MWord -/
namespace Go.Proofs.Ytnbjlpeclaieeaa
open Go.RowKit
set_option linter.unusedVariables false

theorem word_zero (xs : List Int) (n : Nat) : (List.replicate n (0 : Int)).drop n = [] := by simp
set_option maxHeartbeats 1600000 in
theorem word_any {w : World} {va : Value} {xs : List Int} (ha : Sl w.heap.size w va xs) {W : Int} (hW : IsW W) (hl : xs.length < 35184372088832) :
    Calls Try.prog 23 #[va, .int .u64 W] w (Makes w (val xs * W)) := by
  obtain ⟨a, ca, rfl⟩ : ∃ a ca, va = .slice a xs.length ca := by obtain ⟨_, a, ca, e, _⟩ := ha; exact ⟨a, ca, e⟩
  have HT1 := hid (trimmed_any ha)
  have l1 := wid_le xs
  have SX := hid (ha.taken l1)
  change Hid (Sl w.heap.size w _ (lst xs)) at SX
  have CX := hid (canon_lst ha.1)
  have LX := hid (length_lst xs)
  rw [← val_lst xs]
  generalize lst xs = X at *
  generalize wid xs = n at *
  clear ha
  have HW := hid hW
  go_enter Try.func23, Try.ntmps23
  go_wp2_with fail
  refine HT1.out.mono ?_
  rintro e w1 ⟨rfl, rfl⟩
  clear HT1
  go_wp2_with (at_make; refine wpList_make_words _ rfl _ _ rfl _ _ (n + 1) (n + 1) rfl rfl (by omega) (by omega) (Nat.le_refl _) (by omega) ?_)
  intro w2 hrow hb2 hsz2
  have HA := hid (addTimes_any (o := 0) (len := n + 1) (cap := n + 1) (r := []) (wf_zeros (n + 1)) (by simpa using hrow) (by simp; omega) (SX.out.below hb2 (Nat.le_refl _)) HW.out (by rw [LX.out]; simp) (by rw [LX.out]; omega))
  rw [LX.out] at HA
  have HB2 := hid hb2
  clear hrow hb2 hsz2
  go_wp2_with fail
  refine HA.out.mono ?_
  rintro e w3 ⟨zs', c, rfl, hzl, hwz', hc, hv, hd, hr3, hb3⟩
  rw [Nat.zero_add] at hv hd
  have hzl' : zs'.length = n + 1 := by rw [hzl]; simp
  have D3 : zs'.drop n = List.replicate (0 + 1) 0 := by rw [hd]; simp
  obtain ⟨hk3, hz3⟩ := zeros_head D3
  have c3 : w3.cell? ⟨w1.heap.size, n, none⟩ = some (.int .u64 zs'[n]) := hr3.word hk3
  have cf : w3.frozen? ⟨w1.heap.size, n, none⟩ = false := hr3.frozen _
  have HV4 : Hid (val (zs'.set n c) = val X * W) := by
    unfold Hid
    rw [val_set zs' n c hk3, hz3]
    rw [val_zeros] at hv
    have : pw 0 = 1 := rfl
    rw [this] at hv
    grind
  have HR4 := hid (hr3.setWord hk3 c)
  have HB4 := hid ((HB2.out.trans hb3).setCell (p := ⟨w1.heap.size, n, none⟩) (Nat.le_refl _) (.int .u64 c))
  have HW4 := hid (hwz'.set n hc)
  have HL4 : Hid ((zs'.set n c).length = n + 1) := by unfold Hid; rw [List.length_set, hzl']
  generalize zs'[n] = z at *
  generalize zs'.set n c = zs'' at *
  clear hd D3 hr3 hb3 hv hzl hwz' HA HB2 hzl'
  go_wp2_with fail
  have hr5 : Row (w3.setCell ⟨w1.heap.size, n, none⟩ (.int .u64 c)) w1.heap.size (ws zs'') := by simpa using HR4.out
  have hsl := Row.sl (r := []) (by simpa using hr5) HW4.out (cap := n + 1) (by rw [HL4.out]; exact Nat.le_refl _) (by omega) hr5.lt
  rw [HL4.out] at hsl
  refine (trimmed_any hsl).mono ?_
  rintro e w5 ⟨rfl, rfl⟩
  go_wp2
  go_ret
  exact ⟨lst zs'', _, rfl, trim_mine (Nat.le_refl _) HW4.out (by rw [HL4.out]; omega) hr5, canon_lst HW4.out, by rw [val_lst]; exact HV4.out, HB4.out⟩
end Go.Proofs.Ytnbjlpeclaieeaa

/- Calls -/
namespace Go.Proofs.Ytnbjlpeclaieeaa
open Go.RowKit
set_option linter.unusedVariables false

theorem mulAdd_any {w : World} {va vb vc : Value} {xs ys zs : List Int} (ha : Sl w.heap.size w va xs) (hb : Sl w.heap.size w vb ys) (hc : Sl w.heap.size w vc zs) (hl : xs.length + ys.length < 35184372088832) (hl' : zs.length < 35184372088832) :
    Calls Try.prog 24 #[va, vb, vc] w (Makes w (val xs * val ys + val zs)) := by
  have HM := hid (mul_now ha hb (by omega))
  clear ha hb
  go_enter Try.func24, Try.ntmps24
  go_wp2_with fail
  refine HM.out.mono ?_
  rintro e w1 ⟨P, pa, pc, rfl, p0, cp, HP, lp, k1⟩
  have c1 := hc.now k1
  replace HP := hid HP
  clear hc HM
  go_wp2_with fail
  refine (add_any p0 c1 (by omega) (by omega)).mono ?_
  rintro e w2 hm
  have hm' := (added_makes hm).step k1
  obtain ⟨qs, r, rfl, m1, m2, m3, m4⟩ := hm'
  clear hm
  go_wp2
  go_ret
  exact ⟨qs, r, rfl, m1, m2, by rw [m3, HP.out], m4⟩
theorem mulAdd_now {w : World} {va vb vc : Value} {xs ys zs : List Int} (ha : Sl w.heap.size w va xs) (hb : Sl w.heap.size w vb ys) (hc : Sl w.heap.size w vc zs) (hl : xs.length + ys.length < 35184372088832) (hl' : zs.length < 35184372088832) :
    Calls Try.prog 24 #[va, vb, vc] w fun e w' => ∃ qs a cap, e = .returned (.slice a qs.length cap) ∧ Sl w'.heap.size w' (.slice a qs.length cap) qs ∧ Canon qs ∧ val qs = val xs * val ys + val zs ∧ Below w.heap.size w w' :=
  (mulAdd_any ha hb hc hl hl').mono fun e w' ⟨qs, r, h1, m1, m2, m3, m4⟩ => by
    obtain ⟨a, cap, rfl⟩ := m1.form
    exact ⟨qs, a, cap, h1, m1.sl, m2, m3, m4⟩

theorem word_now {w : World} {va : Value} {xs : List Int} (ha : Sl w.heap.size w va xs) {W : Int} (hW : IsW W) (hl : xs.length < 35184372088832) :
    Calls Try.prog 23 #[va, .int .u64 W] w fun e w' => ∃ qs a cap, e = .returned (.slice a qs.length cap) ∧ Sl w'.heap.size w' (.slice a qs.length cap) qs ∧ Canon qs ∧ val qs = val xs * W ∧ Below w.heap.size w w' :=
  (word_any ha hW hl).mono fun e w' ⟨qs, r, h1, m1, m2, m3, m4⟩ => by
    obtain ⟨a, cap, rfl⟩ := m1.form
    exact ⟨qs, a, cap, h1, m1.sl, m2, m3, m4⟩

/-- The first word, 0 of none. -/
def fstW (xs : List Int) : Int := xs.headD 0
theorem fst_is {xs : List Int} (h : WF xs) : IsW (fstW xs) := by
  cases xs with
  | nil => unfold fstW IsW wB; simp
  | cons x r => exact h.head
theorem first_any {w : World} {va : Value} {xs : List Int} (ha : Sl w.heap.size w va xs) :
    Calls Try.prog 15 #[va] w fun e w' => e = .returned (.int .u64 (fstW xs)) ∧ Below w.heap.size w w' := by
  obtain ⟨hw, a, cap, rfl, hlc, hcm, hm⟩ := ha
  cases xs with
  | nil =>
    have hz : ((0 : Int) == 0) = true := rfl
    go_enter Try.func15, Try.ntmps15
    go_wp2
    go_ret
    exact ⟨rfl, Below.refl _ _⟩
  | cons x r =>
    rcases hm with e | ⟨b, off, rfl, hb, hc⟩
    · cases e
    have c0 : w.cell? ⟨b, off, none⟩ = some (.int .u64 x) := hc 0 (by simp)
    simp only [List.length_cons] at hlc ⊢
    rw [show fstW (x :: r) = x from rfl]
    generalize r.length = n at *
    have hz : (((n + 1 : Nat) : Int) == 0) = false := by rw [beq_eq_false_iff_ne]; omega
    clear hc
    go_enter Try.func15, Try.ntmps15
    go_wp2
    go_ret
    exact ⟨rfl, Below.refl _ _⟩
end Go.Proofs.Ytnbjlpeclaieeaa
