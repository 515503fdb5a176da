/-
  Numbers: number and wantedNumber.
-/
import Derived.Test.YtagfekcocdjhlaaDoorPlays
namespace Go.Proofs.YtagfekcocdjhlaaDoor
open Go.RowKit
set_option linter.unusedVariables false

/-- What a call of a kind that answers a number answers. -/
def NumIs (kind : Int) (xs ys : List Int) (n r : Int) : Prop :=
  (kind = 4 ∧ r = cmpI (val xs) (val ys)) ∨ (kind = 8 ∧ r = (bitLen (vn xs) : Int)) ∨ (kind = 9 ∧ IsTwos (vn xs) r) ∨ (kind = 10 ∧ r = bitAt (vn xs) n) ∨ (kind ≠ 4 ∧ kind ≠ 8 ∧ kind ≠ 9 ∧ kind ≠ 10 ∧ r = 0)
theorem numIs_unique {kind : Int} {xs ys : List Int} {n r s : Int} (h : NumIs kind xs ys n r) (h' : NumIs kind xs ys n s) : r = s := by
  rcases h with ⟨k, h⟩ | ⟨k, h⟩ | ⟨k, h⟩ | ⟨k, h⟩ | ⟨a, b, c, d, h⟩ <;> rcases h' with ⟨k', h'⟩ | ⟨k', h'⟩ | ⟨k', h'⟩ | ⟨k', h'⟩ | ⟨a', b', c', d', h'⟩ <;> first | (exfalso; omega) | (rw [h, h']) | exact isTwos_unique h h'

set_option maxHeartbeats 1600000 in
theorem number_any {w : World} {va vb : Value} {xs ys : List Int} (ha : Sl w.heap.size w va xs) (hb : Sl w.heap.size w vb ys) (hT : Tab w) (la : xs.length ≤ 1048576) (lb : ys.length ≤ 1048576) (kind : Int) {n : Int} (hn0 : -9223372036854775808 ≤ n) (hn : n ≤ 9223372036854775807) :
    Calls Tryd.prog 35 #[.int .i64 kind, va, vb, .int .i64 n] w fun e w' => ∃ r, e = .returned (.int .i64 r) ∧ NumIs kind xs ys n r ∧ Below w.heap.size w w' := by
  by_cases k4 : kind = 4
  · subst k4
    have HC := hid (cmp_now ha hb)
    clear ha hb hT
    go_enter Tryd.func35, Tryd.ntmps35
    go_wp2_with fail
    refine HC.out.mono ?_
    rintro e w1 ⟨rfl, hb1⟩
    generalize hv : cmpI (val xs) (val ys) = V
    have HV := hid hv
    clear hv HC
    go_wp2
    go_ret
    exact ⟨_, rfl, .inl ⟨rfl, HV.out.symm⟩, hb1⟩
  by_cases k8 : kind = 8
  · subst k8
    have HC := hid (bitLen_now ha)
    clear ha hb hT
    go_enter Tryd.func35, Tryd.ntmps35
    go_wp2_with fail
    refine HC.out.mono ?_
    rintro e w1 ⟨rfl, hb1⟩
    generalize hv : bitLen (vn xs) = V
    have HV := hid hv
    clear hv HC
    go_wp2
    go_ret
    exact ⟨_, rfl, .inr (.inl ⟨rfl, by rw [HV.out]⟩), hb1⟩
  by_cases k9 : kind = 9
  · subst k9
    have HC := hid (twos_now ha hT)
    clear ha hb hT
    go_enter Tryd.func35, Tryd.ntmps35
    go_wp2_with fail
    refine HC.out.mono ?_
    rintro e w1 ⟨r, rfl, ht, hb1⟩
    have HTW := hid ht
    clear ht
    go_wp2
    go_ret
    exact ⟨_, rfl, .inr (.inr (.inl ⟨rfl, HTW.out⟩)), hb1⟩
  by_cases k10 : kind = 10
  · subst k10
    have HC := hid (same_below (bit_any ha hn0 hn))
    clear ha hb hT
    go_enter Tryd.func35, Tryd.ntmps35
    go_wp2_with fail
    refine HC.out.mono ?_
    rintro e w1 ⟨rfl, hb1⟩
    generalize hv : bitAt (vn xs) n = V
    have HV := hid hv
    clear hv HC
    go_wp2
    go_ret
    exact ⟨_, rfl, .inr (.inr (.inr (.inl ⟨rfl, HV.out.symm⟩))), hb1⟩
  have b4 : (kind == 4) = false := by simp [k4]
  have b8 : (kind == 8) = false := by simp [k8]
  have b9 : (kind == 9) = false := by simp [k9]
  have b10 : (kind == 10) = false := by simp [k10]
  have HK := hid (show kind ≠ 4 ∧ kind ≠ 8 ∧ kind ≠ 9 ∧ kind ≠ 10 from ⟨k4, k8, k9, k10⟩)
  clear ha hb hT k4 k8 k9 k10
  go_enter Tryd.func35, Tryd.ntmps35
  go_wp2
  go_ret
  exact ⟨0, rfl, .inr (.inr (.inr (.inr ⟨HK.out.1, HK.out.2.1, HK.out.2.2.1, HK.out.2.2.2, rfl⟩))), Below.refl _ _⟩

set_option maxHeartbeats 1600000 in
theorem wantedNumber_any {w : World} {va vb : Value} {xs ys : List Int} (ha : Sl w.heap.size w va xs) (hb : Sl w.heap.size w vb ys) (hT : Tab w) (la : xs.length ≤ 1048576) (lb : ys.length ≤ 1048576) (kind : Int) {n : Int} (hn0 : -9223372036854775808 ≤ n) (hn : n ≤ 9223372036854775807) :
    Calls Tryd.prog 34 #[.int .i64 kind, va, vb, .int .i64 n] w fun e w' => ∃ r, e = .returned (.int .i64 r) ∧ NumIs kind xs ys n r ∧ Below w.heap.size w w' := by
  by_cases k4 : kind = 4
  · subst k4
    have HC := hid (rcmp_any ha hb (by omega) (by omega))
    clear ha hb hT
    go_enter Tryd.func34, Tryd.ntmps34
    go_wp2_with fail
    refine HC.out.mono ?_
    rintro e w1 ⟨rfl, hb1⟩
    generalize hv : cmpI (val xs) (val ys) = V
    have HV := hid hv
    clear hv HC
    go_wp2
    go_ret
    exact ⟨_, rfl, .inl ⟨rfl, HV.out.symm⟩, hb1⟩
  by_cases k8 : kind = 8
  · subst k8
    have HC := hid (rbitLen_any ha (by omega))
    clear ha hb hT
    go_enter Tryd.func34, Tryd.ntmps34
    go_wp2_with fail
    refine HC.out.mono ?_
    rintro e w1 ⟨rfl, hb1⟩
    generalize hv : bitLen (vn xs) = V
    have HV := hid hv
    clear hv HC
    go_wp2
    go_ret
    exact ⟨_, rfl, .inr (.inl ⟨rfl, by rw [HV.out]⟩), hb1⟩
  by_cases k9 : kind = 9
  · subst k9
    have HC := hid (rtwos_any ha (by omega))
    clear ha hb hT
    go_enter Tryd.func34, Tryd.ntmps34
    go_wp2_with fail
    refine HC.out.mono ?_
    rintro e w1 ⟨r, rfl, ht, hb1⟩
    have HTW := hid ht
    clear ht
    go_wp2
    go_ret
    exact ⟨_, rfl, .inr (.inr (.inl ⟨rfl, HTW.out⟩)), hb1⟩
  by_cases k10 : kind = 10
  · subst k10
    have HC := hid (rbit_any ha (by omega) hn0 hn)
    clear ha hb hT
    go_enter Tryd.func34, Tryd.ntmps34
    go_wp2_with fail
    refine HC.out.mono ?_
    rintro e w1 ⟨rfl, hb1⟩
    generalize hv : bitAt (vn xs) n = V
    have HV := hid hv
    clear hv HC
    go_wp2
    go_ret
    exact ⟨_, rfl, .inr (.inr (.inr (.inl ⟨rfl, HV.out.symm⟩))), hb1⟩
  have b4 : (kind == 4) = false := by simp [k4]
  have b8 : (kind == 8) = false := by simp [k8]
  have b9 : (kind == 9) = false := by simp [k9]
  have b10 : (kind == 10) = false := by simp [k10]
  have HK := hid (show kind ≠ 4 ∧ kind ≠ 8 ∧ kind ≠ 9 ∧ kind ≠ 10 from ⟨k4, k8, k9, k10⟩)
  clear ha hb hT k4 k8 k9 k10
  go_enter Tryd.func34, Tryd.ntmps34
  go_wp2
  go_ret
  exact ⟨0, rfl, .inr (.inr (.inr (.inr ⟨HK.out.1, HK.out.2.1, HK.out.2.2.1, HK.out.2.2.2, rfl⟩))), Below.refl _ _⟩

/-- The kinds that answer lists. -/
def isList (kind : Int) : Prop := kind = 1 ∨ kind = 2 ∨ kind = 3 ∨ kind = 5 ∨ kind = 6 ∨ kind = 7

end Go.Proofs.YtagfekcocdjhlaaDoor
