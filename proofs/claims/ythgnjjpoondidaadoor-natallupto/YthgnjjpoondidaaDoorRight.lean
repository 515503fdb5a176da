/-
  Right: number and wantedNumber; right.
-/
import Derived.Test.YthgnjjpoondidaaDoorPlays
namespace Go.Proofs.YthgnjjpoondidaaDoor
open Go.RowKit
set_option linter.unusedVariables false

/-- What a call of a kind that answers a number answers. -/
def NumIs (kind : Int) (xs ys : List Int) (n r : Int) : Prop :=
  (kind = 4 ∧ r = cmpI (val xs) (val ys)) ∨ (kind = 8 ∧ r = (bitLen (vn xs) : Int)) ∨ (kind = 9 ∧ IsTwos (vn xs) r) ∨ (kind = 10 ∧ r = bitAt (vn xs) n) ∨ (kind ≠ 4 ∧ kind ≠ 8 ∧ kind ≠ 9 ∧ kind ≠ 10 ∧ r = 0)
theorem numIs_unique {kind : Int} {xs ys : List Int} {n r s : Int} (h : NumIs kind xs ys n r) (h' : NumIs kind xs ys n s) : r = s := by
  rcases h with ⟨k, h⟩ | ⟨k, h⟩ | ⟨k, h⟩ | ⟨k, h⟩ | ⟨a, b, c, d, h⟩ <;> rcases h' with ⟨k', h'⟩ | ⟨k', h'⟩ | ⟨k', h'⟩ | ⟨k', h'⟩ | ⟨a', b', c', d', h'⟩ <;> first | (exfalso; omega) | (rw [h, h']) | exact isTwos_unique h h'

set_option maxHeartbeats 1600000 in
theorem number_any {w : World} {va vb : Value} {xs ys : List Int} (ha : Sl w.heap.size w va xs) (hb : Sl w.heap.size w vb ys) (hT : Tab w) (la : xs.length ≤ 1048576) (lb : ys.length ≤ 1048576) (kind : Int) {n : Int} (hn0 : -9223372036854775808 ≤ n) (hn : n ≤ 9223372036854775807) :
    Calls Tryd.prog 38 #[.int .i64 kind, va, vb, .int .i64 n] w fun e w' => ∃ r, e = .returned (.int .i64 r) ∧ NumIs kind xs ys n r ∧ Below w.heap.size w w' := by
  by_cases k4 : kind = 4
  · subst k4
    have HC := hid (cmp_now ha hb)
    clear ha hb hT
    go_enter Tryd.func38, Tryd.ntmps38
    go_wp2_with fail
    refine HC.out.mono ?_
    rintro e w1 ⟨rfl, hb1⟩
    generalize hv : cmpI (val xs) (val ys) = V
    have HV := hid hv
    clear hv HC
    go_wp2
    go_ret
    exact ⟨_, rfl, .inl ⟨rfl, HV.out.symm⟩, hb1⟩
  by_cases k8 : kind = 8
  · subst k8
    have HC := hid (bitLen_now ha)
    clear ha hb hT
    go_enter Tryd.func38, Tryd.ntmps38
    go_wp2_with fail
    refine HC.out.mono ?_
    rintro e w1 ⟨rfl, hb1⟩
    generalize hv : bitLen (vn xs) = V
    have HV := hid hv
    clear hv HC
    go_wp2
    go_ret
    exact ⟨_, rfl, .inr (.inl ⟨rfl, by rw [HV.out]⟩), hb1⟩
  by_cases k9 : kind = 9
  · subst k9
    have HC := hid (twos_now ha hT)
    clear ha hb hT
    go_enter Tryd.func38, Tryd.ntmps38
    go_wp2_with fail
    refine HC.out.mono ?_
    rintro e w1 ⟨r, rfl, ht, hb1⟩
    have HTW := hid ht
    clear ht
    go_wp2
    go_ret
    exact ⟨_, rfl, .inr (.inr (.inl ⟨rfl, HTW.out⟩)), hb1⟩
  by_cases k10 : kind = 10
  · subst k10
    have HC := hid (same_below (bit_any ha hn0 hn))
    clear ha hb hT
    go_enter Tryd.func38, Tryd.ntmps38
    go_wp2_with fail
    refine HC.out.mono ?_
    rintro e w1 ⟨rfl, hb1⟩
    generalize hv : bitAt (vn xs) n = V
    have HV := hid hv
    clear hv HC
    go_wp2
    go_ret
    exact ⟨_, rfl, .inr (.inr (.inr (.inl ⟨rfl, HV.out.symm⟩))), hb1⟩
  have b4 : (kind == 4) = false := by simp [k4]
  have b8 : (kind == 8) = false := by simp [k8]
  have b9 : (kind == 9) = false := by simp [k9]
  have b10 : (kind == 10) = false := by simp [k10]
  have HK := hid (show kind ≠ 4 ∧ kind ≠ 8 ∧ kind ≠ 9 ∧ kind ≠ 10 from ⟨k4, k8, k9, k10⟩)
  clear ha hb hT k4 k8 k9 k10
  go_enter Tryd.func38, Tryd.ntmps38
  go_wp2
  go_ret
  exact ⟨0, rfl, .inr (.inr (.inr (.inr ⟨HK.out.1, HK.out.2.1, HK.out.2.2.1, HK.out.2.2.2, rfl⟩))), Below.refl _ _⟩

set_option maxHeartbeats 1600000 in
theorem wantedNumber_any {w : World} {va vb : Value} {xs ys : List Int} (ha : Sl w.heap.size w va xs) (hb : Sl w.heap.size w vb ys) (hT : Tab w) (la : xs.length ≤ 1048576) (lb : ys.length ≤ 1048576) (kind : Int) {n : Int} (hn0 : -9223372036854775808 ≤ n) (hn : n ≤ 9223372036854775807) :
    Calls Tryd.prog 37 #[.int .i64 kind, va, vb, .int .i64 n] w fun e w' => ∃ r, e = .returned (.int .i64 r) ∧ NumIs kind xs ys n r ∧ Below w.heap.size w w' := by
  by_cases k4 : kind = 4
  · subst k4
    have HC := hid (rcmp_any ha hb (by omega) (by omega))
    clear ha hb hT
    go_enter Tryd.func37, Tryd.ntmps37
    go_wp2_with fail
    refine HC.out.mono ?_
    rintro e w1 ⟨rfl, hb1⟩
    generalize hv : cmpI (val xs) (val ys) = V
    have HV := hid hv
    clear hv HC
    go_wp2
    go_ret
    exact ⟨_, rfl, .inl ⟨rfl, HV.out.symm⟩, hb1⟩
  by_cases k8 : kind = 8
  · subst k8
    have HC := hid (rbitLen_any ha (by omega))
    clear ha hb hT
    go_enter Tryd.func37, Tryd.ntmps37
    go_wp2_with fail
    refine HC.out.mono ?_
    rintro e w1 ⟨rfl, hb1⟩
    generalize hv : bitLen (vn xs) = V
    have HV := hid hv
    clear hv HC
    go_wp2
    go_ret
    exact ⟨_, rfl, .inr (.inl ⟨rfl, by rw [HV.out]⟩), hb1⟩
  by_cases k9 : kind = 9
  · subst k9
    have HC := hid (rtwos_any ha (by omega))
    clear ha hb hT
    go_enter Tryd.func37, Tryd.ntmps37
    go_wp2_with fail
    refine HC.out.mono ?_
    rintro e w1 ⟨r, rfl, ht, hb1⟩
    have HTW := hid ht
    clear ht
    go_wp2
    go_ret
    exact ⟨_, rfl, .inr (.inr (.inl ⟨rfl, HTW.out⟩)), hb1⟩
  by_cases k10 : kind = 10
  · subst k10
    have HC := hid (rbit_any ha (by omega) hn0 hn)
    clear ha hb hT
    go_enter Tryd.func37, Tryd.ntmps37
    go_wp2_with fail
    refine HC.out.mono ?_
    rintro e w1 ⟨rfl, hb1⟩
    generalize hv : bitAt (vn xs) n = V
    have HV := hid hv
    clear hv HC
    go_wp2
    go_ret
    exact ⟨_, rfl, .inr (.inr (.inr (.inl ⟨rfl, HV.out.symm⟩))), hb1⟩
  have b4 : (kind == 4) = false := by simp [k4]
  have b8 : (kind == 8) = false := by simp [k8]
  have b9 : (kind == 9) = false := by simp [k9]
  have b10 : (kind == 10) = false := by simp [k10]
  have HK := hid (show kind ≠ 4 ∧ kind ≠ 8 ∧ kind ≠ 9 ∧ kind ≠ 10 from ⟨k4, k8, k9, k10⟩)
  clear ha hb hT k4 k8 k9 k10
  go_enter Tryd.func37, Tryd.ntmps37
  go_wp2
  go_ret
  exact ⟨0, rfl, .inr (.inr (.inr (.inr ⟨HK.out.1, HK.out.2.1, HK.out.2.2.1, HK.out.2.2.2, rfl⟩))), Below.refl _ _⟩

/-- The kinds that answer lists. -/
def isList (kind : Int) : Prop := kind = 1 ∨ kind = 2 ∨ kind = 3 ∨ kind = 5 ∨ kind = 6 ∨ kind = 7

set_option maxHeartbeats 3200000 in
theorem right_any {w : World} {va vb : Value} {xs ys : List Int} (ha : Sl w.heap.size w va xs) (hb : Sl w.heap.size w vb ys) (hT : Tab w) (la : xs.length ≤ 1048576) (lb : ys.length ≤ 1048576) (kind : Int) {n : Int} (hn0 : -9223372036854775808 ≤ n) (hn : n ≤ 9223372036854775807) :
    Calls Tryd.prog 26 #[.agg #[.int .i64 kind, va, vb, .int .i64 n]] w fun e w' => e = .returned (.bool true) ∧ Below w.heap.size w w' := by
  by_cases hk : isList kind
  · generalize hE : ansE kind xs ys n = E at *
    generalize hV : ansV kind xs ys n = V at *
    have HL := hid (fun (w : World) (ha : Sl w.heap.size w va xs) (hb : Sl w.heap.size w vb ys) => list_any ha hb la lb kind hn)
    have HW := hid (fun (w : World) (ha : Sl w.heap.size w va xs) (hb : Sl w.heap.size w vb ys) => wanted_any ha hb la lb kind hn)
    rw [hE, hV] at HL HW
    clear hE hV
    have HA := hid ha
    have HB := hid hb
    clear ha hb hT
    have hcase : (kind == 1) = true ∨ ((kind == 1) = false ∧ (kind == 2) = true) ∨ ((kind == 1) = false ∧ (kind == 2) = false ∧ (kind == 3) = true) ∨ ((kind == 1) = false ∧ (kind == 2) = false ∧ (kind == 3) = false ∧ (kind == 5) = true) ∨ ((kind == 1) = false ∧ (kind == 2) = false ∧ (kind == 3) = false ∧ (kind == 5) = false ∧ (kind == 6) = true) ∨ ((kind == 1) = false ∧ (kind == 2) = false ∧ (kind == 3) = false ∧ (kind == 5) = false ∧ (kind == 6) = false ∧ (kind == 7) = true) := by
      rcases hk with h | h | h | h | h | h <;> subst h <;> decide
    clear hk
    rcases hcase with c1 | ⟨c1, c2⟩ | ⟨c1, c2, c3⟩ | ⟨c1, c2, c3, c5⟩ | ⟨c1, c2, c3, c5, c6⟩ | ⟨c1, c2, c3, c5, c6, c7⟩
    all_goals
      go_enter Tryd.func26, Tryd.ntmps26
      go_wp2_with fail
      have kb := (Below.refl w.heap.size w).alloc (Nat.le_refl _) (.cells #[.int .i64 kind, va, vb, .int .i64 n] 27)
      refine (HW.out _ (HA.out.now kb) (HB.out.now kb)).mono ?_
      intro e w1 hans
      obtain ⟨zs, r, rfl, z1, cz, hz, k1⟩ := hans
      have HZ := hid hz
      have c0 : w1.cell? ⟨w.heap.size, 0, none⟩ = some (.int .i64 kind) := (k1.cell (p := ⟨w.heap.size, 0, none⟩) (by simp)).trans (by simp)
      have c1' : w1.cell? ⟨w.heap.size, 1, none⟩ = some va := (k1.cell (p := ⟨w.heap.size, 1, none⟩) (by simp)).trans (by simp)
      have c2' : w1.cell? ⟨w.heap.size, 2, none⟩ = some vb := (k1.cell (p := ⟨w.heap.size, 2, none⟩) (by simp)).trans (by simp)
      have c3' : w1.cell? ⟨w.heap.size, 3, none⟩ = some (.int .i64 n) := (k1.cell (p := ⟨w.heap.size, 3, none⟩) (by simp)).trans (by simp)
      have g1 := hid (below_step kb k1)
      clear hz kb k1 HW
      go_wp2_with fail
      refine (HL.out _ (HA.out.now g1.out) (HB.out.now g1.out)).mono ?_
      intro e w2 hans
      obtain ⟨ys', r', rfl, y1, cy, hy, k2⟩ := hans
      have HY := hid hy
      have z2 := z1.now k2
      have g2 := hid (below_step g1.out k2)
      have hee : (E == E) = true := by simp
      clear hy k2 z1 HL c0 c1' c2' c3'
      go_wp2_with fail
      refine (same_yes y1 z2 (canon_vn cy cz (by rw [HY.out, HZ.out]))).mono ?_
      rintro e w3 ⟨rfl, k3⟩
      have g3 := below_step g2.out k3
      clear k3 y1 z2
      go_wp2
      go_ret
      exact ⟨rfl, g3⟩
  · have HL := hid (fun (w : World) (ha : Sl w.heap.size w va xs) (hb : Sl w.heap.size w vb ys) (hT : Tab w) => number_any ha hb hT la lb kind hn0 hn)
    have HW := hid (fun (w : World) (ha : Sl w.heap.size w va xs) (hb : Sl w.heap.size w vb ys) (hT : Tab w) => wantedNumber_any ha hb hT la lb kind hn0 hn)
    have HA := hid ha
    have HB := hid hb
    have HT := hid hT
    have b1 : (kind == 1) = false := by rw [beq_eq_false_iff_ne]; exact fun h => hk (.inl h)
    have b2 : (kind == 2) = false := by rw [beq_eq_false_iff_ne]; exact fun h => hk (.inr (.inl h))
    have b3 : (kind == 3) = false := by rw [beq_eq_false_iff_ne]; exact fun h => hk (.inr (.inr (.inl h)))
    have b5 : (kind == 5) = false := by rw [beq_eq_false_iff_ne]; exact fun h => hk (.inr (.inr (.inr (.inl h))))
    have b6 : (kind == 6) = false := by rw [beq_eq_false_iff_ne]; exact fun h => hk (.inr (.inr (.inr (.inr (.inl h)))))
    have b7 : (kind == 7) = false := by rw [beq_eq_false_iff_ne]; exact fun h => hk (.inr (.inr (.inr (.inr (.inr h)))))
    clear ha hb hT hk
    go_enter Tryd.func26, Tryd.ntmps26
    go_wp2_with fail
    have kb := (Below.refl w.heap.size w).alloc (Nat.le_refl _) (.cells #[.int .i64 kind, va, vb, .int .i64 n] 27)
    refine (HW.out _ (HA.out.now kb) (HB.out.now kb) (HT.out.now kb)).mono ?_
    rintro e w1 ⟨r, rfl, hr, k1⟩
    have HR := hid hr
    have c0 : w1.cell? ⟨w.heap.size, 0, none⟩ = some (.int .i64 kind) := (k1.cell (p := ⟨w.heap.size, 0, none⟩) (by simp)).trans (by simp)
    have c1' : w1.cell? ⟨w.heap.size, 1, none⟩ = some va := (k1.cell (p := ⟨w.heap.size, 1, none⟩) (by simp)).trans (by simp)
    have c2' : w1.cell? ⟨w.heap.size, 2, none⟩ = some vb := (k1.cell (p := ⟨w.heap.size, 2, none⟩) (by simp)).trans (by simp)
    have c3' : w1.cell? ⟨w.heap.size, 3, none⟩ = some (.int .i64 n) := (k1.cell (p := ⟨w.heap.size, 3, none⟩) (by simp)).trans (by simp)
    have g1 := hid (below_step kb k1)
    clear hr kb k1 HW
    go_wp2_with fail
    refine (HL.out _ (HA.out.now g1.out) (HB.out.now g1.out) (HT.out.now g1.out)).mono ?_
    rintro e w2 ⟨s, rfl, hs, k2⟩
    obtain rfl := numIs_unique hs HR.out
    have g2 := hid (below_step g1.out k2)
    have hee : (s == s) = true := by simp
    clear hs k2 HL c0 c1' c2' c3' HR
    go_wp2
    go_ret
    exact ⟨rfl, g2.out⟩
end Go.Proofs.YthgnjjpoondidaaDoor
