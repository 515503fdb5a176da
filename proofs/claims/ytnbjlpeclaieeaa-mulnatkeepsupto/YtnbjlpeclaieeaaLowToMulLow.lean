/-
  LowToMulLow: Low, MulLow, joined.
-/
import Derived.Test.YtnbjlpeclaieeaaPowToMoved
import Derived.Test.YtnbjlpeclaieeaaMulAllToSteps

/- Low -/
namespace Go.Proofs.Ytnbjlpeclaieeaa
open Go.RowKit

theorem low_neg (v : Value) (w : World) {i : Int} (hi : i < 0) :
    Calls Try.prog 42 #[v, .int .i64 i] w fun e w' => e = .returned (.tuple #[.slice none 0 0, .int .i64 3]) ∧ w' = w := by
  go_enter Try.func42, Try.ntmps42
  go_wp2
  go_ret2
  exact ⟨rfl, rfl⟩

/-- The low part where the number has no more digits. -/
theorem low_whole {xs : List Int} (hw : WF xs) {n : Nat} (h : wid xs ≤ n / 64) : vn (lst xs) = vn xs % 2 ^ n := by
  rw [vn_lst hw, Nat.mod_eq_of_lt]
  rw [← vn_lst hw]
  have h1 := vn_lt (canon_lst hw).1
  rw [length_lst] at h1
  exact Nat.lt_of_lt_of_le h1 (Nat.pow_le_pow_right (by omega) (by omega))
/-- .. and where it is cut. -/
theorem low_cut {xs : List Int} (hw : WF xs) {n : Nat} (h : n / 64 < xs.length) : vn (xs.take (n / 64) ++ [xs[n / 64] % 2 ^ (n % 64)]) = vn xs % 2 ^ n := by
  have e : xs = xs.take (n / 64) ++ (xs[n / 64] :: xs.drop (n / 64 + 1)) := by rw [← List.drop_eq_getElem_cons h, List.take_append_drop]
  have hl : (xs.take (n / 64)).length = n / 64 := by simp; omega
  have hlo := vn_lt (hw.take (n / 64))
  rw [hl] at hlo
  have hx := hw.get h
  have hr : vn xs = vn (xs.take (n / 64)) + 2 ^ (64 * (n / 64)) * (xs[n / 64].toNat + 2 ^ 64 * vn (xs.drop (n / 64 + 1))) := by
    have q := vn_append (xs.take (n / 64)) (xs[n / 64] :: xs.drop (n / 64 + 1))
    rw [← e, hl, vn] at q
    exact q
  rw [hr, vn_append, hl]
  have hsp : 2 ^ n = 2 ^ (64 * (n / 64)) * 2 ^ (n % 64) := by rw [← Nat.pow_add, show 64 * (n / 64) + n % 64 = n by omega]
  generalize xs[n / 64] = x at *
  obtain ⟨X, rfl⟩ := Int.eq_ofNat_of_zero_le hx.1
  have h1 : vn [(X : Int) % 2 ^ (n % 64)] = X % 2 ^ (n % 64) := by
    have q : (X : Int) % 2 ^ (n % 64) = ((X % 2 ^ (n % 64) : Nat) : Int) := by simp
    rw [q]; generalize X % 2 ^ (n % 64) = y; simp [vn]
  rw [h1, Int.toNat_natCast, hsp]
  generalize vn (xs.drop (n / 64 + 1)) = R
  generalize vn (xs.take (n / 64)) = A at *
  have hq : 2 ^ 64 = 2 ^ (n % 64) * 2 ^ (64 - n % 64) := (pow_split (by omega)).symm
  have hA := Nat.two_pow_pos (64 * (n / 64))
  generalize 2 ^ (64 * (n / 64)) = P at *
  rw [Nat.mod_mul, Nat.add_mul_mod_self_left, Nat.mod_eq_of_lt hlo, Nat.add_mul_div_left _ _ hA, Nat.div_eq_of_lt hlo, Nat.zero_add, hq, Nat.mul_assoc, Nat.add_mul_mod_self_left]

theorem low_word {x : Int} {p : Nat} (hx : IsW x) (hp : p < 64) : bits BinOp.and IntKind.u64 x (IntKind.u64.wrap (IntKind.u64.wrap (2 ^ p) - 1)) = x % 2 ^ p := by
  have hl := toNat_lt hx
  obtain ⟨X, rfl⟩ := Int.eq_ofNat_of_zero_le hx.1
  simp only [Int.toNat_natCast] at hl
  have h1 := Nat.two_pow_pos p
  have h2 : 2 ^ p < 2 ^ 64 := Nat.pow_lt_pow_right (by omega) hp
  have e : IntKind.u64.wrap (IntKind.u64.wrap (2 ^ p) - 1) = ((2 ^ p - 1 : Nat) : Int) := by
    rw [cast_pow, IntKind.wrap_u64, IntKind.wrap_u64]
    generalize 2 ^ p = P at *
    omega
  rw [e, bits_and_u64_nat _ _ hl (by omega), Nat.and_two_pow_sub_one_eq_mod]
  simp
theorem mod_word {x : Int} {p : Nat} (hx : IsW x) : IsW (x % 2 ^ p) := by
  obtain ⟨X, rfl⟩ := Int.eq_ofNat_of_zero_le hx.1
  have q : (X : Int) % 2 ^ p = ((X % 2 ^ p : Nat) : Int) := by simp
  have := Nat.mod_le X (2 ^ p)
  unfold IsW wB at hx ⊢
  rw [q]; omega

set_option maxHeartbeats 1600000 in
theorem low_any {w : World} {v : Value} {xs : List Int} (h : Sl w.heap.size w v xs) {n : Nat} (hn : n ≤ 9223372036854775807) :
    Calls Try.prog 42 #[v, .int .i64 (n : Int)] w (Moved w (vn xs % 2 ^ n) (xs.length)) := by
  have hs := h
  have HW1 := width_any hs
  have l1 := wid_le xs
  by_cases hc : wid xs ≤ n / 64
  · have HE := hid (low_whole h.1 hc)
    have HLst := hid (least_any hs)
    have HX := hid h.1
    have HS : Hid (xs.length ≤ 35184372088832) := by obtain ⟨_, _, _, _, q1, q2, _⟩ := h; unfold Hid; omega
    have hci : (wid xs : Int) ≤ (n : Int) / 64 := by omega
    clear h hs
    go_enter Try.func42, Try.ntmps42
    go_wp2_with fail
    refine HW1.mono ?_
    rintro e w1 ⟨rfl, rfl⟩
    clear HW1
    go_wp2_with fail
    refine HLst.out.mono ?_
    rintro e w2 ⟨rfl, hrow, hb, hsz⟩
    go_wp2
    go_ret2
    have hm := moved_row (w := w1) (k := xs.length) (canon_lst HX.out).1 (length_lst xs) (by have := HS.out; omega) hrow HE.out l1 hb
    rw [wid_lst] at hm
    exact hm
  · obtain ⟨hw, a, cap, rfl, hlc, hcm, hm⟩ := h
    have hci : ¬ (wid xs : Int) ≤ (n : Int) / 64 := by omega
    have hix : n / 64 < xs.length := by omega
    have HE := hid (low_cut hw hix)
    have hsrc := Sl.source (n := n / 64 + 1) hm
    have HSRC := hid hsrc
    have HL : Hid ((xs.take (n / 64 + 1)).length = n / 64 + 1) := by unfold Hid; simp; omega
    have HTK : Hid (xs.take (n / 64 + 1) = xs.take (n / 64) ++ [xs[n / 64]]) := List.take_succ_eq_append_getElem hix
    have HWT := hid (hw.take (n / 64))
    have HXW := hid (hw.get hix)
    have HTL : Hid ((xs.take (n / 64)).length = n / 64) := by unfold Hid; simp; omega
    generalize xs.take (n / 64 + 1) = L at *
    generalize xs.take (n / 64) = M at *
    generalize xs[n / 64] = x at *
    clear hm hsrc hs hw
    go_enter Try.func42, Try.ntmps42
    go_wp2_with fail
    refine HW1.mono ?_
    rintro e w1 ⟨rfl, rfl⟩
    clear HW1
    go_wp2_with (at_make; refine wpList_make_words _ rfl _ _ rfl _ _ (n / 64 + 1) (n / 64 + 1) rfl rfl (by omega) (by omega) (Nat.le_refl _) (by omega) ?_)
    intro w2 hrow hb2 hsz2
    have hsrc2 := hid (Sl.sourceB HSRC.out hb2 (Nat.le_refl _))
    go_wp2_with (refine wpList_copy_words _ rfl (.tmp 24) (.tmp 28) rfl w1.heap.size (n / 64 + 1) (n / 64 + 1) _ _ _ L hrow rfl rfl HL.out (Nat.le_refl _) hsrc2.out ?_)
    intro w3 hrow3 hb3
    have hr3 : Row w3 w1.heap.size (ws (M ++ [x])) := by rw [← HTK.out]; simpa using hrow3
    have hb13 := hid (hb2.trans hb3)
    have hix2 : n / 64 < (M ++ [x]).length := by simp; have := HTL.out; omega
    have c1 : w3.cell? ⟨w1.heap.size, n / 64, none⟩ = some (.int .u64 x) := by
      have := Row.word (r := []) (by simpa using hr3) hix2
      rw [this]
      have h2 := HTL.out
      simp [h2]
    have cf : w3.frozen? ⟨w1.heap.size, n / 64, none⟩ = false := hr3.frozen _
    clear hrow hsrc2 hrow3 hb2 hb3 HSRC
    have i0 : (0 : Int) ≤ (n : Int) / 64 := by omega
    have i1 : (n : Int) / 64 < (n : Int) / 64 + 1 := by omega
    have HLW := hid (low_word HXW.out (p := n % 64) (Nat.mod_lt _ (by omega)))
    have HR := Row.setWord (r := []) (by simpa using hr3) hix2 (x % 2 ^ (n % 64))
    have hset : (M ++ [x]).set (n / 64) (x % 2 ^ (n % 64)) = M ++ [x % 2 ^ (n % 64)] := by
      rw [List.set_append_right _ _ (by have := HTL.out; omega), show n / 64 - M.length = 0 by have := HTL.out; omega]; rfl
    rw [hset] at HR
    have HRR := hid HR
    have HBB := hid (hb13.out.setCell (p := ⟨w1.heap.size, n / 64, none⟩) (Nat.le_refl _) (.int .u64 (x % 2 ^ (n % 64))))
    have HWZ : Hid (WF (M ++ [x % 2 ^ (n % 64)])) := HWT.out.append (WF.cons (mod_word HXW.out) WF.nil)
    have HLZ : Hid ((M ++ [x % 2 ^ (n % 64)]).length = n / 64 + 1) := by unfold Hid; simp; exact HTL.out
    clear hset HR
    go_wp2_with fail
    go_region
    rw [HLW.out]
    generalize x % 2 ^ (n % 64) = y at *
    generalize M ++ [y] = Z at *
    have hR : Row (w3.setCell ⟨w1.heap.size, n / 64, none⟩ (.int .u64 y)).drew w1.heap.size (ws Z) := Row.drewN (by simpa using HRR.out) 1
    have hB := HBB.out.drew
    clear HRR HBB c1 cf hr3 hb13
    generalize (w3.setCell ⟨w1.heap.size, n / 64, none⟩ (.int .u64 y)).drew = w4 at *
    go_wp2_with fail
    have hsz := Row.sl (r := []) (by simpa using hR) HWZ.out (cap := n / 64 + 1) (by rw [HLZ.out]; exact Nat.le_refl _) (by omega) hR.lt
    rw [HLZ.out] at hsz
    have HW4 := hid (width_any hsz)
    clear hsz
    refine HW4.out.mono ?_
    rintro e w5 ⟨rfl, rfl⟩
    clear HW4
    have l5 := wid_le Z
    have l6 : wid Z ≤ n / 64 + 1 := by have := HLZ.out; omega
    go_wp2
    go_ret2
    exact moved_row HWZ.out HLZ.out (by omega) hR HE.out (by omega) hB
end Go.Proofs.Ytnbjlpeclaieeaa

/- MulLow -/
namespace Go.Proofs.Ytnbjlpeclaieeaa
open Go.RowKit
set_option linter.unusedVariables false

theorem canon_vn2 {xs ys : List Int} (hx : Canon xs) (hy : Canon ys) (h : vn xs = vn ys) : xs = ys := canon_inj hx hy ((vn_eq hx.1 hy.1).1 h)
theorem vn_mul {xs ys zs : List Int} (hx : WF xs) (hy : WF ys) (hz : WF zs) (h : val zs = val xs * val ys) : vn zs = vn xs * vn ys := by
  rw [val_vn hx, val_vn hy, val_vn hz, ← Int.natCast_mul] at h
  omega
/-- One form for both. -/
def Moves (w : World) (s k : Nat) (e : Ending) (w' : World) : Prop :=
  ∃ zs a cap, e = .returned (.tuple #[.slice a zs.length cap, .int .i64 0]) ∧ Sl w'.heap.size w' (.slice a zs.length cap) zs ∧ Canon zs ∧ vn zs = s ∧ zs.length ≤ k ∧ Below w.heap.size w w'
theorem moves_of {w w' : World} {s k : Nat} {e : Ending} (h : Moved w s k e w') : Moves w s k e w' := by
  obtain ⟨zs, v, h1, h2, h3, h4, h5, h6⟩ := h
  obtain ⟨a, cap, rfl⟩ := h2.form
  exact ⟨zs, a, cap, h1, h2.sl, h3, h4, h5, h6⟩
theorem low_to {w : World} {v : Value} {xs : List Int} (h : Sl w.heap.size w v xs) {n : Nat} (hn : n ≤ 9223372036854775807) :
    Calls Try.prog 42 #[v, .int .i64 (n : Int)] w (Moves w (vn xs % 2 ^ n) xs.length) := (low_any h hn).mono fun _ _ h => moves_of h
theorem mulLow_neg (v u : Value) (w : World) {i : Int} (hi : i < 0) :
    Calls Try.prog 25 #[v, u, .int .i64 i] w fun e w' => e = .returned (.tuple #[.slice none 0 0, .int .i64 3]) ∧ Below w.heap.size w w' := by
  go_enter Try.func25, Try.ntmps25
  go_wp2
  go_ret2
  exact ⟨rfl, Below.refl _ _⟩

set_option maxHeartbeats 1600000 in
theorem mulLow_any {w : World} {va vb : Value} {xs ys : List Int} (ha : Sl w.heap.size w va xs) (hb : Sl w.heap.size w vb ys) (hl : xs.length + ys.length ≤ 35184372088832) {n : Nat} (hn : n ≤ 9223372036854775807) :
    Calls Try.prog 25 #[va, vb, .int .i64 (n : Int)] w (Moved w (vn xs * vn ys % 2 ^ n) (xs.length + ys.length)) := by
  go_enter Try.func25, Try.ntmps25
  go_wp2_with fail
  refine (low_to ha hn).mono ?_
  rintro e w1 ⟨P, pa, pc, rfl, p0, CP, HP, lp, k1⟩
  have b1 := hb.now k1
  have g1 := k1
  replace HP := hid HP
  clear ha hb k1
  go_wp2_with fail
  refine (low_to b1 hn).mono ?_
  rintro e w2 ⟨Q, qa, qc, rfl, q0, CQ, HQ, lq, k2⟩
  have p2 := p0.now k2
  have g2 := below_step g1 k2
  replace HQ := hid HQ
  clear p0 b1 g1 k2
  go_wp2_with fail
  refine (mul_now p2 q0 (by omega)).mono ?_
  rintro e w3 ⟨M, ma, mc, rfl, m0, CM, HM, lm, k3⟩
  have g3 := below_step g2 k3
  have HV := hid (vn_mul CP.1 CQ.1 CM.1 HM)
  clear p2 q0 g2 k3 HM
  go_wp2_with fail
  refine (low_any m0 hn).mono ?_
  rintro e w4 ⟨zs, v, rfl, h2, h3, h4, h5, h6⟩
  have g4 := below_step g3 h6
  have hv : vn zs = vn xs * vn ys % 2 ^ n := by
    rw [h4, HV.out, HP.out, HQ.out, ← Nat.mul_mod]
  have HH := hid hv
  have HO : Hid (Own w.heap.size w4 v zs) := by
    unfold Hid
    obtain ⟨o1, o2 | ⟨g, r, o2, o3⟩⟩ := h2
    · exact ⟨o1, .inl o2⟩
    · exact ⟨o1, .inr ⟨g, r, Nat.le_trans g3.size o2, o3⟩⟩
  clear h4 h6 m0 hv h2
  go_wp2
  go_ret2
  exact ⟨zs, v, rfl, HO.out, h3, HH.out, by omega, g4⟩
theorem mulLow_to {w : World} {va vb : Value} {xs ys : List Int} (ha : Sl w.heap.size w va xs) (hb : Sl w.heap.size w vb ys) (hl : xs.length + ys.length ≤ 35184372088832) {n : Nat} (hn : n ≤ 9223372036854775807) :
    Calls Try.prog 25 #[va, vb, .int .i64 (n : Int)] w (Moves w (vn xs * vn ys % 2 ^ n) (xs.length + ys.length)) := (mulLow_any ha hb hl hn).mono fun _ _ h => moves_of h
end Go.Proofs.Ytnbjlpeclaieeaa
