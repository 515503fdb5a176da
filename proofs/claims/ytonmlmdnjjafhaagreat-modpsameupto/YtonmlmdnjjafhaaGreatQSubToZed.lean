/-
  QSubToZed: Sub, Now, Mul, MulAll, Zed, joined.
-/
import Derived.Test.YtonmlmdnjjafhaaGreatQProdToMade
import Derived.Test.YtonmlmdnjjafhaaGreatQLitsToCmp
import Derived.Test.YtonmlmdnjjafhaaGreatQCutToAdd

/- Sub -/
namespace Go.Proofs.YtonmlmdnjjafhaaGreat
open Go.RowKit

theorem cmpI_neg {a b : Int} (h : a < b) : cmpI a b < 0 := by rw [cmpI_lt h]; omega
theorem cmpI_nonneg {a b : Int} (h : b ≤ a) : ¬ cmpI a b < 0 := by
  rcases Int.lt_or_eq_of_le h with q | q
  · rw [cmpI_gt q]; omega
  · rw [q, cmpI_self]; omega

set_option maxHeartbeats 800000 in
theorem sub_no {w : World} {v u : Value} {xs ys : List Int} (h : Sl w.heap.size w v xs) (h' : Sl w.heap.size w u ys) (hlt : val xs < val ys) :
    Calls Tryz.prog 119 #[v, u] w fun e w' => e = .returned (.tuple #[.slice none 0 0, .int .i64 3]) ∧ ∃ n, w' = w.drewN n := by
  have HC := cmp_any h h'
  have hn := cmpI_neg hlt
  generalize cmpI (val xs) (val ys) = C at *
  clear h h' hlt
  go_enter Tryz.func119, Tryz.ntmps119
  go_wp2_with fail
  refine HC.mono ?_
  rintro e w1 ⟨rfl, n, rfl⟩
  clear HC
  go_wp2
  go_ret2
  exact ⟨rfl, n, rfl⟩

/-- What Sub answers where there is something to take off. -/
def Taken (w : World) (s : Int) (k : Nat) (e : Ending) (w' : World) : Prop :=
  ∃ zs cap r, e = .returned (.tuple #[.slice (some ⟨w.heap.size, 0, none⟩) zs.length cap, .int .i64 0]) ∧ Canon zs ∧ val zs = s ∧ zs.length ≤ k ∧ cap = zs.length + r.length ∧ cap ≤ 35184372088832 ∧
    Row w' w.heap.size (ws zs ++ r) ∧ Below w.heap.size w w' ∧ w.heap.size < w'.heap.size

set_option maxHeartbeats 800000 in
theorem sub_yes {w : World} {v u : Value} {xs ys : List Int} (h : Sl w.heap.size w v xs) (h' : Sl w.heap.size w u ys) (hge : val ys ≤ val xs) :
    Calls Tryz.prog 119 #[v, u] w (Taken w (val xs - val ys) (wid xs)) := by
  have hs := h
  have hs' := h'
  obtain ⟨hw, a, cap, rfl, hlc, hcm, hm⟩ := h
  obtain ⟨hw', a', cap', rfl, hlc', hcm', hm'⟩ := h'
  have HC := cmp_any hs hs'
  have hn := cmpI_nonneg hge
  generalize cmpI (val xs) (val ys) = C at *
  have l1 := wid_le xs
  have l2 := wid_le ys
  have HWW : Hid (wid ys ≤ wid xs) := by
    unfold Hid
    by_cases q : wid xs < wid ys
    · have := val_wid_lt hw hw' q; omega
    · omega
  have HL1 : Hid ((lst xs).length = wid xs) := length_lst xs
  have HL2 : Hid ((lst ys).length = wid ys) := length_lst ys
  have HC1 := hid (canon_lst hw)
  have HC2 := hid (canon_lst hw')
  have HV1 := hid (val_lst xs)
  have HV2 := hid (val_lst ys)
  have HS1 := hid hs
  have HS2 := hid hs'
  have hsrc' := Sl.source (n := wid ys) hm'
  change lst ys = [] ∨ ∃ b off, a' = some ⟨b, off, none⟩ ∧ b < w.heap.size ∧ ∀ j (h : j < (lst ys).length), w.cell? ⟨b, off + j, none⟩ = some (.int .u64 (lst ys)[j]) at hsrc'
  have HSR := hid hsrc'
  have HGE := hid hge
  clear hm hm' hw hw' hs hs' hsrc' hge
  go_enter Tryz.func119, Tryz.ntmps119
  go_wp2_with fail
  refine HC.mono ?_
  rintro e w1 ⟨rfl, n, rfl⟩
  clear HC
  go_wp2_with fail
  refine (least_any (w := w.drewN n) (HS1.out.drewN n)).mono ?_
  rintro e w2 ⟨rfl, hrow, hb2, hsz2⟩
  change Row w2 w.heap.size _ at hrow
  change Below w.heap.size _ w2 at hb2
  change w.heap.size < w2.heap.size at hsz2
  have hb02 : Below w.heap.size w w2 := (below_drewN (Below.refl _ _) n).trans hb2
  go_wp2_with fail
  have HW2 := width_any (HS2.out.below hb02 (Nat.le_refl _))
  refine HW2.mono ?_
  rintro e w3 ⟨rfl, rfl⟩
  clear HW2
  have hsl := Sl.sourceB HSR.out hb02 (Nat.le_refl _)
  have hsl2 : Sl w.heap.size w3 (.slice a' (wid ys) cap') (lst ys) := ⟨HC2.out.1, _, cap', by rw [HL2.out], by rw [HL2.out]; omega, by rw [HL2.out]; omega, hsl⟩
  have hT := takeFrom_any (r := []) (cap := wid xs) HC1.out.1 (by simpa using hrow) (by rw [HL1.out]; omega) hsl2 (by rw [HL1.out, HL2.out]; exact HWW.out) (by rw [HV1.out, HV2.out]; exact HGE.out)
  rw [HL1.out] at hT
  have HT := hid hT
  clear hT hsl hsl2
  have HB := hid hb02
  clear hb02 hb2 hrow
  go_wp2_with fail
  refine HT.out.mono ?_
  rintro e w4 ⟨zs, rfl, hzl, hwz, hv, hr4, hb4⟩
  have hb04 := hid (HB.out.trans hb4)
  have hhs4 : w.heap.size < w4.heap.size := Nat.lt_of_lt_of_le hsz2 hb4.size
  have HV4 := hid hv
  have HZL := hid hzl
  clear hv hzl hb4 HB HT hsz2
  go_wp2_with fail
  have hsz := hr4.sl hwz (cap := wid xs) (by rw [HZL.out]; exact Nat.le_refl _) (by omega) hhs4
  rw [HZL.out] at hsz
  have HW4 := hid (width_any hsz)
  clear hsz
  refine HW4.out.mono ?_
  rintro e w5 ⟨rfl, rfl⟩
  clear HW4
  have l5 := wid_le zs
  have l6 : wid zs ≤ wid xs := by have := HZL.out; omega
  go_wp2
  go_ret2
  refine ⟨lst zs, wid xs, ws (zs.drop (wid zs)), by rw [length_lst]; rfl, canon_lst hwz, ?_, ?_, ?_, by omega, ?_, hb04.out, hhs4⟩
  · rw [val_lst, HV4.out, HV1.out, HV2.out]
  · rw [length_lst]; exact l6
  · rw [length_lst, length_ws, List.length_drop, HZL.out]; omega
  · have e : ws (lst zs) ++ ws (zs.drop (wid zs)) = ws zs ++ [] := by
      unfold lst ws
      rw [← List.map_append, List.take_append_drop, List.append_nil]
    rw [e]; exact hr4
end Go.Proofs.YtonmlmdnjjafhaaGreat

/- Now -/
namespace Go.Proofs.YtonmlmdnjjafhaaGreat
open Go.RowKit

theorem below_step {w0 w w' : World} (h : Below w0.heap.size w0 w) (k : Below w.heap.size w w') : Below w0.heap.size w0 w' := h.trans (k.mono h.size)

theorem add_now {w : World} {v u : Value} {xs ys : List Int} (h : Sl w.heap.size w v xs) (h' : Sl w.heap.size w u ys) (hl : xs.length < 35184372088832) (hl' : ys.length < 35184372088832) :
    Calls Tryz.prog 118 #[v, u] w fun e w' => ∃ zs r, e = .returned r ∧ Sl w'.heap.size w' r zs ∧ Canon zs ∧ val zs = val xs + val ys ∧ (zs.length ≤ xs.length + 1 ∨ zs.length ≤ ys.length + 1) ∧ Below w.heap.size w w' :=
  (add_any h h' hl hl').mono fun e w' hadd => by
    obtain ⟨zs, r, h1, h2, h3, h4, h5, h6⟩ := added_sl hadd
    exact ⟨zs, r, h1, h2, h3, h4, by have := wid_le xs; have := wid_le ys; omega, h6⟩
theorem least_now {w : World} {v : Value} {xs : List Int} (h : Sl w.heap.size w v xs) :
    Calls Tryz.prog 97 #[v] w fun e w' => ∃ r, e = .returned r ∧ Sl w'.heap.size w' r (lst xs) ∧ Below w.heap.size w w' :=
  (least_any h).mono fun e w' ⟨h1, h2, h3, h4⟩ => by
    have hx := h.1
    obtain ⟨_, a, cap, _, h6, h7, _⟩ := h
    have := wid_le xs
    have hs := Row.sl (r := []) (xs := lst xs) (by simpa using h2) (canon_lst hx).1 (cap := wid xs) (by rw [length_lst]; exact Nat.le_refl _) (by omega) h4
    rw [length_lst] at hs
    exact ⟨_, h1, hs, h3⟩
theorem same_now {w : World} {v u : Value} {xs ys : List Int} (h : Sl w.heap.size w v xs) (h' : Sl w.heap.size w u ys) :
    Calls Tryz.prog 76 #[v, u] w fun e w' => e = .returned (.bool (same xs ys)) ∧ Below w.heap.size w w' :=
  (same_any h h').mono fun e w' ⟨h1, n, h2⟩ => ⟨h1, by subst h2; exact below_drewN (Below.refl _ _) n⟩
theorem same_yes {w : World} {v u : Value} {xs ys : List Int} (h : Sl w.heap.size w v xs) (h' : Sl w.heap.size w u ys) (he : xs = ys) :
    Calls Tryz.prog 76 #[v, u] w fun e w' => e = .returned (.bool true) ∧ Below w.heap.size w w' := by
  have := same_now h h'
  subst he
  rwa [same_self] at this
theorem cmp_now {w : World} {v u : Value} {xs ys : List Int} (h : Sl w.heap.size w v xs) (h' : Sl w.heap.size w u ys) :
    Calls Tryz.prog 120 #[v, u] w fun e w' => e = .returned (.int .i64 (cmpI (val xs) (val ys))) ∧ Below w.heap.size w w' :=
  (cmp_any h h').mono fun e w' ⟨h1, n, h2⟩ => ⟨h1, by subst h2; exact below_drewN (Below.refl _ _) n⟩
theorem sub_now {w : World} {v u : Value} {xs ys : List Int} (h : Sl w.heap.size w v xs) (h' : Sl w.heap.size w u ys) (hge : val ys ≤ val xs) :
    Calls Tryz.prog 119 #[v, u] w fun e w' => ∃ zs a cap, e = .returned (.tuple #[.slice a zs.length cap, .int .i64 0]) ∧ Sl w'.heap.size w' (.slice a zs.length cap) zs ∧ Canon zs ∧ val zs = val xs - val ys ∧ zs.length ≤ xs.length ∧ Below w.heap.size w w' :=
  (sub_yes h h' hge).mono fun e w' ht => by
    obtain ⟨zs, cap, r, h1, h2, h3, h4, h5, h6, h7, h8, h9⟩ := ht
    exact ⟨zs, _, cap, h1, h7.sl h2.1 (by omega) h6 h9, h2, h3, by have := wid_le xs; omega, h8⟩
theorem sub_not {w : World} {v u : Value} {xs ys : List Int} (h : Sl w.heap.size w v xs) (h' : Sl w.heap.size w u ys) (hlt : val xs < val ys) :
    Calls Tryz.prog 119 #[v, u] w fun e w' => e = .returned (.tuple #[.slice none 0 0, .int .i64 3]) ∧ Below w.heap.size w w' :=
  (sub_no h h' hlt).mono fun e w' ⟨h1, n, h2⟩ => ⟨h1, by subst h2; exact below_drewN (Below.refl _ _) n⟩
theorem Sl.nil (w : World) : Sl w.heap.size w (.slice Option.none 0 0) [] := Sl.nilAt w
end Go.Proofs.YtonmlmdnjjafhaaGreat

/- Mul -/
namespace Go.Proofs.YtonmlmdnjjafhaaGreat
open Go.RowKit
set_option linter.unusedVariables false

theorem val_halves_any (xs : List Int) (n : Nat) : val xs = val (xs.take n) + pw n * val (xs.drop n) := by
  by_cases h : n ≤ xs.length
  · exact val_halves xs h
  · rw [List.take_of_length_le (by omega), List.drop_of_length_le (by omega)]
    simp [val]
theorem high_lt {l S : Int} {n N : Nat} (h : l + pw n * S < pw (n + N)) (hl : 0 ≤ l) : S < pw N := by
  rw [pw_plus] at h
  exact Int.lt_of_mul_lt_mul_left (show pw n * S < pw n * pw N by omega) (Int.le_of_lt (pw_pos n))
theorem prod_len {xs ys zs : List Int} (hx : WF xs) (hy : WF ys) (hz : Canon zs) (h : val zs = val xs * val ys) : zs.length ≤ xs.length + ys.length :=
  canon_len hz (by rw [h]; exact val_mul_lt hx hy)
theorem mine_row {B : Nat} {w : World} {g k : Nat} {zs : List Int} (hB : B ≤ g) (hw : WF zs) (hk : zs.length = k) (hl : k ≤ 35184372088832) (hr : Row w g (ws zs)) : Mine B w (.slice (some ⟨g, 0, none⟩) k k) zs := by
  subst hk
  exact ⟨hw, .inr ⟨g, [], zs.length, hB, hl, Nat.le_refl _, by simp, rfl, by simpa using hr⟩⟩
theorem join_len (xs ys : List Int) {n : Nat} (h : xs.length ≤ n) : (xs ++ List.replicate (n - xs.length) 0 ++ ys).length = n + ys.length := by
  simp
  omega

/-- The end of byTwoHalves. -/
theorem two_end {xs ys P Q S : List Int} {n : Nat} (hx : Canon xs) (hy : Canon ys) (hn : n < xs.length) (hy0 : ys ≠ []) (hP : Canon P) (vP : val P = val (xs.take n) * val ys) (vQ : val Q = val (xs.drop n) * val ys) (hS : Canon S) (vS : val S = val Q + val (P.drop n)) :
    (P.take n).length ≤ n ∧ n + S.length ≤ xs.length + ys.length ∧ Canon (P.take n ++ List.replicate (n - (P.take n).length) 0 ++ S) ∧ val (P.take n ++ List.replicate (n - (P.take n).length) 0 ++ S) = val xs * val ys := by
  have hl : (P.take n).length ≤ n := by simp; omega
  have hj := val_join (P.take n) S hl
  have hv : val (P.take n) + pw n * val S = val xs * val ys := two_halves (n := n) (val_halves_any xs n) vP (val_halves_any P n) (by rw [vS, vQ]) rfl
  have hlt := val_mul_lt hx.1 hy.1
  rw [← hv] at hlt
  have h0 := val_nonneg (hP.1.take n)
  have hS0 : S ≠ [] := by
    refine canon_ne ?_
    have h1 : 0 < val (xs.drop n) := canon_pos (canon_drop n hx) (by intro e; have := congrArg List.length e; simp at this; omega)
    have h2 := canon_pos hy hy0
    have h3 := Int.mul_pos h1 h2
    have h4 := val_nonneg (hP.1.rest n)
    rw [vS, vQ]
    omega
  refine ⟨hl, ?_, canon_join n (hP.1.take n) hS hS0, by rw [hj, hv]⟩
  have h5 : xs.length + ys.length = n + (xs.length + ys.length - n) := by omega
  rw [h5] at hlt
  have := canon_len hS (high_lt hlt h0)
  omega

/-- The end of byFourHalves. -/
theorem four_end {xs ys LL HH SA SB SS T X Y Z : List Int} {n : Nat} (hx : Canon xs) (hy : Canon ys) (hn : n < xs.length) (hn' : n < ys.length)
    (hLL : Canon LL) (vLL : val LL = val (xs.take n) * val (ys.take n)) (hHH : Canon HH) (vHH : val HH = val (xs.drop n) * val (ys.drop n))
    (vSA : val SA = val (xs.take n) + val (xs.drop n)) (vSB : val SB = val (ys.take n) + val (ys.drop n)) (vSS : val SS = val SA * val SB) (vT : val T = val LL + val HH) (vX : val X = val SS - val T)
    (hY : Canon Y) (vY : val Y = val X + val (LL.drop n)) (hZ : Canon Z) (vZ : val Z = val HH + val (Y.drop n)) :
    (LL.take n).length ≤ n ∧ (Y.take n).length ≤ n ∧ n + (n + Z.length) ≤ xs.length + ys.length ∧
    Canon (LL.take n ++ List.replicate (n - (LL.take n).length) 0 ++ (Y.take n ++ List.replicate (n - (Y.take n).length) 0 ++ Z)) ∧
    val (LL.take n ++ List.replicate (n - (LL.take n).length) 0 ++ (Y.take n ++ List.replicate (n - (Y.take n).length) 0 ++ Z)) = val xs * val ys := by
  have hl : (LL.take n).length ≤ n := by simp; omega
  have hm : (Y.take n).length ≤ n := by simp; omega
  have hj1 := val_join (Y.take n) Z hm
  have hj := val_join (LL.take n) (Y.take n ++ List.replicate (n - (Y.take n).length) 0 ++ Z) hl
  rw [hj1] at hj
  have hv : val (LL.take n) + pw n * (val (Y.take n) + pw n * val Z) = val xs * val ys :=
    four_halves (n := n) (val_halves_any xs n) (val_halves_any ys n) vLL vHH vSA vSB vSS vT vX (val_halves_any LL n) vY (val_halves_any Y n) vZ rfl
  have hlt := val_mul_lt hx.1 hy.1
  rw [← hv] at hlt
  have h0 := val_nonneg (hLL.1.take n)
  have h0' := val_nonneg (hY.1.take n)
  have hZ0 : Z ≠ [] := by
    refine canon_ne ?_
    have h1 : 0 < val (xs.drop n) := canon_pos (canon_drop n hx) (by intro e; have := congrArg List.length e; simp at this; omega)
    have h2 : 0 < val (ys.drop n) := canon_pos (canon_drop n hy) (by intro e; have := congrArg List.length e; simp at this; omega)
    have h3 := Int.mul_pos h1 h2
    have h4 := val_nonneg (hY.1.rest n)
    rw [vZ, vHH]
    omega
  have c1 := canon_join n (hY.1.take n) hZ hZ0
  have c1' : Y.take n ++ List.replicate (n - (Y.take n).length) 0 ++ Z ≠ [] := by
    intro e
    exact hZ0 (List.append_eq_nil_iff.1 e).2
  refine ⟨hl, hm, ?_, canon_join n (hLL.1.take n) c1 c1', by rw [hj, hv]⟩
  have h5 : xs.length + ys.length = n + (n + (xs.length + ys.length - n - n)) := by omega
  rw [h5] at hlt
  have h6 := high_lt hlt h0
  have := canon_len hZ (high_lt h6 h0')
  omega

end Go.Proofs.YtonmlmdnjjafhaaGreat

/- MulAll -/
namespace Go.Proofs.YtonmlmdnjjafhaaGreat
open Go.RowKit
set_option linter.unusedVariables false

theorem Makes.as {w w' : World} {s t : Int} {e : Ending} (h : Makes w s e w') (hst : s = t) : Makes w t e w' := by subst hst; exact h

/-- What comes out, as the laws want it. -/
def Gives (w : World) (s : Int) (k : Nat) (e : Ending) (w' : World) : Prop :=
  ∃ zs a cap, e = .returned (.slice a zs.length cap) ∧ Sl w'.heap.size w' (.slice a zs.length cap) zs ∧ Canon zs ∧ val zs = s ∧ zs.length ≤ k ∧ Below w.heap.size w w'
theorem Makes.gives {w w' : World} {s : Int} {k : Nat} {e : Ending} (h : Makes w s e w') (hs : s < pw k) : Gives w s k e w' := by
  obtain ⟨zs, r, rfl, m1, m2, m3, m4⟩ := h
  obtain ⟨a, cap, rfl⟩ := m1.form
  exact ⟨zs, a, cap, rfl, m1.sl, m2, m3, canon_len m2 (by rw [m3]; exact hs), m4⟩
end Go.Proofs.YtonmlmdnjjafhaaGreat

/- Zed -/
namespace Go.Proofs.YtonmlmdnjjafhaaGreat
open Go.RowKit
set_option linter.unusedVariables false

/-- The integer of a sign and a list of words. -/
def iv (n : Bool) (xs : List Int) : Int := if n = true then -(val xs) else val xs
theorem iv_neg (xs : List Int) : iv true xs = -(val xs) := by simp [iv]
theorem iv_pos (xs : List Int) : iv false xs = val xs := by simp [iv]
theorem iv_nil (n : Bool) : iv n [] = 0 := by cases n <;> simp [iv, val]
theorem iv_not (n : Bool) (xs : List Int) : iv (!n) xs = -(iv n xs) := by cases n <;> simp [iv]

/-- An integer in whatever form, of at most k words. -/
def Zi (w : World) (v : Value) (z : Int) (k : Nat) : Prop :=
  ∃ n xs a c, v = .agg #[.bool n, .slice a xs.length c] ∧ Sl w.heap.size w (.slice a xs.length c) xs ∧ iv n xs = z ∧ xs.length ≤ k
/-- An integer in least form, its words in memory from block B on that is its own. -/
def Zm (B : Nat) (w : World) (v : Value) (z : Int) (k : Nat) : Prop :=
  ∃ n zs a c, v = .agg #[.bool n, .slice a zs.length c] ∧ Mine B w (.slice a zs.length c) zs ∧ Canon zs ∧ (zs = [] → n = false) ∧ iv n zs = z ∧ zs.length ≤ k

theorem Zi.now {w w' : World} {v : Value} {z : Int} {k : Nat} (h : Zi w v z k) (hb : Below w.heap.size w w') : Zi w' v z k := by
  obtain ⟨n, xs, a, c, h1, h2, h3, h4⟩ := h
  exact ⟨n, xs, a, c, h1, h2.now hb, h3, h4⟩
theorem Zi.more {w : World} {v : Value} {z : Int} {k l : Nat} (h : Zi w v z k) (hl : k ≤ l) : Zi w v z l := by
  obtain ⟨n, xs, a, c, h1, h2, h3, h4⟩ := h
  exact ⟨n, xs, a, c, h1, h2, h3, by omega⟩
theorem Zm.now {B : Nat} {w w' : World} {v : Value} {z : Int} {k : Nat} (h : Zm B w v z k) (hb : Below w.heap.size w w') : Zm B w' v z k := by
  obtain ⟨n, xs, a, c, h1, h2, h3, h4, h5, h6⟩ := h
  exact ⟨n, xs, a, c, h1, h2.below hb, h3, h4, h5, h6⟩
theorem Zm.more {B : Nat} {w : World} {v : Value} {z : Int} {k l : Nat} (h : Zm B w v z k) (hl : k ≤ l) : Zm B w v z l := by
  obtain ⟨n, xs, a, c, h1, h2, h3, h4, h5, h6⟩ := h
  exact ⟨n, xs, a, c, h1, h2, h3, h4, h5, by omega⟩
theorem Zm.mono {B B' : Nat} {w : World} {v : Value} {z : Int} {k : Nat} (h : Zm B w v z k) (hB : B' ≤ B) : Zm B' w v z k := by
  obtain ⟨n, xs, a, c, h1, h2, h3, h4, h5, h6⟩ := h
  exact ⟨n, xs, a, c, h1, h2.mono hB, h3, h4, h5, h6⟩
theorem Zm.zi {B : Nat} {w : World} {v : Value} {z : Int} {k : Nat} (h : Zm B w v z k) : Zi w v z k := by
  obtain ⟨n, xs, a, c, h1, h2, h3, h4, h5, h6⟩ := h
  exact ⟨n, xs, a, c, h1, h2.sl, h5, h6⟩

/-- The sign is told by the words: there is one form. -/
theorem iv_one {n m : Bool} {xs ys : List Int} (h : iv n xs = iv m ys) (hx : Canon xs) (hy : Canon ys) (hn : xs = [] → n = false) (hm : ys = [] → m = false) : n = m ∧ xs = ys := by
  have h1 := val_nonneg hx.1
  have h2 := val_nonneg hy.1
  have key : ∀ {zs : List Int}, Canon zs → zs ≠ [] → val zs ≠ 0 := fun hc hne e => hne (canon_zero hc e)
  cases n <;> cases m
  · simp only [iv_pos] at h
    exact ⟨rfl, canon_inj hx hy h⟩
  · simp only [iv_pos, iv_neg] at h
    have e : ys = [] := Classical.byContradiction fun q => key hy q (by omega)
    exact absurd (hm e) (by simp)
  · simp only [iv_pos, iv_neg] at h
    have e : xs = [] := Classical.byContradiction fun q => key hx q (by omega)
    exact absurd (hn e) (by simp)
  · simp only [iv_neg] at h
    exact ⟨rfl, canon_inj hx hy (by omega)⟩
/-- What comes out of a call that answers an integer. -/
def GivesZ (w : World) (z : Int) (k : Nat) (e : Ending) (w' : World) : Prop := ∃ r, e = .returned r ∧ Zm w.heap.size w' r z k ∧ Below w.heap.size w w'

/-- A sign for a list in least form. -/
theorem zm_of {B : Nat} {w : World} {n : Bool} {zs : List Int} {a : Option Addr} {c k : Nat} (h : Mine B w (.slice a zs.length c) zs) (hc : Canon zs) (hk : zs.length ≤ k) :
    Zm B w (.agg #[.bool (n && decide (0 < zs.length)), .slice a zs.length c]) (iv n zs) k := by
  refine ⟨_, zs, a, c, rfl, h, hc, fun e => by subst e; simp, ?_, hk⟩
  by_cases e : zs = []
  · subst e; simp [iv_nil]
  · have : 0 < zs.length := Nat.pos_of_ne_zero (fun q => e (List.eq_nil_of_length_eq_zero q))
    simp [this]
end Go.Proofs.YtonmlmdnjjafhaaGreat
