/-
  QLong3ToShr: Long3, Divide, Moved, Shl, Shr, joined.
-/
import Derived.Test.YtbalcjjeakdjkaaQDiv64ToGuess
import Derived.Deep.LoopGhost
import Derived.Test.YtbalcjjeakdjkaaQMadeToBits
import Derived.Test.YtbalcjjeakdjkaaQDivPureToShift

/- Long3 -/
namespace Go.Proofs.Ytbalcjjeakdjkaa
open Go.RowKit
set_option linter.unusedVariables false

theorem val_cut {zs : List Int} {j : Nat} (hj : j ≤ zs.length) : val zs = val (zs.take j) + pw j * val (zs.drop j) := by
  have h := val_append (zs.take j) (zs.drop j)
  rw [List.take_append_drop, show (zs.take j).length = j by simp; omega] at h
  exact h
theorem WF.dropped {xs : List Int} (h : WF xs) (n : Nat) : WF (xs.drop n) := fun x hx => h x (List.mem_of_mem_drop hx)
theorem split_eq {zs zs1 : List Int} {j : Nat} {X : Int} (h : WF zs) (h1 : WF zs1) (hl : zs1.length = zs.length) (hj : j ≤ zs.length) (he : val zs1 = val zs + pw j * X) : val (zs1.drop j) = val (zs.drop j) + X := by
  rw [val_cut hj, val_cut (zs := zs1) (j := j) (by omega)] at he
  have a1 := val_lt_pw (h.take j)
  have a2 := val_lt_pw (h1.take j)
  rw [show (zs.take j).length = j by simp; omega] at a1
  rw [show (zs1.take j).length = j by simp; omega] at a2
  have b1 := val_nonneg (h.take j)
  have b2 := val_nonneg (h1.take j)
  generalize val (zs.take j) = a at *
  generalize val (zs1.take j) = b at *
  generalize val (zs.drop j) = A at *
  generalize val (zs1.drop j) = B at *
  generalize pw j = P at *
  have e : P * (B - A - X) = a - b := by rw [Int.mul_sub, Int.mul_sub]; omega
  rcases Int.lt_trichotomy (B - A - X) 0 with q | q | q
  · have := Int.mul_le_mul_of_nonneg_left (show B - A - X ≤ -1 by omega) (show 0 ≤ P by omega)
    rw [Int.mul_neg, Int.mul_one] at this
    omega
  · omega
  · have := Int.mul_le_mul_of_nonneg_left (show 1 ≤ B - A - X by omega) (show 0 ≤ P by omega)
    rw [Int.mul_one] at this
    omega
theorem top_zero {zs : List Int} {n : Nat} (h : WF zs) (hn : n ≤ zs.length) (hv : val zs < pw n) : val (zs.drop n) = 0 := by
  rw [val_cut hn] at hv
  have b1 := val_nonneg (h.take n)
  have b2 := val_nonneg (h.dropped n)
  have hP := pw_pos n
  generalize val (zs.take n) = a at *
  generalize val (zs.drop n) = A at *
  generalize pw n = P at *
  by_cases q : A = 0
  · exact q
  · have := Int.mul_le_mul_of_nonneg_left (show 1 ≤ A by omega) (show 0 ≤ P by omega)
    rw [Int.mul_one] at this
    omega

/-- What is left of zs0 when the digits from k on are found. -/
def LongAt (zs0 bs qs zs : List Int) (k : Nat) : Prop :=
  zs.length = zs0.length ∧ WF zs ∧ qs.length + bs.length = zs0.length ∧ WF qs ∧ (∀ i (h : i < qs.length), i < k → qs[i] = 0) ∧ val zs0 = val qs * val bs + val zs ∧ val (zs.drop k) < val bs
/-- D times bs is taken off at the place j, c borrowed. -/
def DigitAt (zs bs zs1 : List Int) (j : Nat) (D c : Int) : Prop :=
  zs1.length = zs.length ∧ WF zs1 ∧ val zs1 - pw (j + bs.length + 1) * c = val zs - pw j * (val bs * D) ∧ zs1.drop (j + bs.length + 1) = zs.drop (j + bs.length + 1) ∧ val (zs.drop j) < (D + 1) * val bs ∧ IsW D

theorem LongAt.above {zs0 bs qs zs : List Int} {j : Nat} (h : LongAt zs0 bs qs zs (j + 1)) (hb : WF bs) (hj : j < qs.length) : val (zs.drop (j + bs.length + 1)) = 0 := by
  obtain ⟨h1, h2, h3, h4, h5, h6, h7⟩ := h
  have := top_zero (h2.dropped (j + 1)) (n := bs.length) (by rw [List.length_drop]; omega) (Int.lt_trans h7 (val_lt_pw hb))
  rw [List.drop_drop] at this
  rw [show j + bs.length + 1 = j + 1 + bs.length by omega]
  exact this
theorem LongAt.part {zs0 bs qs zs : List Int} {j : Nat} (h : LongAt zs0 bs qs zs (j + 1)) (hb : WF bs) (hj : j < qs.length) : val ((zs.drop j).take (bs.length + 1)) = val (zs.drop j) := by
  have ha := h.above hb hj
  obtain ⟨h1, h2, h3, h4, h5, h6, h7⟩ := h
  have := val_cut (zs := zs.drop j) (j := bs.length + 1) (by rw [List.length_drop]; omega)
  rw [List.drop_drop, ← Nat.add_assoc, ha, Int.mul_zero, Int.add_zero] at this
  exact this.symm
theorem LongAt.small {zs0 bs qs zs : List Int} {j : Nat} (h : LongAt zs0 bs qs zs (j + 1)) (hj : j < qs.length) : val (zs.drop j) < wB * val bs := by
  obtain ⟨h1, h2, h3, h4, h5, h6, h7⟩ := h
  have hz : j < zs.length := by omega
  rw [List.drop_eq_getElem_cons hz]
  have hw := h2.get hz
  show zs[j] + wB * val (zs.drop (j + 1)) < _
  unfold IsW wB at *
  omega
theorem DigitAt.first {zs0 bs qs zs zs1 : List Int} {j : Nat} {D c : Int} (h : LongAt zs0 bs qs zs (j + 1)) (hl : zs1.length = zs.length) (hw : WF zs1) (hv : val zs1 - pw (j + bs.length + 1) * c = val zs - pw j * (val bs * D)) (hd : zs1.drop (j + bs.length + 1) = zs.drop (j + bs.length + 1))
    (hg : val (zs.drop j) < (D + 1) * val bs) (hD : IsW D) : DigitAt zs bs zs1 j D c := ⟨hl, hw, hv, hd, hg, hD⟩
theorem DigitAt.one {zs0 bs qs zs zs1 : List Int} {j : Nat} {D c : Int} (hL : LongAt zs0 bs qs zs (j + 1)) (hb : WF bs) (hj : j < qs.length) (h : DigitAt zs bs zs1 j D c) :
    val (zs1.drop j) - pw (bs.length + 1) * c = val (zs.drop j) - D * val bs ∧ val (zs1.drop j) < pw (bs.length + 1) ∧ 0 ≤ val (zs1.drop j) := by
  have ha := hL.above hb hj
  obtain ⟨h1, h2, h3, h4, h5, h6, h7⟩ := hL
  obtain ⟨d1, d2, d3, d4, d5, d6⟩ := h
  refine ⟨?_, ?_, val_nonneg (d2.dropped j)⟩
  · have := split_eq (j := j) (X := pw (bs.length + 1) * c - val bs * D) h2 d2 d1 (by omega) (by
      rw [Nat.add_assoc, pw_add] at d3
      rw [Int.mul_sub, ← Int.mul_assoc]; omega)
    rw [this, Int.mul_comm D]; omega
  · have e := val_cut (zs := zs1.drop j) (j := bs.length + 1) (by rw [List.length_drop]; omega)
    rw [List.drop_drop, ← Nat.add_assoc, d4, ha, Int.mul_zero, Int.add_zero] at e
    rw [e]
    have := val_lt_pw ((d2.dropped j).take (bs.length + 1))
    rwa [show ((zs1.drop j).take (bs.length + 1)).length = bs.length + 1 by rw [List.length_take, List.length_drop]; omega] at this
theorem DigitAt.over {zs0 bs qs zs zs1 : List Int} {j : Nat} {D : Int} (hL : LongAt zs0 bs qs zs (j + 1)) (hb : WF bs) (hj : j < qs.length) (h : DigitAt zs bs zs1 j D 1) : val (zs.drop j) < D * val bs ∧ 1 ≤ D := by
  obtain ⟨e1, e2, e3⟩ := h.one hL hb hj
  have e4 : val (zs.drop j) < D * val bs := by omega
  refine ⟨e4, ?_⟩
  have e5 := val_nonneg (hL.2.1.dropped j)
  have e6 := h.2.2.2.2.2.1
  by_cases q : D = 0
  · subst q; omega
  · omega
theorem DigitAt.step {zs0 bs qs zs zs1 zs2 : List Int} {j : Nat} {D c : Int} (hL : LongAt zs0 bs qs zs (j + 1)) (hb : WF bs) (hj : j < qs.length) (h : DigitAt zs bs zs1 j D 1) (hl : zs2.length = zs1.length) (hw : WF zs2)
    (hv : val zs2 + pw (j + bs.length + 1) * c = val zs1 + pw j * val bs) (hd : zs2.drop (j + bs.length + 1) = zs1.drop (j + bs.length + 1)) : DigitAt zs bs zs2 j (D - 1) (1 - c) := by
  obtain ⟨e4, e5⟩ := h.over hL hb hj
  obtain ⟨d1, d2, d3, d4, d5, d6⟩ := h
  refine ⟨hl.trans d1, hw, ?_, hd.trans d4, by rw [Int.sub_add_cancel]; exact e4, by unfold IsW wB at *; omega⟩
  rw [Int.mul_sub, Int.mul_one, Int.mul_sub, Int.mul_one, Int.mul_sub]
  omega
theorem LongAt.next {zs0 bs qs zs zs1 : List Int} {j : Nat} {D : Int} (hL : LongAt zs0 bs qs zs (j + 1)) (hb : WF bs) (hj : j < qs.length) (h : DigitAt zs bs zs1 j D 0) : LongAt zs0 bs (qs.set j D) zs1 j := by
  obtain ⟨e1, e2, e3⟩ := h.one hL hb hj
  obtain ⟨h1, h2, h3, h4, h5, h6, h7⟩ := hL
  obtain ⟨d1, d2, d3, d4, d5, d6⟩ := h
  refine ⟨d1.trans h1, d2, by rw [List.length_set]; exact h3, h4.set j d6, fun i hi hij => ?_, ?_, ?_⟩
  · rw [List.getElem_set_ne (by omega)]; exact h5 i (by simpa using hi) (by omega)
  · rw [val_set qs j D hj, h5 j hj (by omega), Int.sub_zero, Int.add_mul, h6]
    rw [Int.mul_zero, Int.sub_zero] at d3
    rw [d3]
    have : D * pw j * val bs = pw j * (val bs * D) := by rw [Int.mul_comm D, Int.mul_assoc, Int.mul_comm D]
    omega
  · rw [Int.add_mul, Int.one_mul] at d5
    omega
theorem LongAt.start {zs0 bs : List Int} {m : Nat} (h : WF zs0) (hl : m + bs.length = zs0.length) (hv : val (zs0.drop m) < val bs) : LongAt zs0 bs (List.replicate m 0) zs0 m := by
  have hz : WF (List.replicate m 0) := fun x hx => by rw [List.eq_of_mem_replicate hx]; unfold IsW wB; omega
  refine ⟨rfl, h, by simpa using hl, hz, fun i hi _ => by simp, ?_, hv⟩
  have : val (List.replicate m 0) = 0 := by rw [val_vn hz, vn_zeros (fun x hx => List.eq_of_mem_replicate hx)]; rfl
  rw [this]; omega
end Go.Proofs.Ytbalcjjeakdjkaa

/- Divide -/
namespace Go.Proofs.Ytbalcjjeakdjkaa
open Go.RowKit
set_option linter.unusedVariables false

theorem row_part {w : World} {g : Nat} {zs : List Int} {r : List Value} (h : Row w g (ws zs ++ r)) (hw : WF zs) {j n cap : Nat} (hl : j + n ≤ zs.length) (hn : n ≤ 35184372088832) (hc : n ≤ cap) {B : Nat} (hB : g < B) :
    Sl B w (.slice (some ⟨g, j, none⟩) n cap) ((zs.drop j).take n) := by
  have e : ((zs.drop j).take n).length = n := by rw [List.length_take, List.length_drop]; omega
  refine ⟨(hw.dropped j).take n, some ⟨g, j, none⟩, cap, by rw [e], by rw [e]; exact hc, by rw [e]; exact hn, .inr ⟨g, j, rfl, hB, fun i hi => ?_⟩⟩
  rw [e] at hi
  rw [h.word (i := j + i) (by omega)]
  simp

/-- What divide answers: the quotient in a row of its own, the rest in its place. -/
def Divided (g m : Nat) (r : List Value) (zs0 bs : List Int) (w : World) (e : Ending) (w' : World) : Prop :=
  ∃ qs zs, e = .returned (.slice (some ⟨w.heap.size, 0, none⟩) m m) ∧ qs.length = m ∧ WF qs ∧ zs.length = zs0.length ∧ WF zs ∧ val zs0 = val qs * val bs + val zs ∧ val zs < val bs ∧ Row w' g (ws zs ++ r) ∧ Row w' w.heap.size (ws qs) ∧ Below g w w'

end Go.Proofs.Ytbalcjjeakdjkaa

/- Moved -/
namespace Go.Proofs.Ytbalcjjeakdjkaa
open Go.RowKit

/-- What the three calls with a number of places answer, where they answer. -/
def Moved (w : World) (s : Nat) (k : Nat) (e : Ending) (w' : World) : Prop :=
  ∃ zs v, e = .returned (.tuple #[v, .int .i64 0]) ∧ Own w.heap.size w' v zs ∧ Canon zs ∧ vn zs = s ∧ zs.length ≤ k ∧ Below w.heap.size w w'

/-- The least form of a row of its own. -/
theorem moved_row {w w' : World} {zs : List Int} {s k n : Nat} (hw : WF zs) (hn : zs.length = n) (hm : n ≤ 35184372088832) (hr : Row w' w.heap.size (ws zs)) (hv : vn zs = s) (hk : n ≤ k) (hb : Below w.heap.size w w') :
    Moved w s k (.returned (.tuple #[.slice (some ⟨w.heap.size, 0, none⟩) (wid zs) n, .int .i64 0])) w' := by
  have hl := wid_le zs
  refine ⟨lst zs, _, rfl, ⟨(canon_lst hw).1, .inr ⟨w.heap.size, ws (zs.drop (wid zs)), Nat.le_refl _, ?_, ?_, ?_⟩⟩, canon_lst hw, ?_, ?_, hb⟩
  · rw [length_lst, length_ws]; simp; omega
  · rw [length_lst, length_ws]; congr 1; simp; omega
  · have e : ws (lst zs) ++ ws (zs.drop (wid zs)) = ws zs := by
      unfold lst ws
      rw [← List.map_append, List.take_append_drop]
    rw [e]; exact hr
  · rw [vn_lst hw]; exact hv
  · rw [length_lst]; omega
theorem moved_nil {w w' : World} {s k : Nat} (hs : s = 0) (hb : Below w.heap.size w w') : Moved w s k (.returned (.tuple #[.slice none 0 0, .int .i64 0])) w' :=
  ⟨[], _, rfl, ⟨WF.nil, .inl ⟨rfl, rfl⟩⟩, ⟨WF.nil, rfl⟩, hs.symm, Nat.zero_le _, hb⟩

end Go.Proofs.Ytbalcjjeakdjkaa

/- Shl -/
namespace Go.Proofs.Ytbalcjjeakdjkaa
open Go.RowKit

theorem shl_end {zs L xs : List Int} {n m : Nat} {cc : Int} {I : Nat} (hz : WF zs) (hL : val L = val xs) (hwx : WF xs) (hI : I < zs.length) (hzero : zs[I] = 0) (hc : IsW cc) (hv : val zs + pw I * cc = 2 ^ n * val (L.take m)) (hm : L.length = m) :
    WF (zs.set I cc) ∧ vn (zs.set I cc) = vn xs * 2 ^ n := by
  have hw := hz.set I hc
  refine ⟨hw, ?_⟩
  have h1 := val_set zs I cc hI
  rw [hzero, Int.sub_zero, Int.mul_comm] at h1
  rw [← hm, List.take_length, hL] at hv
  have h2 := val_vn hw
  have h3 := val_vn hwx
  have h4 : ((vn (zs.set I cc) : Nat) : Int) = ((vn xs * 2 ^ n : Nat) : Int) := by
    rw [← h2, h1, hv, h3, Int.natCast_mul, Int.mul_comm]; simp
  omega

theorem mul4 (a b c d : Int) : a * b * (c * d) = c * b * (a * d) := by simp only [Int.mul_comm, Int.mul_left_comm]

end Go.Proofs.Ytbalcjjeakdjkaa

/- Shr -/
namespace Go.Proofs.Ytbalcjjeakdjkaa
open Go.RowKit

theorem shr_none {xs : List Int} (hw : WF xs) {n : Nat} (h : wid xs ≤ n / 64) : vn xs / 2 ^ n = 0 := by
  rw [Nat.div_eq_of_lt]
  rw [← vn_lst hw]
  have h1 := vn_lt (canon_lst hw).1
  rw [length_lst] at h1
  exact Nat.lt_of_lt_of_le h1 (Nat.pow_le_pow_right (by omega) (by omega))
theorem shr_drop {xs : List Int} (hw : WF xs) {n : Nat} (h : n / 64 ≤ wid xs) : vn xs / 2 ^ n = vn ((lst xs).drop (n / 64)) / 2 ^ (n % 64) := by
  have hl : ((lst xs).take (n / 64)).length = n / 64 := by rw [List.length_take, length_lst]; omega
  have hlo := vn_lt ((canon_lst hw).1.take (n / 64))
  rw [hl] at hlo
  have e := vn_append ((lst xs).take (n / 64)) ((lst xs).drop (n / 64))
  rw [List.take_append_drop, vn_lst hw, hl] at e
  have hsp : 2 ^ n = 2 ^ (64 * (n / 64)) * 2 ^ (n % 64) := by rw [← Nat.pow_add, show 64 * (n / 64) + n % 64 = n by omega]
  rw [e, hsp, ← Nat.div_div_eq_div_mul, Nat.add_mul_div_left _ _ (Nat.two_pow_pos _), Nat.div_eq_of_lt hlo, Nat.zero_add]
theorem WF.drop {xs : List Int} (h : WF xs) (n : Nat) : WF (xs.drop n) := fun x hx => h x (List.mem_of_mem_drop hx)

/-- What stands behind k rounds. -/
def ShrAt (D zs : List Int) (p k : Nat) : Prop :=
  zs.length = D.length ∧ WF zs ∧ (∀ j (h : j < zs.length) (h' : j < D.length), k ≤ j → zs[j] = D[j]) ∧ 2 ^ p * val (zs.take k) + D.getD 0 0 % 2 ^ p = val (D.take k) + D.getD k 0 % 2 ^ p * pw k
theorem take_set_succ {zs : List Int} {k : Nat} (h : k < zs.length) (s : Int) : val ((zs.set k s).take (k + 1)) = val (zs.take k) + s * pw k := by
  rw [val_take_succ _ k (by simpa using h)]
  simp [List.take_set_of_le (Nat.le_refl k)]
theorem ShrAt.start {D : List Int} (hD : WF D) (p : Nat) : ShrAt D D p 0 := ⟨rfl, hD, fun j _ _ _ => rfl, by simp [val, pw]⟩
theorem ShrAt.step {D zs : List Int} {p k : Nat} {s : Int} (h : ShrAt D zs p k) (hk : k + 1 < D.length) (hs : IsW s) (he : 2 ^ p * s = D[k] - D[k] % 2 ^ p + wB * (D[k + 1] % 2 ^ p)) : ShrAt D (zs.set k s) p (k + 1) := by
  obtain ⟨h1, h2, h3, h4⟩ := h
  refine ⟨by rw [List.length_set]; exact h1, h2.set k hs, fun j hj hj' hkj => ?_, ?_⟩
  · rw [List.getElem_set_ne (by omega)]; exact h3 j (by simpa using hj) hj' (by omega)
  · have e1 : D.getD (k + 1) 0 = D[k + 1] := by simp [hk]
    have e2 : D.getD k 0 = D[k] := by simp [show k < D.length by omega]
    rw [take_set_succ (by omega), val_take_succ D k (by omega), e1, Int.mul_add, ← Int.mul_assoc, he]
    rw [e2] at h4
    simp only [pw, Int.add_mul, Int.sub_mul, Int.mul_assoc] at h4 ⊢
    rw [Int.mul_left_comm (D[k + 1] % 2 ^ p) wB]
    omega
theorem ShrAt.done {D zs : List Int} {p k : Nat} (h : ShrAt D zs p k) (hD : WF D) (hk : k + 1 = D.length) : WF (zs.set k (D[k] / 2 ^ p)) ∧ vn (zs.set k (D[k] / 2 ^ p)) = vn D / 2 ^ p := by
  obtain ⟨h1, h2, h3, h4⟩ := h
  have hx := hD.get (show k < D.length by omega)
  have hdw : IsW (D[k] / 2 ^ p) := by
    obtain ⟨X, hX⟩ := Int.eq_ofNat_of_zero_le hx.1
    have q : (X : Int) / 2 ^ p = ((X / 2 ^ p : Nat) : Int) := by simp
    have := Nat.div_le_self X (2 ^ p)
    unfold IsW wB at hx ⊢
    rw [hX] at hx ⊢
    rw [q]
    generalize X / 2 ^ p = y at *
    omega
  have hw := h2.set k hdw
  refine ⟨hw, ?_⟩
  have e2 : D.getD k 0 = D[k] := by simp [show k < D.length by omega]
  have hlen : (zs.set k (D[k] / 2 ^ p)).length = k + 1 := by rw [List.length_set]; omega
  have hv : val (zs.set k (D[k] / 2 ^ p)) = val (zs.take k) + D[k] / 2 ^ p * pw k := by
    rw [← take_set_succ (by omega), ← hlen, List.take_length]
  have hd : val D = val (D.take k) + D[k] * pw k := by rw [← val_take_succ D k (by omega), hk, List.take_length]
  have hdm := Int.mul_ediv_add_emod D[k] (2 ^ p)
  have key : 2 ^ p * val (zs.set k (D[k] / 2 ^ p)) + D.getD 0 0 % 2 ^ p = val D := by
    rw [hv, hd, Int.mul_add, ← Int.mul_assoc]
    rw [e2] at h4
    have : D[k] * pw k = (2 ^ p * (D[k] / 2 ^ p)) * pw k + D[k] % 2 ^ p * pw k := by rw [← Int.add_mul, hdm]
    rw [this]; omega
  have hr : 0 ≤ D.getD 0 0 % 2 ^ p ∧ D.getD 0 0 % 2 ^ p < 2 ^ p := ⟨Int.emod_nonneg _ (Int.ne_of_gt (Int.pow_pos (by omega))), Int.emod_lt_of_pos _ (Int.pow_pos (by omega))⟩
  rw [val_vn hw, val_vn hD] at key
  generalize vn (zs.set k (D[k] / 2 ^ p)) = Z at *
  generalize vn D = V at *
  generalize D.getD 0 0 % 2 ^ p = R at *
  obtain ⟨r, rfl⟩ := Int.eq_ofNat_of_zero_le hr.1
  rw [cast_pow] at key hr
  have hpp := Nat.two_pow_pos p
  generalize 2 ^ p = P at *
  have key2 : P * Z + r = V := by rw [← Int.natCast_mul] at key; omega
  rw [← key2, Nat.mul_add_div hpp, Nat.div_eq_of_lt (by omega), Nat.add_zero]

end Go.Proofs.Ytbalcjjeakdjkaa
