/-
  QDivideToShr: Divide, Moved, Shl, Shr, joined.
-/
import Derived.Test.YtdfnehngffajiabDoorQLong3
import Derived.Deep.LoopGhost
import Derived.Test.YtdfnehngffajiabDoorQCarryToMade
import Derived.Test.YtdfnehngffajiabDoorQShiftToDivWord

/- Divide -/
namespace Go.Proofs.YtdfnehngffajiabDoor
open Go.RowKit
set_option linter.unusedVariables false

theorem row_part {w : World} {g : Nat} {zs : List Int} {r : List Value} (h : Row w g (ws zs ++ r)) (hw : WF zs) {j n cap : Nat} (hl : j + n ≤ zs.length) (hn : n ≤ 35184372088832) (hc : n ≤ cap) {B : Nat} (hB : g < B) :
    Sl B w (.slice (some ⟨g, j, none⟩) n cap) ((zs.drop j).take n) := by
  have e : ((zs.drop j).take n).length = n := by rw [List.length_take, List.length_drop]; omega
  refine ⟨(hw.dropped j).take n, some ⟨g, j, none⟩, cap, by rw [e], by rw [e]; exact hc, by rw [e]; exact hn, .inr ⟨g, j, rfl, hB, fun i hi => ?_⟩⟩
  rw [e] at hi
  rw [h.word (i := j + i) (by omega)]
  simp

/-- What divide answers: the quotient in a row of its own, the rest in its place. -/
def Divided (g m : Nat) (r : List Value) (zs0 bs : List Int) (w : World) (e : Ending) (w' : World) : Prop :=
  ∃ qs zs, e = .returned (.slice (some ⟨w.heap.size, 0, none⟩) m m) ∧ qs.length = m ∧ WF qs ∧ zs.length = zs0.length ∧ WF zs ∧ val zs0 = val qs * val bs + val zs ∧ val zs < val bs ∧ Row w' g (ws zs ++ r) ∧ Row w' w.heap.size (ws qs) ∧ Below g w w'

end Go.Proofs.YtdfnehngffajiabDoor

/- Moved -/
namespace Go.Proofs.YtdfnehngffajiabDoor
open Go.RowKit

/-- What the three calls with a number of places answer, where they answer. -/
def Moved (w : World) (s : Nat) (k : Nat) (e : Ending) (w' : World) : Prop :=
  ∃ zs v, e = .returned (.tuple #[v, .int .i64 0]) ∧ Own w.heap.size w' v zs ∧ Canon zs ∧ vn zs = s ∧ zs.length ≤ k ∧ Below w.heap.size w w'

/-- The least form of a row of its own. -/
theorem moved_row {w w' : World} {zs : List Int} {s k n : Nat} (hw : WF zs) (hn : zs.length = n) (hm : n ≤ 35184372088832) (hr : Row w' w.heap.size (ws zs)) (hv : vn zs = s) (hk : n ≤ k) (hb : Below w.heap.size w w') :
    Moved w s k (.returned (.tuple #[.slice (some ⟨w.heap.size, 0, none⟩) (wid zs) n, .int .i64 0])) w' := by
  have hl := wid_le zs
  refine ⟨lst zs, _, rfl, ⟨(canon_lst hw).1, .inr ⟨w.heap.size, ws (zs.drop (wid zs)), Nat.le_refl _, ?_, ?_, ?_⟩⟩, canon_lst hw, ?_, ?_, hb⟩
  · rw [length_lst, length_ws]; simp; omega
  · rw [length_lst, length_ws]; congr 1; simp; omega
  · have e : ws (lst zs) ++ ws (zs.drop (wid zs)) = ws zs := by
      unfold lst ws
      rw [← List.map_append, List.take_append_drop]
    rw [e]; exact hr
  · rw [vn_lst hw]; exact hv
  · rw [length_lst]; omega
theorem moved_nil {w w' : World} {s k : Nat} (hs : s = 0) (hb : Below w.heap.size w w') : Moved w s k (.returned (.tuple #[.slice none 0 0, .int .i64 0])) w' :=
  ⟨[], _, rfl, ⟨WF.nil, .inl ⟨rfl, rfl⟩⟩, ⟨WF.nil, rfl⟩, hs.symm, Nat.zero_le _, hb⟩

end Go.Proofs.YtdfnehngffajiabDoor

/- Shl -/
namespace Go.Proofs.YtdfnehngffajiabDoor
open Go.RowKit

theorem shl_end {zs L xs : List Int} {n m : Nat} {cc : Int} {I : Nat} (hz : WF zs) (hL : val L = val xs) (hwx : WF xs) (hI : I < zs.length) (hzero : zs[I] = 0) (hc : IsW cc) (hv : val zs + pw I * cc = 2 ^ n * val (L.take m)) (hm : L.length = m) :
    WF (zs.set I cc) ∧ vn (zs.set I cc) = vn xs * 2 ^ n := by
  have hw := hz.set I hc
  refine ⟨hw, ?_⟩
  have h1 := val_set zs I cc hI
  rw [hzero, Int.sub_zero, Int.mul_comm] at h1
  rw [← hm, List.take_length, hL] at hv
  have h2 := val_vn hw
  have h3 := val_vn hwx
  have h4 : ((vn (zs.set I cc) : Nat) : Int) = ((vn xs * 2 ^ n : Nat) : Int) := by
    rw [← h2, h1, hv, h3, Int.natCast_mul, Int.mul_comm]; simp
  omega

theorem mul4 (a b c d : Int) : a * b * (c * d) = c * b * (a * d) := by simp only [Int.mul_comm, Int.mul_left_comm]

end Go.Proofs.YtdfnehngffajiabDoor

/- Shr -/
namespace Go.Proofs.YtdfnehngffajiabDoor
open Go.RowKit

theorem shr_none {xs : List Int} (hw : WF xs) {n : Nat} (h : wid xs ≤ n / 64) : vn xs / 2 ^ n = 0 := by
  rw [Nat.div_eq_of_lt]
  rw [← vn_lst hw]
  have h1 := vn_lt (canon_lst hw).1
  rw [length_lst] at h1
  exact Nat.lt_of_lt_of_le h1 (Nat.pow_le_pow_right (by omega) (by omega))
theorem shr_drop {xs : List Int} (hw : WF xs) {n : Nat} (h : n / 64 ≤ wid xs) : vn xs / 2 ^ n = vn ((lst xs).drop (n / 64)) / 2 ^ (n % 64) := by
  have hl : ((lst xs).take (n / 64)).length = n / 64 := by rw [List.length_take, length_lst]; omega
  have hlo := vn_lt ((canon_lst hw).1.take (n / 64))
  rw [hl] at hlo
  have e := vn_append ((lst xs).take (n / 64)) ((lst xs).drop (n / 64))
  rw [List.take_append_drop, vn_lst hw, hl] at e
  have hsp : 2 ^ n = 2 ^ (64 * (n / 64)) * 2 ^ (n % 64) := by rw [← Nat.pow_add, show 64 * (n / 64) + n % 64 = n by omega]
  rw [e, hsp, ← Nat.div_div_eq_div_mul, Nat.add_mul_div_left _ _ (Nat.two_pow_pos _), Nat.div_eq_of_lt hlo, Nat.zero_add]
theorem WF.drop {xs : List Int} (h : WF xs) (n : Nat) : WF (xs.drop n) := fun x hx => h x (List.mem_of_mem_drop hx)

/-- What stands behind k rounds. -/
def ShrAt (D zs : List Int) (p k : Nat) : Prop :=
  zs.length = D.length ∧ WF zs ∧ (∀ j (h : j < zs.length) (h' : j < D.length), k ≤ j → zs[j] = D[j]) ∧ 2 ^ p * val (zs.take k) + D.getD 0 0 % 2 ^ p = val (D.take k) + D.getD k 0 % 2 ^ p * pw k
theorem take_set_succ {zs : List Int} {k : Nat} (h : k < zs.length) (s : Int) : val ((zs.set k s).take (k + 1)) = val (zs.take k) + s * pw k := by
  rw [val_take_succ _ k (by simpa using h)]
  simp [List.take_set_of_le (Nat.le_refl k)]
theorem ShrAt.start {D : List Int} (hD : WF D) (p : Nat) : ShrAt D D p 0 := ⟨rfl, hD, fun j _ _ _ => rfl, by simp [val, pw]⟩
theorem ShrAt.step {D zs : List Int} {p k : Nat} {s : Int} (h : ShrAt D zs p k) (hk : k + 1 < D.length) (hs : IsW s) (he : 2 ^ p * s = D[k] - D[k] % 2 ^ p + wB * (D[k + 1] % 2 ^ p)) : ShrAt D (zs.set k s) p (k + 1) := by
  obtain ⟨h1, h2, h3, h4⟩ := h
  refine ⟨by rw [List.length_set]; exact h1, h2.set k hs, fun j hj hj' hkj => ?_, ?_⟩
  · rw [List.getElem_set_ne (by omega)]; exact h3 j (by simpa using hj) hj' (by omega)
  · have e1 : D.getD (k + 1) 0 = D[k + 1] := by simp [hk]
    have e2 : D.getD k 0 = D[k] := by simp [show k < D.length by omega]
    rw [take_set_succ (by omega), val_take_succ D k (by omega), e1, Int.mul_add, ← Int.mul_assoc, he]
    rw [e2] at h4
    simp only [pw, Int.add_mul, Int.sub_mul, Int.mul_assoc] at h4 ⊢
    rw [Int.mul_left_comm (D[k + 1] % 2 ^ p) wB]
    omega
theorem ShrAt.done {D zs : List Int} {p k : Nat} (h : ShrAt D zs p k) (hD : WF D) (hk : k + 1 = D.length) : WF (zs.set k (D[k] / 2 ^ p)) ∧ vn (zs.set k (D[k] / 2 ^ p)) = vn D / 2 ^ p := by
  obtain ⟨h1, h2, h3, h4⟩ := h
  have hx := hD.get (show k < D.length by omega)
  have hdw : IsW (D[k] / 2 ^ p) := by
    obtain ⟨X, hX⟩ := Int.eq_ofNat_of_zero_le hx.1
    have q : (X : Int) / 2 ^ p = ((X / 2 ^ p : Nat) : Int) := by simp
    have := Nat.div_le_self X (2 ^ p)
    unfold IsW wB at hx ⊢
    rw [hX] at hx ⊢
    rw [q]
    generalize X / 2 ^ p = y at *
    omega
  have hw := h2.set k hdw
  refine ⟨hw, ?_⟩
  have e2 : D.getD k 0 = D[k] := by simp [show k < D.length by omega]
  have hlen : (zs.set k (D[k] / 2 ^ p)).length = k + 1 := by rw [List.length_set]; omega
  have hv : val (zs.set k (D[k] / 2 ^ p)) = val (zs.take k) + D[k] / 2 ^ p * pw k := by
    rw [← take_set_succ (by omega), ← hlen, List.take_length]
  have hd : val D = val (D.take k) + D[k] * pw k := by rw [← val_take_succ D k (by omega), hk, List.take_length]
  have hdm := Int.mul_ediv_add_emod D[k] (2 ^ p)
  have key : 2 ^ p * val (zs.set k (D[k] / 2 ^ p)) + D.getD 0 0 % 2 ^ p = val D := by
    rw [hv, hd, Int.mul_add, ← Int.mul_assoc]
    rw [e2] at h4
    have : D[k] * pw k = (2 ^ p * (D[k] / 2 ^ p)) * pw k + D[k] % 2 ^ p * pw k := by rw [← Int.add_mul, hdm]
    rw [this]; omega
  have hr : 0 ≤ D.getD 0 0 % 2 ^ p ∧ D.getD 0 0 % 2 ^ p < 2 ^ p := ⟨Int.emod_nonneg _ (Int.ne_of_gt (Int.pow_pos (by omega))), Int.emod_lt_of_pos _ (Int.pow_pos (by omega))⟩
  rw [val_vn hw, val_vn hD] at key
  generalize vn (zs.set k (D[k] / 2 ^ p)) = Z at *
  generalize vn D = V at *
  generalize D.getD 0 0 % 2 ^ p = R at *
  obtain ⟨r, rfl⟩ := Int.eq_ofNat_of_zero_le hr.1
  rw [cast_pow] at key hr
  have hpp := Nat.two_pow_pos p
  generalize 2 ^ p = P at *
  have key2 : P * Z + r = V := by rw [← Int.natCast_mul] at key; omega
  rw [← key2, Nat.mul_add_div hpp, Nat.div_eq_of_lt (by omega), Nat.add_zero]

end Go.Proofs.YtdfnehngffajiabDoor
