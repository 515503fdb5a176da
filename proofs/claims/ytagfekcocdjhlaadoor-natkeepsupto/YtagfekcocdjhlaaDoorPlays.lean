/-
  Plays: what a call of each kind answers; list and wanted, number and wantedNumber, right.
-/
import Derived.Test.YtagfekcocdjhlaaDoorRBits
namespace Go.Proofs.YtagfekcocdjhlaaDoor
open Go.RowKit

/-- The number that a call of a kind that answers a list answers. -/
def ansV (kind : Int) (xs ys : List Int) (n : Int) : Nat :=
  if kind = 2 then vn xs + vn ys
  else if kind = 3 then (if vn xs < vn ys then 0 else vn xs - vn ys)
  else if kind = 5 then (if n < 0 then 0 else if 1048576 < n then 0 else vn xs * 2 ^ n.toNat)
  else if kind = 6 then (if n < 0 then 0 else vn xs / 2 ^ n.toNat)
  else if kind = 7 then (if n < 0 then 0 else vn xs % 2 ^ n.toNat)
  else vn xs
/-- .. and its error. -/
def ansE (kind : Int) (xs ys : List Int) (n : Int) : Int :=
  if kind = 2 then 0
  else if kind = 3 then (if vn xs < vn ys then 3 else 0)
  else if kind = 5 then (if n < 0 then 3 else if 1048576 < n then 5 else 0)
  else if kind = 6 then (if n < 0 then 3 else 0)
  else if kind = 7 then (if n < 0 then 3 else 0)
  else 0
def Ans (w : World) (E : Int) (V : Nat) (e : Ending) (w' : World) : Prop :=
  ∃ zs v, e = .returned (.tuple #[v, .int .i64 E]) ∧ Sl w'.heap.size w' v zs ∧ Canon zs ∧ vn zs = V ∧ Below w.heap.size w w'
theorem ans_nil {w w' : World} {E : Int} {V : Nat} (hV : V = 0) (hb : Below w.heap.size w w') : Ans w E V (.returned (.tuple #[.slice none 0 0, .int .i64 E])) w' :=
  ⟨[], _, rfl, Sl.nilAt w', ⟨WF.nil, rfl⟩, hV.symm, hb⟩
theorem val_of_vn {xs ys : List Int} (hx : WF xs) (hy : WF ys) : val xs < val ys ↔ vn xs < vn ys := by rw [val_vn hx, val_vn hy]; omega
theorem told_vn {w w' : World} {e : Ending} {S : Int} {V : Nat} (h : Told w S e w') (hV : S = (V : Int)) : ∃ zs v, e = .returned v ∧ Sl w'.heap.size w' v zs ∧ Canon zs ∧ vn zs = V ∧ Below w.heap.size w w' := by
  obtain ⟨zs, v, h1, h2, h3, h4, h5⟩ := h
  exact ⟨zs, v, h1, h2.sl, h3, by rw [val_vn h3.1] at h4; omega, h5⟩
theorem told2_ans {w w' : World} {e : Ending} {S : Int} {V : Nat} (h : Told2 w S e w') (hV : S = (V : Int)) : Ans w 0 V e w' := by
  obtain ⟨zs, v, h1, h2, h3, h4, h5⟩ := h
  exact ⟨zs, v, h1, h2.sl, h3, by rw [val_vn h3.1] at h4; omega, h5⟩
theorem moved_ans {w w' : World} {e : Ending} {k V : Nat} (h : MovedTo w V k e w') : Ans w 0 V e w' := by
  obtain ⟨zs, a, cap, h1, h2, h3, h4, _, h6⟩ := h
  exact ⟨zs, _, h1, h2, h3, h4, h6⟩

set_option maxHeartbeats 3200000 in
theorem list_any {w : World} {va vb : Value} {xs ys : List Int} (ha : Sl w.heap.size w va xs) (hb : Sl w.heap.size w vb ys) (la : xs.length ≤ 1048576) (lb : ys.length ≤ 1048576) (kind : Int) {n : Int} (hn : n ≤ 9223372036854775807) :
    Calls Tryd.prog 8 #[.int .i64 kind, va, vb, .int .i64 n] w (Ans w (ansE kind xs ys n) (ansV kind xs ys n)) := by
  have wx := ha.1
  have wy := hb.1
  by_cases k2 : kind = 2
  · subst k2
    rw [show ansE 2 xs ys n = 0 from rfl, show ansV 2 xs ys n = vn xs + vn ys from rfl]
    have HC := hid (add_vn ha hb (by omega) (by omega))
    clear ha hb
    go_enter Tryd.func8, Tryd.ntmps8
    go_wp2_with fail
    refine HC.out.mono ?_
    rintro e w1 ⟨zs, r, rfl, h1, h2, h3, h4⟩
    have H3 := hid h3
    clear h3
    go_wp2
    go_ret2
    exact ⟨zs, r, rfl, h1, h2, H3.out, h4⟩
  by_cases k3 : kind = 3
  · subst k3
    by_cases hlt : vn xs < vn ys
    · rw [show ansE 3 xs ys n = 3 by simp [ansE, hlt], show ansV 3 xs ys n = 0 by simp [ansV, hlt]]
      have HC := hid (sub_not ha hb ((val_of_vn wx wy).2 hlt))
      clear ha hb
      go_enter Tryd.func8, Tryd.ntmps8
      go_wp2_with fail
      refine HC.out.mono ?_
      rintro e w1 ⟨rfl, h4⟩
      go_wp2
      go_ret2
      exact ans_nil rfl h4
    · rw [show ansE 3 xs ys n = 0 by simp [ansE, hlt], show ansV 3 xs ys n = vn xs - vn ys by simp [ansV, hlt]]
      have HC := hid ((sub_now ha hb (by have := (val_of_vn wx wy); omega)).mono (R' := Ans w 0 (vn xs - vn ys)) fun e w1 ⟨zs, a, cap, q1, q2, q3, q4, _, q6⟩ => ⟨zs, _, q1, q2, q3, by rw [val_vn q3.1, val_vn wx, val_vn wy] at q4; omega, q6⟩)
      clear ha hb
      go_enter Tryd.func8, Tryd.ntmps8
      go_wp2_with fail
      refine HC.out.mono ?_
      intro e w1 hans
      obtain ⟨zs, r, rfl, h1, h2, h3, h4⟩ := hans
      have H3 := hid h3
      clear h3
      go_wp2
      go_ret2
      exact ⟨zs, r, rfl, h1, h2, H3.out, h4⟩
  by_cases k5 : kind = 5
  · subst k5
    by_cases hneg : n < 0
    · rw [show ansE 5 xs ys n = 3 by simp [ansE, hneg], show ansV 5 xs ys n = 0 by simp [ansV, hneg]]
      have HC := hid (shl_neg va w hneg)
      clear ha hb
      go_enter Tryd.func8, Tryd.ntmps8
      go_wp2_with fail
      refine HC.out.mono ?_
      rintro e w1 ⟨rfl, rfl⟩
      go_wp2
      go_ret2
      exact ans_nil rfl (Below.refl _ _)
    by_cases hbig : 1048576 < n
    · rw [show ansE 5 xs ys n = 5 by simp [ansE, hneg, hbig], show ansV 5 xs ys n = 0 by simp [ansV, hneg, hbig]]
      have HC := hid (shl_big va w hbig)
      clear ha hb
      go_enter Tryd.func8, Tryd.ntmps8
      go_wp2_with fail
      refine HC.out.mono ?_
      rintro e w1 ⟨rfl, rfl⟩
      go_wp2
      go_ret2
      exact ans_nil rfl (Below.refl _ _)
    · rw [show ansE 5 xs ys n = 0 by simp [ansE, hneg, hbig], show ansV 5 xs ys n = vn xs * 2 ^ n.toNat by simp [ansV, hneg, hbig]]
      obtain ⟨m, rfl⟩ := Int.eq_ofNat_of_zero_le (show 0 ≤ n by omega)
      rw [Int.toNat_natCast]
      have HC := hid ((shl_now ha (n := m) (by omega) (by omega)).mono (R' := Ans w 0 (vn xs * 2 ^ m)) fun e w1 q => moved_ans q)
      clear ha hb
      go_enter Tryd.func8, Tryd.ntmps8
      go_wp2_with fail
      refine HC.out.mono ?_
      intro e w1 hans
      obtain ⟨zs, r, rfl, h1, h2, h3, h4⟩ := hans
      have H3 := hid h3
      clear h3
      go_wp2
      go_ret2
      exact ⟨zs, r, rfl, h1, h2, H3.out, h4⟩
  by_cases k6 : kind = 6
  · subst k6
    by_cases hneg : n < 0
    · rw [show ansE 6 xs ys n = 3 by simp [ansE, hneg], show ansV 6 xs ys n = 0 by simp [ansV, hneg]]
      have HC := hid (shr_neg va w hneg)
      clear ha hb
      go_enter Tryd.func8, Tryd.ntmps8
      go_wp2_with fail
      refine HC.out.mono ?_
      rintro e w1 ⟨rfl, rfl⟩
      go_wp2
      go_ret2
      exact ans_nil rfl (Below.refl _ _)
    · rw [show ansE 6 xs ys n = 0 by simp [ansE, hneg], show ansV 6 xs ys n = vn xs / 2 ^ n.toNat by simp [ansV, hneg]]
      obtain ⟨m, rfl⟩ := Int.eq_ofNat_of_zero_le (show 0 ≤ n by omega)
      rw [Int.toNat_natCast]
      have HC := hid ((shr_now ha (n := m) (by omega)).mono (R' := Ans w 0 (vn xs / 2 ^ m)) fun e w1 q => moved_ans q)
      clear ha hb
      go_enter Tryd.func8, Tryd.ntmps8
      go_wp2_with fail
      refine HC.out.mono ?_
      intro e w1 hans
      obtain ⟨zs, r, rfl, h1, h2, h3, h4⟩ := hans
      have H3 := hid h3
      clear h3
      go_wp2
      go_ret2
      exact ⟨zs, r, rfl, h1, h2, H3.out, h4⟩
  by_cases k7 : kind = 7
  · subst k7
    by_cases hneg : n < 0
    · rw [show ansE 7 xs ys n = 3 by simp [ansE, hneg], show ansV 7 xs ys n = 0 by simp [ansV, hneg]]
      have HC := hid (low_neg va w hneg)
      clear ha hb
      go_enter Tryd.func8, Tryd.ntmps8
      go_wp2_with fail
      refine HC.out.mono ?_
      rintro e w1 ⟨rfl, rfl⟩
      go_wp2
      go_ret2
      exact ans_nil rfl (Below.refl _ _)
    · rw [show ansE 7 xs ys n = 0 by simp [ansE, hneg], show ansV 7 xs ys n = vn xs % 2 ^ n.toNat by simp [ansV, hneg]]
      obtain ⟨m, rfl⟩ := Int.eq_ofNat_of_zero_le (show 0 ≤ n by omega)
      rw [Int.toNat_natCast]
      have HC := hid ((low_now ha (n := m) (by omega)).mono (R' := Ans w 0 (vn xs % 2 ^ m)) fun e w1 q => moved_ans q)
      clear ha hb
      go_enter Tryd.func8, Tryd.ntmps8
      go_wp2_with fail
      refine HC.out.mono ?_
      intro e w1 hans
      obtain ⟨zs, r, rfl, h1, h2, h3, h4⟩ := hans
      have H3 := hid h3
      clear h3
      go_wp2
      go_ret2
      exact ⟨zs, r, rfl, h1, h2, H3.out, h4⟩
  rw [show ansE kind xs ys n = 0 by simp [ansE, k2, k3, k5, k6, k7], show ansV kind xs ys n = vn xs by simp [ansV, k2, k3, k5, k6, k7]]
  have b2 : (kind == 2) = false := by simp [k2]
  have b3 : (kind == 3) = false := by simp [k3]
  have b5 : (kind == 5) = false := by simp [k5]
  have b6 : (kind == 6) = false := by simp [k6]
  have b7 : (kind == 7) = false := by simp [k7]
  have HC := hid ((least_now ha).mono (R' := fun e w' => ∃ zs v, e = .returned v ∧ Sl w'.heap.size w' v zs ∧ Canon zs ∧ vn zs = vn xs ∧ Below w.heap.size w w') fun e w1 ⟨r, q1, q2, q3⟩ => ⟨lst xs, r, q1, q2, canon_lst wx, vn_lst wx, q3⟩)
  clear ha hb k2 k3 k5 k6 k7
  go_enter Tryd.func8, Tryd.ntmps8
  go_wp2_with fail
  refine HC.out.mono ?_
  rintro e w1 ⟨zs, r, rfl, h1, h2, h3, h4⟩
  have H3 := hid h3
  clear h3
  go_wp2
  go_ret2
  exact ⟨zs, r, rfl, h1, h2, H3.out, h4⟩

set_option maxHeartbeats 3200000 in
theorem wanted_any {w : World} {va vb : Value} {xs ys : List Int} (ha : Sl w.heap.size w va xs) (hb : Sl w.heap.size w vb ys) (la : xs.length ≤ 1048576) (lb : ys.length ≤ 1048576) (kind : Int) {n : Int} (hn : n ≤ 9223372036854775807) :
    Calls Tryd.prog 7 #[.int .i64 kind, va, vb, .int .i64 n] w (Ans w (ansE kind xs ys n) (ansV kind xs ys n)) := by
  have wx := ha.1
  have wy := hb.1
  by_cases k2 : kind = 2
  · subst k2
    rw [show ansE 2 xs ys n = 0 from rfl, show ansV 2 xs ys n = vn xs + vn ys from rfl]
    have HC := hid ((radd_any ha hb (by omega) (by omega)).mono (R' := fun e w' => ∃ zs v, e = .returned v ∧ Sl w'.heap.size w' v zs ∧ Canon zs ∧ vn zs = vn xs + vn ys ∧ Below w.heap.size w w') fun e w1 q => told_vn q (by rw [val_vn wx, val_vn wy]; omega))
    clear ha hb
    go_enter Tryd.func7, Tryd.ntmps7
    go_wp2_with fail
    refine HC.out.mono ?_
    rintro e w1 ⟨zs, r, rfl, h1, h2, h3, h4⟩
    have H3 := hid h3
    clear h3
    go_wp2
    go_ret2
    exact ⟨zs, r, rfl, h1, h2, H3.out, h4⟩
  by_cases k3 : kind = 3
  · subst k3
    by_cases hlt : vn xs < vn ys
    · rw [show ansE 3 xs ys n = 3 by simp [ansE, hlt], show ansV 3 xs ys n = 0 by simp [ansV, hlt]]
      have HC := hid (rsub_no ha hb (by omega) (by omega) ((val_of_vn wx wy).2 hlt))
      clear ha hb
      go_enter Tryd.func7, Tryd.ntmps7
      go_wp2_with fail
      refine HC.out.mono ?_
      rintro e w1 ⟨rfl, h4⟩
      go_wp2
      go_ret2
      exact ans_nil rfl h4
    · rw [show ansE 3 xs ys n = 0 by simp [ansE, hlt], show ansV 3 xs ys n = vn xs - vn ys by simp [ansV, hlt]]
      have HC := hid ((rsub_yes ha hb (by omega) (by omega) (by have := (val_of_vn wx wy); omega)).mono (R' := Ans w 0 (vn xs - vn ys)) fun e w1 q => told2_ans q (by rw [val_vn wx, val_vn wy]; omega))
      clear ha hb
      go_enter Tryd.func7, Tryd.ntmps7
      go_wp2_with fail
      refine HC.out.mono ?_
      intro e w1 hans
      obtain ⟨zs, r, rfl, h1, h2, h3, h4⟩ := hans
      have H3 := hid h3
      clear h3
      go_wp2
      go_ret2
      exact ⟨zs, r, rfl, h1, h2, H3.out, h4⟩
  by_cases k5 : kind = 5
  · subst k5
    by_cases hneg : n < 0
    · rw [show ansE 5 xs ys n = 3 by simp [ansE, hneg], show ansV 5 xs ys n = 0 by simp [ansV, hneg]]
      have HC := hid (rshl_neg va w hneg)
      clear ha hb
      go_enter Tryd.func7, Tryd.ntmps7
      go_wp2_with fail
      refine HC.out.mono ?_
      rintro e w1 ⟨rfl, rfl⟩
      go_wp2
      go_ret2
      exact ans_nil rfl (Below.refl _ _)
    by_cases hbig : 1048576 < n
    · rw [show ansE 5 xs ys n = 5 by simp [ansE, hneg, hbig], show ansV 5 xs ys n = 0 by simp [ansV, hneg, hbig]]
      have HC := hid (rshl_big va w hbig)
      clear ha hb
      go_enter Tryd.func7, Tryd.ntmps7
      go_wp2_with fail
      refine HC.out.mono ?_
      rintro e w1 ⟨rfl, rfl⟩
      go_wp2
      go_ret2
      exact ans_nil rfl (Below.refl _ _)
    · rw [show ansE 5 xs ys n = 0 by simp [ansE, hneg, hbig], show ansV 5 xs ys n = vn xs * 2 ^ n.toNat by simp [ansV, hneg, hbig]]
      obtain ⟨m, rfl⟩ := Int.eq_ofNat_of_zero_le (show 0 ≤ n by omega)
      rw [Int.toNat_natCast]
      have HC := hid ((rshl_any ha (n := m) (by omega) (by omega)).mono (R' := Ans w 0 (vn xs * 2 ^ m)) fun e w1 q => told2_ans q (by rw [val_vn wx, ← Int.natCast_mul, Nat.mul_comm]))
      clear ha hb
      go_enter Tryd.func7, Tryd.ntmps7
      go_wp2_with fail
      refine HC.out.mono ?_
      intro e w1 hans
      obtain ⟨zs, r, rfl, h1, h2, h3, h4⟩ := hans
      have H3 := hid h3
      clear h3
      go_wp2
      go_ret2
      exact ⟨zs, r, rfl, h1, h2, H3.out, h4⟩
  by_cases k6 : kind = 6
  · subst k6
    by_cases hneg : n < 0
    · rw [show ansE 6 xs ys n = 3 by simp [ansE, hneg], show ansV 6 xs ys n = 0 by simp [ansV, hneg]]
      have HC := hid (rshr_neg va w hneg)
      clear ha hb
      go_enter Tryd.func7, Tryd.ntmps7
      go_wp2_with fail
      refine HC.out.mono ?_
      rintro e w1 ⟨rfl, rfl⟩
      go_wp2
      go_ret2
      exact ans_nil rfl (Below.refl _ _)
    · rw [show ansE 6 xs ys n = 0 by simp [ansE, hneg], show ansV 6 xs ys n = vn xs / 2 ^ n.toNat by simp [ansV, hneg]]
      obtain ⟨m, rfl⟩ := Int.eq_ofNat_of_zero_le (show 0 ≤ n by omega)
      rw [Int.toNat_natCast]
      have HC := hid ((rshr_any ha (n := m) (by omega) (by omega)).mono (R' := Ans w 0 (vn xs / 2 ^ m)) fun e w1 q => told2_ans q rfl)
      clear ha hb
      go_enter Tryd.func7, Tryd.ntmps7
      go_wp2_with fail
      refine HC.out.mono ?_
      intro e w1 hans
      obtain ⟨zs, r, rfl, h1, h2, h3, h4⟩ := hans
      have H3 := hid h3
      clear h3
      go_wp2
      go_ret2
      exact ⟨zs, r, rfl, h1, h2, H3.out, h4⟩
  by_cases k7 : kind = 7
  · subst k7
    by_cases hneg : n < 0
    · rw [show ansE 7 xs ys n = 3 by simp [ansE, hneg], show ansV 7 xs ys n = 0 by simp [ansV, hneg]]
      have HC := hid (rlow_neg va w hneg)
      clear ha hb
      go_enter Tryd.func7, Tryd.ntmps7
      go_wp2_with fail
      refine HC.out.mono ?_
      rintro e w1 ⟨rfl, rfl⟩
      go_wp2
      go_ret2
      exact ans_nil rfl (Below.refl _ _)
    · rw [show ansE 7 xs ys n = 0 by simp [ansE, hneg], show ansV 7 xs ys n = vn xs % 2 ^ n.toNat by simp [ansV, hneg]]
      obtain ⟨m, rfl⟩ := Int.eq_ofNat_of_zero_le (show 0 ≤ n by omega)
      rw [Int.toNat_natCast]
      have HC := hid ((rlow_any ha (n := m) (by omega) (by omega)).mono (R' := Ans w 0 (vn xs % 2 ^ m)) fun e w1 q => told2_ans q rfl)
      clear ha hb
      go_enter Tryd.func7, Tryd.ntmps7
      go_wp2_with fail
      refine HC.out.mono ?_
      intro e w1 hans
      obtain ⟨zs, r, rfl, h1, h2, h3, h4⟩ := hans
      have H3 := hid h3
      clear h3
      go_wp2
      go_ret2
      exact ⟨zs, r, rfl, h1, h2, H3.out, h4⟩
  rw [show ansE kind xs ys n = 0 by simp [ansE, k2, k3, k5, k6, k7], show ansV kind xs ys n = vn xs by simp [ansV, k2, k3, k5, k6, k7]]
  have b2 : (kind == 2) = false := by simp [k2]
  have b3 : (kind == 3) = false := by simp [k3]
  have b5 : (kind == 5) = false := by simp [k5]
  have b6 : (kind == 6) = false := by simp [k6]
  have b7 : (kind == 7) = false := by simp [k7]
  have HC := hid ((rleast_any ha (by omega)).mono (R' := fun e w' => ∃ zs v, e = .returned v ∧ Sl w'.heap.size w' v zs ∧ Canon zs ∧ vn zs = vn xs ∧ Below w.heap.size w w') fun e w1 q => told_vn q (val_vn wx))
  clear ha hb k2 k3 k5 k6 k7
  go_enter Tryd.func7, Tryd.ntmps7
  go_wp2_with fail
  refine HC.out.mono ?_
  rintro e w1 ⟨zs, r, rfl, h1, h2, h3, h4⟩
  have H3 := hid h3
  clear h3
  go_wp2
  go_ret2
  exact ⟨zs, r, rfl, h1, h2, H3.out, h4⟩
end Go.Proofs.YtagfekcocdjhlaaDoor
