/-
  Owned: list and wanted, their answers in rows of their own.
-/
import Derived.Test.YtagfekcocdjhlaaDoorPlays
import Derived.Test.YtagfekcocdjhlaaDoorHolds
namespace Go.Proofs.YtagfekcocdjhlaaDoor
open Go.RowKit

/-- A row of its own, at most K words. -/
def OwnK (K : Nat) (B : Nat) (w : World) (v : Value) (zs : List Int) : Prop := Own B w v zs ∧ zs.length ≤ K
theorem OwnK.mk {K B : Nat} {w : World} {v : Value} {zs : List Int} (h : Own B w v zs) (hk : zs.length ≤ K) : OwnK K B w v zs := ⟨h, hk⟩
def AnsO (K : Nat) (w : World) (E : Int) (V : Nat) (e : Ending) (w' : World) : Prop :=
  ∃ zs v, e = .returned (.tuple #[v, .int .i64 E]) ∧ OwnK K w.heap.size w' v zs ∧ Canon zs ∧ vn zs = V ∧ Below w.heap.size w w'
def AnsP (K : Nat) (w : World) (V : Nat) (e : Ending) (w' : World) : Prop :=
  ∃ zs v, e = .returned v ∧ OwnK K w.heap.size w' v zs ∧ Canon zs ∧ vn zs = V ∧ Below w.heap.size w w'
theorem anso_nil {K : Nat} {w w' : World} {E : Int} {V : Nat} (hV : V = 0) (hb : Below w.heap.size w w') : AnsO K w E V (.returned (.tuple #[.slice none 0 0, .int .i64 E])) w' :=
  ⟨[], _, rfl, ⟨⟨WF.nil, .inl ⟨rfl, rfl⟩⟩, Nat.zero_le _⟩, ⟨WF.nil, rfl⟩, hV.symm, hb⟩
theorem Own.most {B : Nat} {w : World} {v : Value} {zs : List Int} (h : Own B w v zs) : zs.length ≤ 35184372088832 := by
  obtain ⟨_, ⟨_, rfl⟩ | ⟨g, r, _, h2, _⟩⟩ := h
  · simp
  · omega
theorem row_own {K : Nat} {w w' : World} {zs : List Int} {r : List Value} {cap : Nat} (hc : Canon zs) (hr : Row w' w.heap.size (ws zs ++ r)) (hcap : cap = zs.length + r.length) (hm : cap ≤ 35184372088832) (hk : zs.length ≤ K) :
    OwnK K w.heap.size w' (.slice (some ⟨w.heap.size, 0, none⟩) zs.length cap) zs := by
  subst hcap
  exact ⟨⟨hc.1, .inr ⟨_, r, Nat.le_refl _, hm, rfl, hr⟩⟩, hk⟩
theorem added_own {w w' : World} {xs ys : List Int} {e : Ending} (h : Added w (val xs + val ys) (max (wid xs) (wid ys) + 1) e w') (wx : WF xs) (wy : WF ys) (la : xs.length ≤ 1048576) (lb : ys.length ≤ 1048576) : AnsP 1100000 w (vn xs + vn ys) e w' := by
  obtain ⟨zs, cap, r, rfl, hc, hv, hk, hl, hm, hr, hb, _⟩ := h
  have := wid_le xs
  have := wid_le ys
  exact ⟨zs, _, rfl, row_own hc hr hl hm (by omega), hc, by rw [val_vn hc.1, val_vn wx, val_vn wy] at hv; omega, hb⟩
theorem taken_own {w w' : World} {xs ys : List Int} {e : Ending} (h : Taken w (val xs - val ys) (wid xs) e w') (wx : WF xs) (wy : WF ys) (la : xs.length ≤ 1048576) : AnsO 1100000 w 0 (vn xs - vn ys) e w' := by
  obtain ⟨zs, cap, r, rfl, hc, hv, hk, hl, hm, hr, hb, _⟩ := h
  have := wid_le xs
  exact ⟨zs, _, rfl, row_own hc hr hl hm (by omega), hc, by rw [val_vn hc.1, val_vn wx, val_vn wy] at hv; omega, hb⟩
theorem moved_own {w w' : World} {e : Ending} {k V : Nat} (h : Moved w V k e w') (hk : k ≤ 1100000) : AnsO 1100000 w 0 V e w' := by
  obtain ⟨zs, v, h1, h2, h3, h4, h5, h6⟩ := h
  exact ⟨zs, v, h1, ⟨h2, by omega⟩, h3, h4, h6⟩
theorem told_own {w w' : World} {e : Ending} {S : Int} {V : Nat} (h : Told w S e w') (hV : S = (V : Int)) : AnsP 35184372088832 w V e w' := by
  obtain ⟨zs, v, h1, h2, h3, h4, h5⟩ := h
  exact ⟨zs, v, h1, ⟨h2, h2.most⟩, h3, by rw [val_vn h3.1] at h4; omega, h5⟩
theorem told2_own {w w' : World} {e : Ending} {S : Int} {V : Nat} (h : Told2 w S e w') (hV : S = (V : Int)) : AnsO 35184372088832 w 0 V e w' := by
  obtain ⟨zs, v, h1, h2, h3, h4, h5⟩ := h
  exact ⟨zs, v, h1, ⟨h2, h2.most⟩, h3, by rw [val_vn h3.1] at h4; omega, h5⟩
theorem least_own {w : World} {v : Value} {xs : List Int} (h : Sl w.heap.size w v xs) (la : xs.length ≤ 1048576) : Calls Tryd.prog 30 #[v] w (AnsP 1100000 w (vn xs)) :=
  (least_any h).mono fun e w' ⟨h1, h2, h3, _⟩ => by
    have := wid_le xs
    have hx := h.1
    refine ⟨lst xs, _, h1, ?_, canon_lst hx, vn_lst hx, h3⟩
    have := row_own (K := 1100000) (r := []) (canon_lst hx) (by simpa using h2) (cap := wid xs) (by rw [length_lst]; rfl) (by omega) (by rw [length_lst]; omega)
    rwa [length_lst] at this

set_option maxHeartbeats 3200000 in
theorem list_own {w : World} {va vb : Value} {xs ys : List Int} (ha : Sl w.heap.size w va xs) (hb : Sl w.heap.size w vb ys) (la : xs.length ≤ 1048576) (lb : ys.length ≤ 1048576) (kind : Int) {n : Int} (hn : n ≤ 9223372036854775807) :
    Calls Tryd.prog 8 #[.int .i64 kind, va, vb, .int .i64 n] w (AnsO 1100000 w (ansE kind xs ys n) (ansV kind xs ys n)) := by
  have wx := ha.1
  have wy := hb.1
  by_cases k2 : kind = 2
  · subst k2
    rw [show ansE 2 xs ys n = 0 from rfl, show ansV 2 xs ys n = vn xs + vn ys from rfl]
    have HC := hid ((add_any ha hb (by omega) (by omega)).mono (R' := AnsP 1100000 w (vn xs + vn ys)) fun e w1 q => added_own q wx wy la lb)
    clear ha hb
    go_enter Tryd.func8, Tryd.ntmps8
    go_wp2_with fail
    refine HC.out.mono ?_
    rintro e w1 ⟨zs, r, rfl, h1, h2, h3, h4⟩
    have H3 := hid h3
    clear h3
    go_wp2
    go_ret2
    exact ⟨zs, r, rfl, h1, h2, H3.out, h4⟩
  by_cases k3 : kind = 3
  · subst k3
    by_cases hlt : vn xs < vn ys
    · rw [show ansE 3 xs ys n = 3 by simp [ansE, hlt], show ansV 3 xs ys n = 0 by simp [ansV, hlt]]
      have HC := hid (sub_not ha hb ((val_of_vn wx wy).2 hlt))
      clear ha hb
      go_enter Tryd.func8, Tryd.ntmps8
      go_wp2_with fail
      refine HC.out.mono ?_
      rintro e w1 ⟨rfl, h4⟩
      go_wp2
      go_ret2
      exact anso_nil rfl h4
    · rw [show ansE 3 xs ys n = 0 by simp [ansE, hlt], show ansV 3 xs ys n = vn xs - vn ys by simp [ansV, hlt]]
      have HC := hid ((sub_yes ha hb (by have := (val_of_vn wx wy); omega)).mono (R' := AnsO 1100000 w 0 (vn xs - vn ys)) fun e w1 q => taken_own q wx wy la)
      clear ha hb
      go_enter Tryd.func8, Tryd.ntmps8
      go_wp2_with fail
      refine HC.out.mono ?_
      intro e w1 hans
      obtain ⟨zs, r, rfl, h1, h2, h3, h4⟩ := hans
      have H3 := hid h3
      clear h3
      go_wp2
      go_ret2
      exact ⟨zs, r, rfl, h1, h2, H3.out, h4⟩
  by_cases k5 : kind = 5
  · subst k5
    by_cases hneg : n < 0
    · rw [show ansE 5 xs ys n = 3 by simp [ansE, hneg], show ansV 5 xs ys n = 0 by simp [ansV, hneg]]
      have HC := hid (shl_neg va w hneg)
      clear ha hb
      go_enter Tryd.func8, Tryd.ntmps8
      go_wp2_with fail
      refine HC.out.mono ?_
      rintro e w1 ⟨rfl, rfl⟩
      go_wp2
      go_ret2
      exact anso_nil rfl (Below.refl _ _)
    by_cases hbig : 1048576 < n
    · rw [show ansE 5 xs ys n = 5 by simp [ansE, hneg, hbig], show ansV 5 xs ys n = 0 by simp [ansV, hneg, hbig]]
      have HC := hid (shl_big va w hbig)
      clear ha hb
      go_enter Tryd.func8, Tryd.ntmps8
      go_wp2_with fail
      refine HC.out.mono ?_
      rintro e w1 ⟨rfl, rfl⟩
      go_wp2
      go_ret2
      exact anso_nil rfl (Below.refl _ _)
    · rw [show ansE 5 xs ys n = 0 by simp [ansE, hneg, hbig], show ansV 5 xs ys n = vn xs * 2 ^ n.toNat by simp [ansV, hneg, hbig]]
      obtain ⟨m, rfl⟩ := Int.eq_ofNat_of_zero_le (show 0 ≤ n by omega)
      rw [Int.toNat_natCast]
      have HC := hid ((shl_any ha (n := m) (by omega) (by omega)).mono (R' := AnsO 1100000 w 0 (vn xs * 2 ^ m)) fun e w1 q => moved_own q (by omega))
      clear ha hb
      go_enter Tryd.func8, Tryd.ntmps8
      go_wp2_with fail
      refine HC.out.mono ?_
      intro e w1 hans
      obtain ⟨zs, r, rfl, h1, h2, h3, h4⟩ := hans
      have H3 := hid h3
      clear h3
      go_wp2
      go_ret2
      exact ⟨zs, r, rfl, h1, h2, H3.out, h4⟩
  by_cases k6 : kind = 6
  · subst k6
    by_cases hneg : n < 0
    · rw [show ansE 6 xs ys n = 3 by simp [ansE, hneg], show ansV 6 xs ys n = 0 by simp [ansV, hneg]]
      have HC := hid (shr_neg va w hneg)
      clear ha hb
      go_enter Tryd.func8, Tryd.ntmps8
      go_wp2_with fail
      refine HC.out.mono ?_
      rintro e w1 ⟨rfl, rfl⟩
      go_wp2
      go_ret2
      exact anso_nil rfl (Below.refl _ _)
    · rw [show ansE 6 xs ys n = 0 by simp [ansE, hneg], show ansV 6 xs ys n = vn xs / 2 ^ n.toNat by simp [ansV, hneg]]
      obtain ⟨m, rfl⟩ := Int.eq_ofNat_of_zero_le (show 0 ≤ n by omega)
      rw [Int.toNat_natCast]
      have HC := hid ((shr_any ha (n := m) (by omega)).mono (R' := AnsO 1100000 w 0 (vn xs / 2 ^ m)) fun e w1 q => moved_own q (by omega))
      clear ha hb
      go_enter Tryd.func8, Tryd.ntmps8
      go_wp2_with fail
      refine HC.out.mono ?_
      intro e w1 hans
      obtain ⟨zs, r, rfl, h1, h2, h3, h4⟩ := hans
      have H3 := hid h3
      clear h3
      go_wp2
      go_ret2
      exact ⟨zs, r, rfl, h1, h2, H3.out, h4⟩
  by_cases k7 : kind = 7
  · subst k7
    by_cases hneg : n < 0
    · rw [show ansE 7 xs ys n = 3 by simp [ansE, hneg], show ansV 7 xs ys n = 0 by simp [ansV, hneg]]
      have HC := hid (low_neg va w hneg)
      clear ha hb
      go_enter Tryd.func8, Tryd.ntmps8
      go_wp2_with fail
      refine HC.out.mono ?_
      rintro e w1 ⟨rfl, rfl⟩
      go_wp2
      go_ret2
      exact anso_nil rfl (Below.refl _ _)
    · rw [show ansE 7 xs ys n = 0 by simp [ansE, hneg], show ansV 7 xs ys n = vn xs % 2 ^ n.toNat by simp [ansV, hneg]]
      obtain ⟨m, rfl⟩ := Int.eq_ofNat_of_zero_le (show 0 ≤ n by omega)
      rw [Int.toNat_natCast]
      have HC := hid ((low_any ha (n := m) (by omega)).mono (R' := AnsO 1100000 w 0 (vn xs % 2 ^ m)) fun e w1 q => moved_own q (by omega))
      clear ha hb
      go_enter Tryd.func8, Tryd.ntmps8
      go_wp2_with fail
      refine HC.out.mono ?_
      intro e w1 hans
      obtain ⟨zs, r, rfl, h1, h2, h3, h4⟩ := hans
      have H3 := hid h3
      clear h3
      go_wp2
      go_ret2
      exact ⟨zs, r, rfl, h1, h2, H3.out, h4⟩
  rw [show ansE kind xs ys n = 0 by simp [ansE, k2, k3, k5, k6, k7], show ansV kind xs ys n = vn xs by simp [ansV, k2, k3, k5, k6, k7]]
  have b2 : (kind == 2) = false := by simp [k2]
  have b3 : (kind == 3) = false := by simp [k3]
  have b5 : (kind == 5) = false := by simp [k5]
  have b6 : (kind == 6) = false := by simp [k6]
  have b7 : (kind == 7) = false := by simp [k7]
  have HC := hid (least_own ha la)
  clear ha hb k2 k3 k5 k6 k7
  go_enter Tryd.func8, Tryd.ntmps8
  go_wp2_with fail
  refine HC.out.mono ?_
  rintro e w1 ⟨zs, r, rfl, h1, h2, h3, h4⟩
  have H3 := hid h3
  clear h3
  go_wp2
  go_ret2
  exact ⟨zs, r, rfl, h1, h2, H3.out, h4⟩

set_option maxHeartbeats 3200000 in
theorem wanted_own {w : World} {va vb : Value} {xs ys : List Int} (ha : Sl w.heap.size w va xs) (hb : Sl w.heap.size w vb ys) (la : xs.length ≤ 1048576) (lb : ys.length ≤ 1048576) (kind : Int) {n : Int} (hn : n ≤ 9223372036854775807) :
    Calls Tryd.prog 7 #[.int .i64 kind, va, vb, .int .i64 n] w (AnsO 35184372088832 w (ansE kind xs ys n) (ansV kind xs ys n)) := by
  have wx := ha.1
  have wy := hb.1
  by_cases k2 : kind = 2
  · subst k2
    rw [show ansE 2 xs ys n = 0 from rfl, show ansV 2 xs ys n = vn xs + vn ys from rfl]
    have HC := hid ((radd_any ha hb (by omega) (by omega)).mono (R' := AnsP 35184372088832 w (vn xs + vn ys)) fun e w1 q => told_own q (by rw [val_vn wx, val_vn wy]; omega))
    clear ha hb
    go_enter Tryd.func7, Tryd.ntmps7
    go_wp2_with fail
    refine HC.out.mono ?_
    rintro e w1 ⟨zs, r, rfl, h1, h2, h3, h4⟩
    have H3 := hid h3
    clear h3
    go_wp2
    go_ret2
    exact ⟨zs, r, rfl, h1, h2, H3.out, h4⟩
  by_cases k3 : kind = 3
  · subst k3
    by_cases hlt : vn xs < vn ys
    · rw [show ansE 3 xs ys n = 3 by simp [ansE, hlt], show ansV 3 xs ys n = 0 by simp [ansV, hlt]]
      have HC := hid (rsub_no ha hb (by omega) (by omega) ((val_of_vn wx wy).2 hlt))
      clear ha hb
      go_enter Tryd.func7, Tryd.ntmps7
      go_wp2_with fail
      refine HC.out.mono ?_
      rintro e w1 ⟨rfl, h4⟩
      go_wp2
      go_ret2
      exact anso_nil rfl h4
    · rw [show ansE 3 xs ys n = 0 by simp [ansE, hlt], show ansV 3 xs ys n = vn xs - vn ys by simp [ansV, hlt]]
      have HC := hid ((rsub_yes ha hb (by omega) (by omega) (by have := (val_of_vn wx wy); omega)).mono (R' := AnsO 35184372088832 w 0 (vn xs - vn ys)) fun e w1 q => told2_own q (by rw [val_vn wx, val_vn wy]; omega))
      clear ha hb
      go_enter Tryd.func7, Tryd.ntmps7
      go_wp2_with fail
      refine HC.out.mono ?_
      intro e w1 hans
      obtain ⟨zs, r, rfl, h1, h2, h3, h4⟩ := hans
      have H3 := hid h3
      clear h3
      go_wp2
      go_ret2
      exact ⟨zs, r, rfl, h1, h2, H3.out, h4⟩
  by_cases k5 : kind = 5
  · subst k5
    by_cases hneg : n < 0
    · rw [show ansE 5 xs ys n = 3 by simp [ansE, hneg], show ansV 5 xs ys n = 0 by simp [ansV, hneg]]
      have HC := hid (rshl_neg va w hneg)
      clear ha hb
      go_enter Tryd.func7, Tryd.ntmps7
      go_wp2_with fail
      refine HC.out.mono ?_
      rintro e w1 ⟨rfl, rfl⟩
      go_wp2
      go_ret2
      exact anso_nil rfl (Below.refl _ _)
    by_cases hbig : 1048576 < n
    · rw [show ansE 5 xs ys n = 5 by simp [ansE, hneg, hbig], show ansV 5 xs ys n = 0 by simp [ansV, hneg, hbig]]
      have HC := hid (rshl_big va w hbig)
      clear ha hb
      go_enter Tryd.func7, Tryd.ntmps7
      go_wp2_with fail
      refine HC.out.mono ?_
      rintro e w1 ⟨rfl, rfl⟩
      go_wp2
      go_ret2
      exact anso_nil rfl (Below.refl _ _)
    · rw [show ansE 5 xs ys n = 0 by simp [ansE, hneg, hbig], show ansV 5 xs ys n = vn xs * 2 ^ n.toNat by simp [ansV, hneg, hbig]]
      obtain ⟨m, rfl⟩ := Int.eq_ofNat_of_zero_le (show 0 ≤ n by omega)
      rw [Int.toNat_natCast]
      have HC := hid ((rshl_any ha (n := m) (by omega) (by omega)).mono (R' := AnsO 35184372088832 w 0 (vn xs * 2 ^ m)) fun e w1 q => told2_own q (by rw [val_vn wx, ← Int.natCast_mul, Nat.mul_comm]))
      clear ha hb
      go_enter Tryd.func7, Tryd.ntmps7
      go_wp2_with fail
      refine HC.out.mono ?_
      intro e w1 hans
      obtain ⟨zs, r, rfl, h1, h2, h3, h4⟩ := hans
      have H3 := hid h3
      clear h3
      go_wp2
      go_ret2
      exact ⟨zs, r, rfl, h1, h2, H3.out, h4⟩
  by_cases k6 : kind = 6
  · subst k6
    by_cases hneg : n < 0
    · rw [show ansE 6 xs ys n = 3 by simp [ansE, hneg], show ansV 6 xs ys n = 0 by simp [ansV, hneg]]
      have HC := hid (rshr_neg va w hneg)
      clear ha hb
      go_enter Tryd.func7, Tryd.ntmps7
      go_wp2_with fail
      refine HC.out.mono ?_
      rintro e w1 ⟨rfl, rfl⟩
      go_wp2
      go_ret2
      exact anso_nil rfl (Below.refl _ _)
    · rw [show ansE 6 xs ys n = 0 by simp [ansE, hneg], show ansV 6 xs ys n = vn xs / 2 ^ n.toNat by simp [ansV, hneg]]
      obtain ⟨m, rfl⟩ := Int.eq_ofNat_of_zero_le (show 0 ≤ n by omega)
      rw [Int.toNat_natCast]
      have HC := hid ((rshr_any ha (n := m) (by omega) (by omega)).mono (R' := AnsO 35184372088832 w 0 (vn xs / 2 ^ m)) fun e w1 q => told2_own q rfl)
      clear ha hb
      go_enter Tryd.func7, Tryd.ntmps7
      go_wp2_with fail
      refine HC.out.mono ?_
      intro e w1 hans
      obtain ⟨zs, r, rfl, h1, h2, h3, h4⟩ := hans
      have H3 := hid h3
      clear h3
      go_wp2
      go_ret2
      exact ⟨zs, r, rfl, h1, h2, H3.out, h4⟩
  by_cases k7 : kind = 7
  · subst k7
    by_cases hneg : n < 0
    · rw [show ansE 7 xs ys n = 3 by simp [ansE, hneg], show ansV 7 xs ys n = 0 by simp [ansV, hneg]]
      have HC := hid (rlow_neg va w hneg)
      clear ha hb
      go_enter Tryd.func7, Tryd.ntmps7
      go_wp2_with fail
      refine HC.out.mono ?_
      rintro e w1 ⟨rfl, rfl⟩
      go_wp2
      go_ret2
      exact anso_nil rfl (Below.refl _ _)
    · rw [show ansE 7 xs ys n = 0 by simp [ansE, hneg], show ansV 7 xs ys n = vn xs % 2 ^ n.toNat by simp [ansV, hneg]]
      obtain ⟨m, rfl⟩ := Int.eq_ofNat_of_zero_le (show 0 ≤ n by omega)
      rw [Int.toNat_natCast]
      have HC := hid ((rlow_any ha (n := m) (by omega) (by omega)).mono (R' := AnsO 35184372088832 w 0 (vn xs % 2 ^ m)) fun e w1 q => told2_own q rfl)
      clear ha hb
      go_enter Tryd.func7, Tryd.ntmps7
      go_wp2_with fail
      refine HC.out.mono ?_
      intro e w1 hans
      obtain ⟨zs, r, rfl, h1, h2, h3, h4⟩ := hans
      have H3 := hid h3
      clear h3
      go_wp2
      go_ret2
      exact ⟨zs, r, rfl, h1, h2, H3.out, h4⟩
  rw [show ansE kind xs ys n = 0 by simp [ansE, k2, k3, k5, k6, k7], show ansV kind xs ys n = vn xs by simp [ansV, k2, k3, k5, k6, k7]]
  have b2 : (kind == 2) = false := by simp [k2]
  have b3 : (kind == 3) = false := by simp [k3]
  have b5 : (kind == 5) = false := by simp [k5]
  have b6 : (kind == 6) = false := by simp [k6]
  have b7 : (kind == 7) = false := by simp [k7]
  have HC := hid ((rleast_any ha (by omega)).mono (R' := AnsP 35184372088832 w (vn xs)) fun e w1 q => told_own q (val_vn wx))
  clear ha hb k2 k3 k5 k6 k7
  go_enter Tryd.func7, Tryd.ntmps7
  go_wp2_with fail
  refine HC.out.mono ?_
  rintro e w1 ⟨zs, r, rfl, h1, h2, h3, h4⟩
  have H3 := hid h3
  clear h3
  go_wp2
  go_ret2
  exact ⟨zs, r, rfl, h1, h2, H3.out, h4⟩
end Go.Proofs.YtagfekcocdjhlaaDoor
