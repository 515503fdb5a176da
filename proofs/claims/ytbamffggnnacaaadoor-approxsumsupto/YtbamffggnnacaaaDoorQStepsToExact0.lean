/-
  QStepsToExact0: Steps, MAdd, Wr7, Alike, Exact0, joined.
-/
import Derived.Test.YtbamffggnnacaaaDoorQMulAll
import Derived.Test.YtbamffggnnacaaaDoorQLitsToTakeFrom
import Derived.Test.YtbamffggnnacaaaDoorQFt7ToFq7
import Derived.Test.YtbamffggnnacaaaDoorQWz7ToDivPure
import Derived.Test.YtbamffggnnacaaaDoorQDivMod
import Derived.Test.YtbamffggnnacaaaDoorQZAdd

/- Steps -/
namespace Go.Proofs.YtbamffggnnacaaaDoor
open Go.RowKit
set_option linter.unusedVariables false

theorem Makes.step {w w1 w' : World} {s : Int} {e : Ending} (hb : Below w.heap.size w w1) (h : Makes w1 s e w') : Makes w s e w' := by
  obtain ⟨zs, r, rfl, m1, m2, m3, m4⟩ := h
  exact ⟨zs, r, rfl, m1.mono hb.size, m2, m3, below_step hb m4⟩
theorem added_makes {w w' : World} {s : Int} {k : Nat} {e : Ending} (h : Added w s k e w') : Makes w s e w' := by
  obtain ⟨zs, cap, r, rfl, hc, hv, hk, hl, hm, hr, hb, hs⟩ := h
  exact ⟨zs, _, rfl, ⟨hc.1, .inr ⟨_, r, cap, Nat.le_refl _, by omega, by omega, by unfold maxLen; omega, rfl, hr⟩⟩, hc, hv, hb⟩

end Go.Proofs.YtbamffggnnacaaaDoor

/- MAdd -/
namespace Go.Proofs.YtbamffggnnacaaaDoor
open Go.RowKit
set_option linter.unusedVariables false

theorem mulAdd_any {w : World} {va vb vc : Value} {xs ys zs : List Int} (ha : Sl w.heap.size w va xs) (hb : Sl w.heap.size w vb ys) (hc : Sl w.heap.size w vc zs) (hl : xs.length + ys.length < 35184372088832) (hl' : zs.length < 35184372088832) :
    Calls Tryd.prog 63 #[va, vb, vc] w (Makes w (val xs * val ys + val zs)) := by
  have HM := hid (mul_now ha hb (by omega))
  clear ha hb
  go_enter Tryd.func63, Tryd.ntmps63
  go_wp2_with fail
  refine HM.out.mono ?_
  rintro e w1 ⟨P, pa, pc, rfl, p0, cp, HP, lp, k1⟩
  have c1 := hc.now k1
  replace HP := hid HP
  clear hc HM
  go_wp2_with fail
  refine (add_any p0 c1 (by omega) (by omega)).mono ?_
  rintro e w2 hm
  have hm' := (added_makes hm).step k1
  obtain ⟨qs, r, rfl, m1, m2, m3, m4⟩ := hm'
  clear hm
  go_wp2
  go_ret
  exact ⟨qs, r, rfl, m1, m2, by rw [m3, HP.out], m4⟩
theorem mulAdd_now {w : World} {va vb vc : Value} {xs ys zs : List Int} (ha : Sl w.heap.size w va xs) (hb : Sl w.heap.size w vb ys) (hc : Sl w.heap.size w vc zs) (hl : xs.length + ys.length < 35184372088832) (hl' : zs.length < 35184372088832) :
    Calls Tryd.prog 63 #[va, vb, vc] w fun e w' => ∃ qs a cap, e = .returned (.slice a qs.length cap) ∧ Sl w'.heap.size w' (.slice a qs.length cap) qs ∧ Canon qs ∧ val qs = val xs * val ys + val zs ∧ Below w.heap.size w w' :=
  (mulAdd_any ha hb hc hl hl').mono fun e w' ⟨qs, r, h1, m1, m2, m3, m4⟩ => by
    obtain ⟨a, cap, rfl⟩ := m1.form
    exact ⟨qs, a, cap, h1, m1.sl, m2, m3, m4⟩
end Go.Proofs.YtbamffggnnacaaaDoor

/- Wr7 -/
namespace Go.Proofs.YtbamffggnnacaaaDoor
open Go.RowKit
set_option linter.unusedVariables false

theorem places_max (a b : Nat) : max (54 - ((bitLen a : Int) - (bitLen b : Int))) 0 = (qplaces a b : Int) := by unfold qplaces; omega
theorem wid_vn {ys : List Int} (hy : WF ys) (h : vn ys ≠ 0) : wid ys ≠ 0 := fun e => h (wid_zero_vn hy e)
/-- What quotient answers. -/
def Quot7 (w : World) (a b k : Nat) (e : Ending) (w' : World) : Prop :=
  ∃ v zs, e = .returned (.tuple #[v, .int .i64 (qplace a b)]) ∧ Sl w'.heap.size w' v zs ∧ vn zs = qsize a b ∧ zs.length ≤ k ∧ Below w.heap.size w w'
theorem div_parts {a b q r : Nat} (hr : r < b) (h : a = b * q + r) : a / b = q ∧ a % b = r := by
  subst h
  rw [Nat.mul_add_div (by omega), Nat.div_eq_of_lt hr, Nat.mul_add_mod, Nat.mod_eq_of_lt hr]
  exact ⟨rfl, rfl⟩
set_option maxHeartbeats 1600000 in
theorem quotient_any {w : World} {va vb : Value} {xs ys : List Int} (ha : Sl w.heap.size w va xs) (hb : Sl w.heap.size w vb ys) (hy : vn ys ≠ 0) (hxl : xs.length ≤ 1000000000000) (hyl : ys.length ≤ 1000000000000) :
    Calls Tryd.prog 44 #[va, vb] w (Quot7 w (vn xs) (vn ys) (xs.length + 20000)) := by
  have HA := hid (bitLen_any ha)
  have HB := hid (bitLen_any hb)
  have la := bl_upto (vn_lt ha.1)
  have lb := bl_upto (vn_lt hb.1)
  by_cases hf : qfar (vn xs) (vn ys)
  · have hq : qsize (vn xs) (vn ys) = 1 := by unfold qsize; rw [if_pos hf]
    have hp : qplace (vn xs) (vn ys) = (bitLen (vn xs) : Int) - (bitLen (vn ys) : Int) := by unfold qplace; rw [if_pos hf]
    unfold Quot7
    rw [hq, hp]
    unfold qfar at hf
    generalize bitLen (vn xs) = X at *
    generalize bitLen (vn ys) = Y at *
    obtain ⟨W0, hW0⟩ : ∃ W0, w.alloc (.cells #[.int .u64 1] 37) = W0 := ⟨_, rfl⟩
    have b0 : Below w.heap.size w W0 := by rw [← hW0]; exact (Below.refl _ _).alloc (Nat.le_refl _) _
    have s1 := word_one w 1 ⟨by omega, by omega⟩
    rw [hW0] at s1
    have S1 := hid s1
    have B0 := hid b0
    have EW := hid hW0
    clear ha hb s1 b0 hW0
    go_enter Tryd.func44, Tryd.ntmps44
    go_wp2_with fail
    refine HA.out.mono ?_
    rintro e w ⟨rfl, rfl⟩
    go_wp2_with fail
    refine HB.out.mono ?_
    rintro e w ⟨rfl, rfl⟩
    rcases hf with q | q
    · go_wp2
      go_ret2
      rw [EW.out]
      exact ⟨_, _, rfl, S1.out, rfl, by simp, B0.out⟩
    · by_cases q2 : 1024 < (X : Int) - (Y : Int)
      · omega
      · go_wp2
        go_ret2
        rw [EW.out]
        exact ⟨_, _, rfl, S1.out, rfl, by simp, B0.out⟩
  · have hpl := places_max (vn xs) (vn ys)
    have hple : qplaces (vn xs) (vn ys) ≤ 1129 := by unfold qfar at hf; unfold qplaces; omega
    have HM := hid (moved_any ha (n := (qplaces (vn xs) (vn ys) : Int)) (by omega) (by omega) (by omega))
    rw [show mv (vn xs) (qplaces (vn xs) (vn ys) : Int) = vn xs * 2 ^ qplaces (vn xs) (vn ys) by unfold mv; rw [if_neg (by omega), Int.toNat_natCast]] at HM
    have HQ : Hid (∀ q r : Nat, r < vn ys → vn xs * 2 ^ qplaces (vn xs) (vn ys) = vn ys * q + r → qsize (vn xs) (vn ys) = (if r = 0 then q else q * 2 + 1) ∧ qplace (vn xs) (vn ys) = (if r = 0 then -(qplaces (vn xs) (vn ys) : Int) else -(qplaces (vn xs) (vn ys) : Int) - 1)) := by
      intro q r h1 h2
      obtain ⟨e1, e2⟩ := div_parts h1 h2
      unfold qsize qplace
      rw [if_neg hf, if_neg hf, e1, e2]
      exact ⟨rfl, rfl⟩
    have HD : Hid (∀ (w' : World) (u : Value) (zs : List Int), Below w.heap.size w w' → Sl w'.heap.size w' u zs → zs.length ≤ xs.length + 16385 → Calls Tryd.prog 45 #[u, vb] w' (DivModed w' zs ys)) := fun w' u zs q1 q2 q3 => divMod_any q2 (hb.now q1) (wid_vn hb.1 hy) (by omega) (by omega)
    have HY := hid (val_vn hb.1)
    unfold Quot7
    have hf1 : ¬ 1024 < (bitLen (vn xs) : Int) - (bitLen (vn ys) : Int) := fun q => hf (.inl q)
    have hf2 : ¬ (bitLen (vn xs) : Int) - (bitLen (vn ys) : Int) < -1075 := fun q => hf (.inr q)
    generalize qsize (vn xs) (vn ys) = QS at *
    generalize qplace (vn xs) (vn ys) = QP at *
    generalize qplaces (vn xs) (vn ys) = P at *
    generalize bitLen (vn xs) = X at *
    generalize bitLen (vn ys) = Y at *
    clear ha hb hf
    go_enter Tryd.func44, Tryd.ntmps44
    go_wp2_with fail
    refine HA.out.mono ?_
    rintro e w ⟨rfl, rfl⟩
    go_wp2_with fail
    refine HB.out.mono ?_
    rintro e w ⟨rfl, rfl⟩
    go_wp2_with fail
    refine HM.out.mono ?_
    rintro e w1 ⟨zs, u, rfl, o1, q1, v1, l1, b1⟩
    have HD1 := hid (HD.out w1 u zs b1 o1.sl l1)
    have B1 := hid b1
    have HZ := hid (val_vn q1.1)
    rw [v1] at HZ
    clear HD HM o1 q1 v1 b1 HA HB
    go_wp2_with fail
    refine HD1.out.mono ?_
    rintro e w2 ⟨qs, rs, qv, rv, rfl, o2, o3, c2, c3, hdv, hlt, lq, lr, -, b2⟩
    obtain ⟨aq, cq, rfl⟩ := o2.form
    obtain ⟨ar, cr, rfl⟩ := o3.form
    have hq0 := val_vn c2.1
    have hr0 := val_vn c3.1
    have H12 := HQ.out (vn qs) (vn rs) (by have := HY.out; omega) (by
      have h3 := HZ.out
      have h4 := HY.out
      rw [h3, h4, hq0, hr0] at hdv
      have : ((vn xs * 2 ^ P : Nat) : Int) = ((vn ys * vn qs + vn rs : Nat) : Int) := by rw [hdv]; simp
      exact Int.ofNat_inj.1 this)
    have S2 := hid o2.sl
    have HC := hid c2
    have B2 := hid (below_step B1.out b2)
    have HV := hid hq0
    by_cases h0 : rs.length = 0
    · have e0 : rs = [] := List.eq_nil_of_length_eq_zero h0
      have hz : vn rs = 0 := by rw [e0]; rfl
      rw [hz, if_pos rfl, if_pos rfl] at H12
      have H3 := hid H12
      have q0 : ((0 : Int) == 0) = true := rfl
      rw [h0]
      clear H12 o2 o3 c2 c3 hdv hlt b2 hq0 hr0 HD1 HQ hz
      go_wp2
      go_ret2
      exact ⟨_, qs, by rw [H3.out.2]; rfl, S2.out, by rw [H3.out.1], by omega, B2.out⟩
    · have hz : vn rs ≠ 0 := fun e => h0 (by rw [canon_zero c3 (by rw [hr0, e]; rfl)]; rfl)
      rw [if_neg hz, if_neg hz] at H12
      have H3 := hid H12
      have q0 : (((rs.length : Nat) : Int) == 0) = false := by simp; exact fun e => h0 (by rw [e]; rfl)
      obtain ⟨W3, hW3⟩ : ∃ W3, (w2.alloc (.cells #[.int .u64 2] 37)).alloc (.cells #[.int .u64 1] 37) = W3 := ⟨_, rfl⟩
      have ba : Below w2.heap.size w2 (w2.alloc (.cells #[.int .u64 2] 37)) := (Below.refl _ _).alloc (Nat.le_refl _) _
      have bb : Below (w2.alloc (.cells #[.int .u64 2] 37)).heap.size (w2.alloc (.cells #[.int .u64 2] 37)) W3 := by rw [← hW3]; exact (Below.refl _ _).alloc (Nat.le_refl _) _
      have s2 := (word_one w2 2 ⟨by omega, by omega⟩).now bb
      have s3 := word_one (w2.alloc (.cells #[.int .u64 2] 37)) 1 ⟨by omega, by omega⟩
      rw [hW3] at s3
      rw [show (w2.alloc (.cells #[.int .u64 2] 37)).heap.size = w2.heap.size + 1 by simp] at s3
      have bab := below_step ba bb
      have HMA := hid (mulAdd_any (S2.out.now bab) s2 s3 (by simp; omega) (by simp))
      have EW := hid hW3
      have B3 := hid (below_step B2.out bab)
      clear H12 o2 o3 c2 c3 hdv hlt b2 hq0 hr0 HD1 HQ hz hW3 ba bb s2 s3 bab
      go_wp2_with fail
      rw [EW.out]
      refine HMA.out.mono ?_
      rintro e w4 ⟨ts, tv, rfl, m1, m2, m3, m4⟩
      have B4 := hid (below_step B3.out m4)
      have hv4 := val_vn m2.1
      have hvt : vn ts = QS := by
        have e1 : val ts = val qs * 2 + 1 := by rw [m3]; simp [val]
        rw [H3.out.1]
        have := HV.out
        omega
      have hlt : ts.length ≤ xs.length + 20000 := by
        have e1 : val ts = val qs * 2 + 1 := by rw [m3]; simp [val]
        have h5 := val_lt_pw HC.out.1
        have : ts.length ≤ qs.length + 1 := canon_len m2 (by
          rw [e1]; show _ < wB * pw qs.length; unfold wB; omega)
        omega
      have S4 := hid m1.sl
      have HVT := hid hvt
      have HLT := hid hlt
      clear m1 m2 m3 m4 hv4 hvt hlt EW HMA
      go_wp2
      go_ret2
      exact ⟨_, ts, by rw [H3.out.2]; rfl, S4.out, HVT.out, HLT.out, B4.out⟩
end Go.Proofs.YtbamffggnnacaaaDoor

/- Alike -/
namespace Go.Proofs.YtbamffggnnacaaaDoor
open Go.RowKit
set_option linter.unusedVariables false

/-- A list of integers in whatever form, each of at most k words. -/
def Zl (w : World) (v : Value) (zs : List Int) (k : Nat) : Prop :=
  ∃ a c, v = .slice a zs.length c ∧ zs.length ≤ c ∧ zs.length ≤ 1048576 ∧ (zs = [] ∨ ∃ b off, a = some ⟨b, off, none⟩ ∧ b < w.heap.size ∧ ∀ j (h : j < zs.length), ∃ x y, w.cell? ⟨b, off + 2 * j, none⟩ = some x ∧ w.cell? ⟨b, off + 2 * j + 1, none⟩ = some y ∧ Zi w (.agg #[x, y]) zs[j] k)
theorem Zl.now {w w' : World} {v : Value} {zs : List Int} {k : Nat} (h : Zl w v zs k) (hb : Below w.heap.size w w') : Zl w' v zs k := by
  obtain ⟨a, c, h1, h2, h3, h4⟩ := h
  refine ⟨a, c, h1, h2, h3, ?_⟩
  rcases h4 with h4 | ⟨b, off, h5, h6, h7⟩
  · exact .inl h4
  · refine .inr ⟨b, off, h5, Nat.lt_of_lt_of_le h6 hb.size, fun j hj => ?_⟩
    obtain ⟨x, y, q1, q2, q3⟩ := h7 j hj
    exact ⟨x, y, (hb.cell (p := ⟨b, off + 2 * j, none⟩) h6).trans q1, (hb.cell (p := ⟨b, off + 2 * j + 1, none⟩) h6).trans q2, q3.now hb⟩
def zsum (zs : List Int) : Int := zs.foldr (· + ·) 0
theorem zsum_append (xs ys : List Int) : zsum (xs ++ ys) = zsum xs + zsum ys := by
  induction xs with
  | nil => simp [zsum]
  | cons x r ih => simp [zsum] at ih ⊢; omega
theorem Zl.taken {w : World} {a : Option Addr} {len c : Nat} {zs : List Int} {k : Nat} (h : Zl w (.slice a len c) zs k) {n : Nat} (hn : n ≤ zs.length) : Zl w (.slice a n c) (zs.take n) k := by
  obtain ⟨a', c', he, h2, h2', h3⟩ := h
  simp only [Value.slice.injEq] at he
  obtain ⟨rfl, rfl, rfl⟩ := he
  have e : (zs.take n).length = n := by simp; omega
  refine ⟨a, c, by rw [e], by omega, by omega, ?_⟩
  rcases h3 with rfl | ⟨b, off, h4, h5, h6⟩
  · exact .inl (by simp)
  · refine .inr ⟨b, off, h4, h5, fun j hj => ?_⟩
    rw [e] at hj
    have := h6 j (by omega)
    simpa using this
theorem Zl.dropped {w : World} {b off : Nat} {len c : Nat} {zs : List Int} {k : Nat} (h : Zl w (.slice (some ⟨b, off, none⟩) len c) zs k) {n : Nat} (hn : n ≤ zs.length) : Zl w (.slice (some ⟨b, off + 2 * n, none⟩) (len - n) (c - n)) (zs.drop n) k := by
  obtain ⟨a', c', he, h2, h2', h3⟩ := h
  simp only [Value.slice.injEq] at he
  obtain ⟨rfl, rfl, rfl⟩ := he
  have e : (zs.drop n).length = zs.length - n := by simp
  refine ⟨_, _, by rw [e], by omega, by omega, ?_⟩
  rcases h3 with rfl | ⟨b', off', h4, h5, h6⟩
  · exact .inl (by simp)
  · simp only [Option.some.injEq, Addr.mk.injEq, and_true] at h4
    obtain ⟨rfl, rfl⟩ := h4
    refine .inr ⟨b, off + 2 * n, rfl, h5, fun j hj => ?_⟩
    rw [e] at hj
    have := h6 (n + j) (by omega)
    rw [Nat.mul_add, ← Nat.add_assoc] at this
    simpa using this

end Go.Proofs.YtbamffggnnacaaaDoor

/- Exact0 -/
namespace Go.Proofs.YtbamffggnnacaaaDoor
open Go.RowKit
set_option linter.unusedVariables false

/-- Quotient and rest are one pair. -/
theorem div_one {X Y q r q' r' : Int} (h : X = Y * q + r) (h' : X = Y * q' + r') (a : 0 ≤ r) (b : r < Y) (a' : 0 ≤ r') (b' : r' < Y) : q' = q ∧ r' = r := by
  have e : Y * (q' - q) = r - r' := by rw [Int.mul_sub]; omega
  rcases Int.lt_trichotomy (q' - q) 0 with k | k | k
  · have := Int.mul_le_mul_of_nonneg_left (show q' - q ≤ -1 by omega) (show 0 ≤ Y by omega)
    rw [Int.mul_neg, Int.mul_one] at this
    omega
  · rw [k, Int.mul_zero] at e
    omega
  · have := Int.mul_le_mul_of_nonneg_left (show 1 ≤ q' - q by omega) (show 0 ≤ Y by omega)
    rw [Int.mul_one] at this
    omega

/-- What Exact answers, b not being 0. -/
def Exacted (w : World) (xs ys : List Int) (e : Ending) (w' : World) : Prop :=
  ∃ qs rs, Canon qs ∧ Canon rs ∧ val xs = val ys * val qs + val rs ∧ val rs < val ys ∧ qs.length ≤ xs.length ∧ Below w.heap.size w w' ∧
    ((rs = [] ∧ ∃ q, e = .returned (.tuple #[q, .int .i64 0]) ∧ Own w.heap.size w' q qs) ∨ (rs ≠ [] ∧ e = .returned (.tuple #[.slice none 0 0, .int .i64 8])))

end Go.Proofs.YtbamffggnnacaaaDoor
