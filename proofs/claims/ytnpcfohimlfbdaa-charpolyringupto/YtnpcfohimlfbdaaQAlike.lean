/-
  Alike: the law's alike; lists of integers; Sum.
-/
import Derived.Test.YtnpcfohimlfbdaaQZAdd
namespace Go.Proofs.Ytnpcfohimlfbdaa
open Go.RowKit
set_option linter.unusedVariables false

/-- A list of integers in whatever form, each of at most k words. -/
def Zl (w : World) (v : Value) (zs : List Int) (k : Nat) : Prop :=
  ∃ a c, v = .slice a zs.length c ∧ zs.length ≤ c ∧ zs.length ≤ 1048576 ∧ (zs = [] ∨ ∃ b off, a = some ⟨b, off, none⟩ ∧ b < w.heap.size ∧ ∀ j (h : j < zs.length), ∃ x y, w.cell? ⟨b, off + 2 * j, none⟩ = some x ∧ w.cell? ⟨b, off + 2 * j + 1, none⟩ = some y ∧ Zi w (.agg #[x, y]) zs[j] k)
theorem Zl.now {w w' : World} {v : Value} {zs : List Int} {k : Nat} (h : Zl w v zs k) (hb : Below w.heap.size w w') : Zl w' v zs k := by
  obtain ⟨a, c, h1, h2, h3, h4⟩ := h
  refine ⟨a, c, h1, h2, h3, ?_⟩
  rcases h4 with h4 | ⟨b, off, h5, h6, h7⟩
  · exact .inl h4
  · refine .inr ⟨b, off, h5, Nat.lt_of_lt_of_le h6 hb.size, fun j hj => ?_⟩
    obtain ⟨x, y, q1, q2, q3⟩ := h7 j hj
    exact ⟨x, y, (hb.cell (p := ⟨b, off + 2 * j, none⟩) h6).trans q1, (hb.cell (p := ⟨b, off + 2 * j + 1, none⟩) h6).trans q2, q3.now hb⟩
def zsum (zs : List Int) : Int := zs.foldr (· + ·) 0
theorem zsum_append (xs ys : List Int) : zsum (xs ++ ys) = zsum xs + zsum ys := by
  induction xs with
  | nil => simp [zsum]
  | cons x r ih => simp [zsum] at ih ⊢; omega
def SumOk (N : Nat) : Prop := ∀ (w : World) (v : Value) (zs : List Int) (k : Nat), Zl w v zs k → k + zs.length < 35184372088832 → zs.length < N → Calls Try.prog 40 #[v] w (GivesZ w (zsum zs) (k + zs.length))

theorem Zl.taken {w : World} {a : Option Addr} {len c : Nat} {zs : List Int} {k : Nat} (h : Zl w (.slice a len c) zs k) {n : Nat} (hn : n ≤ zs.length) : Zl w (.slice a n c) (zs.take n) k := by
  obtain ⟨a', c', he, h2, h2', h3⟩ := h
  simp only [Value.slice.injEq] at he
  obtain ⟨rfl, rfl, rfl⟩ := he
  have e : (zs.take n).length = n := by simp; omega
  refine ⟨a, c, by rw [e], by omega, by omega, ?_⟩
  rcases h3 with rfl | ⟨b, off, h4, h5, h6⟩
  · exact .inl (by simp)
  · refine .inr ⟨b, off, h4, h5, fun j hj => ?_⟩
    rw [e] at hj
    have := h6 j (by omega)
    simpa using this
theorem Zl.dropped {w : World} {b off : Nat} {len c : Nat} {zs : List Int} {k : Nat} (h : Zl w (.slice (some ⟨b, off, none⟩) len c) zs k) {n : Nat} (hn : n ≤ zs.length) : Zl w (.slice (some ⟨b, off + 2 * n, none⟩) (len - n) (c - n)) (zs.drop n) k := by
  obtain ⟨a', c', he, h2, h2', h3⟩ := h
  simp only [Value.slice.injEq] at he
  obtain ⟨rfl, rfl, rfl⟩ := he
  have e : (zs.drop n).length = zs.length - n := by simp
  refine ⟨_, _, by rw [e], by omega, by omega, ?_⟩
  rcases h3 with rfl | ⟨b', off', h4, h5, h6⟩
  · exact .inl (by simp)
  · simp only [Option.some.injEq, Addr.mk.injEq, and_true] at h4
    obtain ⟨rfl, rfl⟩ := h4
    refine .inr ⟨b, off + 2 * n, rfl, h5, fun j hj => ?_⟩
    rw [e] at hj
    have := h6 (n + j) (by omega)
    rw [Nat.mul_add, ← Nat.add_assoc] at this
    simpa using this

theorem slice_lo (w : World) (b off n c mid : Nat) (h : mid ≤ c) : (Instr.slice 22 (.slice (some ⟨b, off, none⟩) n c) none (some (.int .i64 (mid : Int))) none).run Try.prog w = .ok (.slice (some ⟨b, off, none⟩) mid c) w := by
  have i3 : (mid : Int) ≤ (c : Int) := by omega
  have i1 : (0 : Int) ≤ (mid : Int) := by omega
  go_simp
theorem slice_hi (w : World) (b off n c mid : Nat) (h : mid ≤ n) (h2 : mid < c) : (Instr.slice 22 (.slice (some ⟨b, off, none⟩) n c) (some (.int .i64 (mid : Int))) none none).run Try.prog w = .ok (.slice (some ⟨b, off + 2 * mid, none⟩) (n - mid) (c - mid)) w := by
  have i3 : (mid : Int) ≤ (n : Int) := by omega
  have i1 : (0 : Int) ≤ (mid : Int) := by omega
  have i4 : ¬ c = mid := by omega
  go_simp
set_option maxHeartbeats 800000 in
set_option maxRecDepth 100000 in
theorem sum_none {w : World} {v : Value} {k : Nat} (h : Zl w v [] k) : Calls Try.prog 40 #[v] w (GivesZ w (zsum []) k) := by
  obtain ⟨a, c, rfl, h2, _, _⟩ := h
  have hz : ((0 : Int) == 0) = true := rfl
  have K := hid ((Below.refl w.heap.size w).alloc (Nat.le_refl _) zbox)
  go_enter Try.func40, Try.ntmps40
  go_wp2
  exact bodyPost_ret (zback Try.results40 (Duo.new w _ _) _ (by rfl)) rfl ⟨_, rfl, ⟨false, [], none, 0, rfl, Mine.nil _ _, ⟨WF.nil, rfl⟩, fun _ => rfl, by simp [iv, val, zsum], Nat.zero_le _⟩, K.out⟩
set_option maxHeartbeats 800000 in
set_option maxRecDepth 100000 in
theorem sum_one {w : World} {v : Value} {z : Int} {k : Nat} (h : Zl w v [z] k) : Calls Try.prog 40 #[v] w (GivesZ w (zsum [z]) (k + 1)) := by
  obtain ⟨a, c, rfl, h2, _, e | ⟨b, off, rfl, h5, h6⟩⟩ := h
  · cases e
  obtain ⟨x, y, h7, h8, h9⟩ := h6 0 (by simp)
  have b0 : Below w.heap.size w (w.alloc zbox) := (Below.refl _ _).alloc (Nat.le_refl _) _
  have c0 : (w.alloc zbox).cell? ⟨b, off, none⟩ = some x := (b0.cell (p := ⟨b, off, none⟩) h5).trans h7
  have c1 : (w.alloc zbox).cell? ⟨b, off + 1, none⟩ = some y := (b0.cell (p := ⟨b, off + 1, none⟩) h5).trans h8
  have hz : ((1 : Int) == 0) = false := rfl
  have hz1 : ((1 : Int) == 1) = true := rfl
  have HL := hid (least_z (h9.now b0))
  have HKR : Hid (∀ w', Below (w.alloc zbox).heap.size (w.alloc zbox) w' → Duo w' w.heap.size (.bool false) (.slice none 0 0)) := fun w' h => (Duo.new w _ _).below h (by simp)
  have B0 := hid b0
  have ez : zsum [z] = z := by simp [zsum]
  rw [ez]
  clear h6 h7 h8 h9 b0
  go_enter Try.func40, Try.ntmps40
  go_wp2_with fail
  refine HL.out.mono ?_
  rintro e w1 ⟨r, rfl, m1, b1⟩
  have HM := hid (m1.more (Nat.le_succ k))
  obtain ⟨n1, t1, a1, q1, rfl, -, -, -, -, -⟩ := m1
  have r0 := (HKR.out w1 b1).c0
  have r1 := (HKR.out w1 b1).c1
  have f0 := (HKR.out w1 b1).fz 0
  have f1 := (HKR.out w1 b1).fz 1
  have HP1 := hid b1
  clear b1 HL c0 c1
  go_wp2
  exact bodyPost_ret (zback Try.results40 ((HKR.out w1 HP1.out).set _ _) _ (by rfl)) rfl (gz_end HM.out (below_step B0.out HP1.out) (Nat.le_refl _) (by simp))

set_option maxHeartbeats 3200000 in
set_option maxRecDepth 100000 in
theorem sum_more {w : World} {v : Value} {zs : List Int} {k : Nat} (h : Zl w v zs k) (hk : k + zs.length < 35184372088832) (hn : 2 ≤ zs.length) (IH : SumOk zs.length) :
    Calls Try.prog 40 #[v] w (GivesZ w (zsum zs) (k + zs.length)) := by
  have HL := hid h
  obtain ⟨a, c, rfl, h2, h2', e | ⟨b, off, rfl, h5, h6⟩⟩ := h
  · subst e; simp at hn
  have b0 : Below w.heap.size w (w.alloc zbox) := (Below.refl _ _).alloc (Nat.le_refl _) _
  obtain ⟨n, hnn⟩ : ∃ n, zs.length = n := ⟨_, rfl⟩
  have HT := hid (HL.out.taken (n := zs.length / 2) (by omega))
  have HD := hid (HL.out.dropped (n := zs.length / 2) (by omega))
  have LT : Hid ((zs.take (zs.length / 2)).length = n / 2) := by unfold Hid; rw [List.length_take, hnn]; omega
  have LD : Hid ((zs.drop (zs.length / 2)).length = n - n / 2) := by unfold Hid; rw [List.length_drop, hnn]
  have PV : Hid (zsum zs = zsum (zs.take (zs.length / 2)) + zsum (zs.drop (zs.length / 2))) := by unfold Hid; rw [← zsum_append, List.take_append_drop]
  generalize zs.take (zs.length / 2) = X1 at *
  generalize zs.drop (zs.length / 2) = X2 at *
  obtain ⟨W0, hW0⟩ : ∃ W0, w.alloc zbox = W0 := ⟨_, rfl⟩
  have pR : Duo W0 w.heap.size (.bool false) (.slice none 0 0) := by rw [← hW0]; exact Duo.new w _ _
  have sz0 : W0.heap.size = w.heap.size + 1 := by rw [← hW0]; simp
  rw [hW0] at b0
  have HI : Hid (∀ w', Below W0.heap.size W0 w' → Calls Try.prog 40 #[.slice (some ⟨b, off, none⟩) (zs.length / 2) c] w' (GivesZ w' (zsum X1) (k + zs.length / 2))) := fun w' hb => by
    have := IH w' _ _ _ ((HT.out.now b0).now hb) (by rw [LT.out]; omega) (by rw [LT.out]; omega)
    rw [LT.out, ← hnn] at this
    exact this
  have HJ : Hid (∀ w', Below W0.heap.size W0 w' → Calls Try.prog 40 #[.slice (some ⟨b, off + 2 * (zs.length / 2), none⟩) (zs.length - zs.length / 2) (c - zs.length / 2)] w' (GivesZ w' (zsum X2) (k + (zs.length - zs.length / 2)))) := fun w' hb => by
    have := IH w' _ _ _ ((HD.out.now b0).now hb) (by rw [LD.out]; omega) (by rw [LD.out]; omega)
    rw [LD.out, ← hnn] at this
    exact this
  have HA : Hid (∀ w1 r1, Below W0.heap.size W0 w1 → ∀ w2 r2 w', Zm W0.heap.size w1 r1 (zsum X1) (k + zs.length / 2) → Zm w1.heap.size w2 r2 (zsum X2) (k + (zs.length - zs.length / 2)) → Below w1.heap.size w1 w2 → Below w2.heap.size w2 w' → Calls Try.prog 24 #[r1, r2] w' (GivesZ w' (zsum zs) (k + zs.length))) := fun w1 r1 h1 w2 r2 w' m1 m2 h2 h3 => by
    refine (add_z ((m1.zi.now h2).now h3) (m2.zi.now h3) (by omega) (by omega)).mono fun e w'' q => ?_
    rw [PV.out]
    obtain ⟨r, q1, q2, q3⟩ := q
    exact ⟨r, q1, q2.more (by omega), q3⟩
  have HKR : Hid (∀ w', Below W0.heap.size W0 w' → Duo w' w.heap.size (.bool false) (.slice none 0 0)) := fun w' h => pR.below h (by omega)
  have EW := hid hW0
  have B0 := hid b0
  rw [hnn] at h2 h2' hn HI HJ HA ⊢
  have hz : ((n : Int) == 0) = false := by rw [beq_eq_false_iff_ne]; omega
  have hz1 : ((n : Int) == 1) = false := by rw [beq_eq_false_iff_ne]; omega
  have hh : (n : Int) / 2 = ((n / 2 : Nat) : Int) := by omega
  have hlt : n / 2 < n := by omega
  have hpos : 0 < n / 2 := by omega
  generalize n / 2 = mid at *
  have HS1 := fun wx => slice_lo wx b off n c mid (by omega)
  have HS2 := fun wx => slice_hi wx b off n c mid (by omega) (by omega)
  clear h6 HL HT HD IH LT LD PV hW0 pR b0
  go_enter Try.func40, Try.ntmps40
  go_wp2_with fail
  rw [EW.out]
  go_region_held3 (fun _ => True) (trivial)
    (first
      | (have _ := HP2; go_at_call 24; refine (HA.out w1 _ HP1.out w2 _ _ HM1.out HM2.out HB12.out ?_).mono ?_; (repeat (first | exact Below.refl _ _ | apply Below.drew)); rintro e3 w3 ⟨r3, rfl, m3, b3⟩; have HB23 : Hid (Below w2.heap.size w2 w3) := below_step (w0 := w2) (by repeat (first | exact Below.refl _ _ | apply Below.drew)) b3; have HP3 := hid (below_step HP2.out HB23.out); have HM3 := hid m3; obtain ⟨n3, t3, a3, q3, rfl, -, -, -, -, -⟩ := m3; have y0 := (HKR.out w3 HP3.out).c0; have y1 := (HKR.out w3 HP3.out).c1; have f0 := (HKR.out w3 HP3.out).fz 0; have f1 := (HKR.out w3 HP3.out).fz 1)
      | (have _ := HP1; go_at_call 40; refine (HJ.out _ ?_).mono ?_; (repeat (first | exact HP1.out | apply Below.drew)); rintro e2 w2 ⟨r2, rfl, m2, b2⟩; have HB12 : Hid (Below w1.heap.size w1 w2) := below_step (w0 := w1) (by repeat (first | exact Below.refl _ _ | apply Below.drew)) b2; have HP2 := hid (below_step HP1.out HB12.out); have HM2 := hid m2; obtain ⟨n2, t2, a2, q2, rfl, -, -, -, -, -⟩ := m2)
      | (go_at_call 40; refine (HI.out _ ?_).mono ?_; (repeat (first | exact Below.refl _ _ | apply Below.drew)); rintro e1 w1 ⟨r1, rfl, m1, b1⟩; have HP1 := hid (below_step (w0 := W0) (by repeat (first | exact Below.refl _ _ | apply Below.drew)) b1); have HM1 := hid m1; obtain ⟨n1, t1, a1, q1, rfl, -, -, -, -, -⟩ := m1))
  all_goals go_wp2
  all_goals exact bodyPost_ret (zback Try.results40 ((HKR.out w3 HP3.out).set _ _) _ (by rfl)) rfl (gz_end (HM3.out.mono HP2.out.size) (below_step B0.out HP3.out) (by omega) (by omega))

theorem sum_ok : ∀ N, SumOk N
  | 0 => fun w v zs k _ _ h => absurd h (Nat.not_lt_zero _)
  | N + 1 => fun w v zs k h hk hN => by
    match zs, h, hk, hN with
    | [], h, _, _ => exact sum_none h
    | [x], h, _, _ => exact sum_one h
    | x :: y :: r, h, hk, hN => exact sum_more h hk (by simp) (fun w v zs k h1 h2 h3 => sum_ok N w v zs k h1 h2 (by omega))
theorem sum_z {w : World} {v : Value} {zs : List Int} {k : Nat} (h : Zl w v zs k) (hk : k + zs.length < 35184372088832) : Calls Try.prog 40 #[v] w (GivesZ w (zsum zs) (k + zs.length)) := sum_ok _ w v zs k h hk (Nat.lt_succ_self _)
end Go.Proofs.Ytnpcfohimlfbdaa
