/-
  QMulAllToWordful: MulAll, Square, Bunch, Wordful, joined.
-/
import Derived.Test.YtiiemeigbnnlpaaGreatDoorQMul
import Derived.Test.YtiiemeigbnnlpaaGreatDoorQWrite
import Derived.Deep.AppendLies

/- MulAll -/
namespace Go.Proofs.YtiiemeigbnnlpaaGreatDoor
open Go.RowKit
set_option linter.unusedVariables false

theorem MulOk.less {M N : Nat} (h : MulOk N) (hM : M ≤ N) : MulOk M := fun w v u xs ys h1 h2 h3 h4 => h w v u xs ys h1 h2 h3 (by omega)
theorem Makes.as {w w' : World} {s t : Int} {e : Ending} (h : Makes w s e w') (hst : s = t) : Makes w t e w' := by subst hst; exact h

set_option maxHeartbeats 6400000 in
theorem mul_step {w : World} {va vb : Value} {xs ys : List Int} (ha : Sl w.heap.size w va xs) (hb : Sl w.heap.size w vb ys) (hl : xs.length + ys.length ≤ 35184372088832) (IH : MulOk (xs.length + ys.length)) :
    Calls Tryz.prog 62 #[va, vb] w (Makes w (val xs * val ys)) := by
  obtain ⟨a, ca, rfl⟩ : ∃ a ca, va = .slice a xs.length ca := by obtain ⟨_, a, ca, e, _⟩ := ha; exact ⟨a, ca, e⟩
  obtain ⟨b, cb, rfl⟩ : ∃ b cb, vb = .slice b ys.length cb := by obtain ⟨_, b, cb, e, _⟩ := hb; exact ⟨b, cb, e⟩
  have HT1 := hid (trimmed_any ha)
  have HT2 := hid (trimmed_any hb)
  have l1 := wid_le xs
  have l2 := wid_le ys
  have SX := hid (ha.taken l1)
  have SY := hid (hb.taken l2)
  change Hid (Sl w.heap.size w _ (lst xs)) at SX
  change Hid (Sl w.heap.size w _ (lst ys)) at SY
  have CX := hid (canon_lst ha.1)
  have CY := hid (canon_lst hb.1)
  have LX := hid (length_lst xs)
  have LY := hid (length_lst ys)
  have IH' := hid (IH.less (show wid xs + wid ys ≤ xs.length + ys.length by omega))
  rw [← val_lst xs, ← val_lst ys]
  have hl2 : wid xs + wid ys ≤ 35184372088832 := by omega
  generalize lst xs = X at *
  generalize lst ys = Y at *
  generalize wid xs = n at *
  generalize wid ys = m at *
  clear IH ha hb hl
  by_cases hlt : n < m
  · skip
    have hh : ((m : Int) + 1) / 2 = (((m + 1) / 2 : Nat) : Int) := by omega
    have hg1 : 2 * ((m + 1) / 2) ≤ m + 1 ∧ m ≤ 2 * ((m + 1) / 2) := by omega
    generalize (m + 1) / 2 = h at *
    by_cases h0 : n = 0
    · have hz : ((n : Int) == 0) = true := by rw [beq_iff_eq]; omega
      go_enter Tryz.func62, Tryz.ntmps62
      go_wp2_with fail
      refine HT1.out.mono ?_
      rintro e w1 ⟨rfl, rfl⟩
      go_wp2_with fail
      refine HT2.out.mono ?_
      rintro e w1 ⟨rfl, rfl⟩
      have h00 := hid h0
      clear h0
      go_wp2
      go_ret
      refine ⟨[], _, rfl, Mine.nil _ _, canon_nil, ?_, Below.refl _ _⟩
      have e0 : X = [] := List.eq_nil_of_length_eq_zero (by rw [LX.out]; exact h00.out)
      rw [e0]
      simp [val]
    · have hz : ((n : Int) == 0) = false := by rw [beq_eq_false_iff_ne]; omega
      have hne : Hid (X ≠ []) := by intro q; have := LX.out; rw [q] at this; simp at this; omega
      by_cases h64 : n < 64
      · skip
        go_enter Tryz.func62, Tryz.ntmps62
        go_wp2_with fail
        refine HT1.out.mono ?_
        rintro e w1 ⟨rfl, rfl⟩
        go_wp2_with fail
        refine HT2.out.mono ?_
        rintro e w1 ⟨rfl, rfl⟩
        go_wp2_with fail
        refine (byWord_any SY.out SX.out (by rw [LY.out, LX.out]; omega)).mono ?_
        rintro e w2 hm
        obtain ⟨zs, r, rfl, m1, m2, m3, m4⟩ := hm
        go_wp2
        go_ret
        exact Makes.as ⟨zs, r, rfl, m1, m2, m3, m4⟩ (Int.mul_comm _ _)
      · by_cases hle : n ≤ h
        · skip
          go_enter Tryz.func62, Tryz.ntmps62
          go_wp2_with fail
          refine HT1.out.mono ?_
          rintro e w1 ⟨rfl, rfl⟩
          go_wp2_with fail
          refine HT2.out.mono ?_
          rintro e w1 ⟨rfl, rfl⟩
          go_wp2_with fail
          refine (byTwo_any SY.out SX.out CY.out CX.out (by rw [LY.out, LX.out]; omega) (by omega) (by rw [LY.out]; omega) hne.out (IH'.out.less (by rw [LY.out, LX.out]; omega))).mono ?_
          rintro e w2 hm
          obtain ⟨zs, r, rfl, m1, m2, m3, m4⟩ := hm
          go_wp2
          go_ret
          exact Makes.as ⟨zs, r, rfl, m1, m2, m3, m4⟩ (Int.mul_comm _ _)
        · skip
          go_enter Tryz.func62, Tryz.ntmps62
          go_wp2_with fail
          refine HT1.out.mono ?_
          rintro e w1 ⟨rfl, rfl⟩
          go_wp2_with fail
          refine HT2.out.mono ?_
          rintro e w1 ⟨rfl, rfl⟩
          go_wp2_with fail
          refine (byFour_any SY.out SX.out CY.out CX.out (by rw [LY.out, LX.out]; omega) (by omega) (by rw [LY.out]; omega) (by rw [LX.out]; omega) (by rw [LY.out]; omega) (by rw [LY.out]; omega) (by rw [LX.out]; omega) (by rw [LX.out, LY.out]; omega) (IH'.out.less (by rw [LY.out, LX.out]; omega))).mono ?_
          rintro e w2 hm
          obtain ⟨zs, r, rfl, m1, m2, m3, m4⟩ := hm
          go_wp2
          go_ret
          exact Makes.as ⟨zs, r, rfl, m1, m2, m3, m4⟩ (Int.mul_comm _ _)
  · skip
    have hh : ((n : Int) + 1) / 2 = (((n + 1) / 2 : Nat) : Int) := by omega
    have hg1 : 2 * ((n + 1) / 2) ≤ n + 1 ∧ n ≤ 2 * ((n + 1) / 2) := by omega
    generalize (n + 1) / 2 = h at *
    by_cases h0 : m = 0
    · have hz : ((m : Int) == 0) = true := by rw [beq_iff_eq]; omega
      go_enter Tryz.func62, Tryz.ntmps62
      go_wp2_with fail
      refine HT1.out.mono ?_
      rintro e w1 ⟨rfl, rfl⟩
      go_wp2_with fail
      refine HT2.out.mono ?_
      rintro e w1 ⟨rfl, rfl⟩
      have h00 := hid h0
      clear h0
      go_wp2
      go_ret
      refine ⟨[], _, rfl, Mine.nil _ _, canon_nil, ?_, Below.refl _ _⟩
      have e0 : Y = [] := List.eq_nil_of_length_eq_zero (by rw [LY.out]; exact h00.out)
      rw [e0]
      simp [val]
    · have hz : ((m : Int) == 0) = false := by rw [beq_eq_false_iff_ne]; omega
      have hne : Hid (Y ≠ []) := by intro q; have := LY.out; rw [q] at this; simp at this; omega
      by_cases h64 : m < 64
      · skip
        go_enter Tryz.func62, Tryz.ntmps62
        go_wp2_with fail
        refine HT1.out.mono ?_
        rintro e w1 ⟨rfl, rfl⟩
        go_wp2_with fail
        refine HT2.out.mono ?_
        rintro e w1 ⟨rfl, rfl⟩
        go_wp2_with fail
        refine (byWord_any SX.out SY.out (by rw [LX.out, LY.out]; omega)).mono ?_
        rintro e w2 hm
        obtain ⟨zs, r, rfl, m1, m2, m3, m4⟩ := hm
        go_wp2
        go_ret
        exact Makes.as ⟨zs, r, rfl, m1, m2, m3, m4⟩ (rfl)
      · by_cases hle : m ≤ h
        · skip
          go_enter Tryz.func62, Tryz.ntmps62
          go_wp2_with fail
          refine HT1.out.mono ?_
          rintro e w1 ⟨rfl, rfl⟩
          go_wp2_with fail
          refine HT2.out.mono ?_
          rintro e w1 ⟨rfl, rfl⟩
          go_wp2_with fail
          refine (byTwo_any SX.out SY.out CX.out CY.out (by rw [LX.out, LY.out]; omega) (by omega) (by rw [LX.out]; omega) hne.out (IH'.out.less (by rw [LX.out, LY.out]; exact Nat.le_refl _))).mono ?_
          rintro e w2 hm
          obtain ⟨zs, r, rfl, m1, m2, m3, m4⟩ := hm
          go_wp2
          go_ret
          exact Makes.as ⟨zs, r, rfl, m1, m2, m3, m4⟩ (rfl)
        · skip
          go_enter Tryz.func62, Tryz.ntmps62
          go_wp2_with fail
          refine HT1.out.mono ?_
          rintro e w1 ⟨rfl, rfl⟩
          go_wp2_with fail
          refine HT2.out.mono ?_
          rintro e w1 ⟨rfl, rfl⟩
          go_wp2_with fail
          refine (byFour_any SX.out SY.out CX.out CY.out (by rw [LX.out, LY.out]; omega) (by omega) (by rw [LX.out]; omega) (by rw [LY.out]; omega) (by rw [LX.out]; omega) (by rw [LX.out]; omega) (by rw [LY.out]; omega) (by rw [LY.out, LX.out]; omega) (IH'.out.less (by rw [LX.out, LY.out]; exact Nat.le_refl _))).mono ?_
          rintro e w2 hm
          obtain ⟨zs, r, rfl, m1, m2, m3, m4⟩ := hm
          go_wp2
          go_ret
          exact Makes.as ⟨zs, r, rfl, m1, m2, m3, m4⟩ (rfl)

theorem mul_ok : ∀ N, MulOk N
  | 0 => fun w v u xs ys _ _ _ h => absurd h (Nat.not_lt_zero _)
  | N + 1 => fun w v u xs ys h1 h2 h3 h4 => mul_step h1 h2 h3 ((mul_ok N).less (by omega))
theorem mul_any {w : World} {va vb : Value} {xs ys : List Int} (ha : Sl w.heap.size w va xs) (hb : Sl w.heap.size w vb ys) (hl : xs.length + ys.length ≤ 35184372088832) :
    Calls Tryz.prog 62 #[va, vb] w (Makes w (val xs * val ys)) := mul_ok _ w va vb xs ys ha hb hl (Nat.lt_succ_self _)
/-- What comes out, as the laws want it. -/
def Gives (w : World) (s : Int) (k : Nat) (e : Ending) (w' : World) : Prop :=
  ∃ zs a cap, e = .returned (.slice a zs.length cap) ∧ Sl w'.heap.size w' (.slice a zs.length cap) zs ∧ Canon zs ∧ val zs = s ∧ zs.length ≤ k ∧ Below w.heap.size w w'
theorem Makes.gives {w w' : World} {s : Int} {k : Nat} {e : Ending} (h : Makes w s e w') (hs : s < pw k) : Gives w s k e w' := by
  obtain ⟨zs, r, rfl, m1, m2, m3, m4⟩ := h
  obtain ⟨a, cap, rfl⟩ := m1.form
  exact ⟨zs, a, cap, rfl, m1.sl, m2, m3, canon_len m2 (by rw [m3]; exact hs), m4⟩
theorem mul_now {w : World} {va vb : Value} {xs ys : List Int} (ha : Sl w.heap.size w va xs) (hb : Sl w.heap.size w vb ys) (hl : xs.length + ys.length ≤ 35184372088832) :
    Calls Tryz.prog 62 #[va, vb] w (Gives w (val xs * val ys) (xs.length + ys.length)) := (mul_any ha hb hl).mono fun _ _ h => h.gives (val_mul_lt ha.1 hb.1)
end Go.Proofs.YtiiemeigbnnlpaaGreatDoor

/- Square -/
namespace Go.Proofs.YtiiemeigbnnlpaaGreatDoor
open Go.RowKit
set_option linter.unusedVariables false

theorem square_any {w : World} {va : Value} {xs : List Int} (ha : Sl w.heap.size w va xs) (hl : xs.length + xs.length ≤ 35184372088832) :
    Calls Tryz.prog 47 #[va] w (Makes w (val xs * val xs)) := by
  have HM := hid (mul_any ha ha hl)
  clear ha
  go_enter Tryz.func47, Tryz.ntmps47
  go_wp2_with fail
  refine HM.out.mono ?_
  rintro e w1 ⟨zs, r, rfl, m1, m2, m3, m4⟩
  go_wp2
  go_ret
  exact ⟨zs, r, rfl, m1, m2, m3, m4⟩
theorem square_now {w : World} {va : Value} {xs : List Int} (ha : Sl w.heap.size w va xs) (hl : xs.length + xs.length ≤ 35184372088832) :
    Calls Tryz.prog 47 #[va] w (Gives w (val xs * val xs) (xs.length + xs.length)) := (square_any ha hl).mono fun _ _ h => h.gives (val_mul_lt ha.1 ha.1)
end Go.Proofs.YtiiemeigbnnlpaaGreatDoor

/- Bunch -/
namespace Go.Proofs.YtiiemeigbnnlpaaGreatDoor
open Go.RowKit
set_option linter.unusedVariables false

theorem Tryz.infoLs : (Tryz.prog.info? 22).map (fun i => (i.zero, i.size, i.bytes)) = some (some (.slice none 0 0), 1, 24) := by kernel_rfl
theorem head_add (g j : Nat) : (⟨g, 0, none⟩ : Addr).add j = ⟨g, j, none⟩ := by unfold Addr.add; split <;> simp_all
theorem mineS_grown {B base n : Nat} {w w' : World} {u v : Value} {zs : List Int} {Us : List Value} (h : Mine B w u zs) (ho : w.ownsRow base 22 1 v n Us) (hg : w.grownBy w' v.ownBlock) : Mine B w' u zs := by
  obtain ⟨hw, h | ⟨g, r, cap, h1, h2, h3, h4, h5, h6⟩⟩ := h
  · exact ⟨hw, .inl h⟩
  · refine ⟨hw, .inr ⟨g, r, cap, h1, h2, h3, h4, h5, (hg.block g h6.lt fun e => ?_).trans h6⟩⟩
    obtain ⟨_, ⟨q, _⟩ | ⟨g', cap', cur, q, _, q4, _⟩⟩ := ho
    · rw [q] at e; cases e
    · rw [q] at e
      simp only [Value.ownBlock, Option.some.injEq] at e
      subst e
      have := h6.symm.trans q4
      simp at this
/-- The slice value v gathers the lists Ps; its row lies from block B on. -/
def Bunch (B : Nat) (w : World) (v : Value) (Ps : List (List Int)) : Prop :=
  ∃ Us : List Value, w.ownsRow B 22 1 v Us.length Us ∧ Us.length = Ps.length ∧ ∀ j (h : j < Us.length) (h' : j < Ps.length), Mine 0 w Us[j] Ps[j]
theorem Bunch.nil (B : Nat) (w : World) : Bunch B w (.slice none 0 0) [] := ⟨[], World.ownsRow_nil _ _ _ _, rfl, fun j h => by simp at h⟩
theorem Bunch.now {B : Nat} {w w' : World} {v : Value} {Ps : List (List Int)} (h : Bunch B w v Ps) (hb : Below w.heap.size w w') : Bunch B w' v Ps := by
  obtain ⟨Us, h1, h2, h3⟩ := h
  refine ⟨Us, ?_, h2, fun j a b => (h3 j a b).below hb⟩
  obtain ⟨q1, q2 | ⟨g, cap, cur, q2, q3, q4, q5⟩⟩ := h1
  · exact ⟨q1, .inl q2⟩
  · exact ⟨q1, .inr ⟨g, cap, cur, q2, q3, (hb.block g (Array.getElem?_eq_some_iff.1 q4).1).trans q4, q5⟩⟩
theorem Bunch.form {B : Nat} {w : World} {v : Value} {Ps : List (List Int)} (h : Bunch B w v Ps) : ∃ a cap, v = .slice a Ps.length cap ∧ Ps.length ≤ cap := by
  obtain ⟨Us, ⟨q1, ⟨q2, q3⟩ | ⟨g, cap, cur, q2, q3, q4, q5, q6⟩⟩, h2, h3⟩ := h
  · exact ⟨none, 0, by rw [q2, ← h2, q3], by omega⟩
  · exact ⟨_, cap, by rw [q2, h2], by omega⟩
theorem Bunch.lw {B : Nat} {w : World} {a : Option Addr} {n cap : Nat} {Ps : List (List Int)} (h : Bunch B w (.slice a n cap) Ps) : Lw w a Ps := by
  obtain ⟨Us, h1, h2, h3⟩ := h
  have h1' := h1
  obtain ⟨q1, ⟨q2, q3⟩ | ⟨g, cap', cur, q2, q3, q4, q5⟩⟩ := h1
  · exact .inl (List.eq_nil_of_length_eq_zero (by omega))
  · simp only [Value.slice.injEq] at q2
    obtain ⟨rfl, rfl, rfl⟩ := q2
    refine .inr ⟨g, 0, rfl, (Array.getElem?_eq_some_iff.1 q4).1, fun j hj => ?_⟩
    have hj' : j < Us.length := by omega
    have := World.ownsRow.cells h1' (g := g) rfl j Us[j] (by simp [hj'])
    rw [head_add] at this
    exact ⟨Us[j], by rw [Nat.zero_add]; exact this, (h3 j hj' hj).sl⟩
theorem wpList_append_bunch (w : World) {ops : Array Oper} {rest : List Oper} {o : Oper} {a : Act} {Q : Exit → Act → World → Prop}
    (hgd : o.guard = none) (s x : Operand) (hop : o.op = .call { callee := .builtin .append, args := #[s, x], argTypes := #[31, 31] })
    (B : Nat) (v u : Value) (Ps : List (List Int)) (zs : List Int) (hs : a.eval s = v) (hB : Bunch B w v Ps) (g : Nat) (hx : a.eval x = .slice (some ⟨g, 0, none⟩) 1 1) (hc : w.cell? ⟨g, 0, none⟩ = some u) (hu : Mine 0 w u zs) (hlen : Ps.length ≤ 1000000000) (hBs : B ≤ w.heap.size)
    (hK : ∀ a' cap' w', Hid (Bunch B w' (.slice a' (Ps.length + 1) cap') (Ps ++ [zs])) → Hid (∀ (u : Value) (zs : List Int) {E : Nat}, Mine E w u zs → Mine E w' u zs) → Hid (Below B w w') → wpList Tryz.prog ops Q rest (a.put o.dst (.slice a' (Ps.length + 1) cap')) w') :
    wpList Tryz.prog ops Q (o :: rest) a w := by
  obtain ⟨i, hi, hz, hsz, hby⟩ := info_parts Tryz.infoLs
  obtain ⟨Us, h1, h2, h3⟩ := hB
  have hone : u.oneCell' = true := by obtain ⟨a, c, rfl⟩ := hu.form; rfl
  refine wpList_append_lies w hgd s x 31 hop B 22 i (.slice none 0 0) 1 24 Tryz.underlying31 hi hz hsz hby rfl (by omega) v Us.length Us hs h1 ⟨g, 0, none⟩ 1 1 [u] hx rfl ?_ ?_ (by omega) (by unfold maxLen; omega) (by omega) hBs w.heap.size rfl ?_
  · intro j u' hj
    match j, hj with
    | 0, hj => simp at hj; subst hj; rw [head_add]; exact hc
  · intro u' hu'
    simp at hu'
    subst hu'
    exact hone
  · intro g' cap' w' k1 k2 k3 k4
    have hl : (Us ++ [u]).length = Us.length + 1 := by simp
    have keep : ∀ (u : Value) (zs : List Int) {E : Nat}, Mine E w u zs → Mine E w' u zs := fun u zs _ h => mineS_grown h h1 k2
    rw [h2] at k1 ⊢
    refine hK _ _ w' ⟨Us ++ [u], by rw [hl, h2]; exact k1, by simp [h2], fun j q1 q2 => ?_⟩ keep ?_
    · rcases Nat.lt_or_ge j Us.length with q | q
      · rw [List.getElem_append_left q, List.getElem_append_left (by omega)]
        exact keep _ _ (h3 j q (by omega))
      · obtain rfl : j = Us.length := by simp at q1; omega
        rw [List.getElem_append_right (by omega), List.getElem_append_right (by omega)]
        simp only [h2, Nat.sub_self, List.getElem_cons_zero]
        exact keep _ _ hu
    · refine ⟨k2.os, k2.tape, k2.output, k2.size, fun k hk => k2.block k (by omega) (fun e => ?_)⟩
      obtain ⟨_, ⟨q, _⟩ | ⟨g1, cap1, cur, q, q3, _⟩⟩ := h1
      · rw [q] at e; cases e
      · rw [q] at e
        obtain rfl : k = g1 := by simpa [Value.ownBlock] using e
        omega
end Go.Proofs.YtiiemeigbnnlpaaGreatDoor

/- Wordful -/
namespace Go.Proofs.YtiiemeigbnnlpaaGreatDoor
open Go.RowKit
set_option linter.unusedVariables false

theorem isBase_any (b : Int) (h0 : -9223372036854775808 ≤ b) (h1 : b ≤ 9223372036854775807) (w : World) : Calls Tryz.prog 29 #[.int .i64 b] w fun e w' => e = .returned (.bool (decide (2 ≤ b ∧ b ≤ 36))) ∧ w' = w := by
  by_cases q1 : (2 : Int) ≤ b
  · by_cases q2 : b ≤ 36
    · rw [decide_eq_true ⟨q1, q2⟩]
      go_enter Tryz.func29, Tryz.ntmps29
      go_wp2
      go_ret
      exact ⟨rfl, rfl⟩
    · rw [decide_eq_false (fun h => q2 h.2)]
      go_enter Tryz.func29, Tryz.ntmps29
      go_wp2
      go_ret
      exact ⟨rfl, rfl⟩
  · rw [decide_eq_false (fun h => q1 h.1)]
    go_enter Tryz.func29, Tryz.ntmps29
    go_wp2
    go_ret
    exact ⟨rfl, rfl⟩
/-- A word holds D digits of the base B, whichever they are, and no more. -/
def WD (B D : Nat) : Prop := 1 ≤ D ∧ D ≤ 64 ∧ B ^ D < 18446744073709551616 ∧ 18446744073709551616 ≤ B ^ D * B
theorem pow_small {B k : Nat} (hB : 2 ≤ B) (h : B ^ k < 18446744073709551616) : k < 64 := by
  rcases Nat.lt_or_ge k 64 with q | q
  · exact q
  · have h1 : 2 ^ 64 ≤ 2 ^ k := Nat.pow_le_pow_right (by omega) q
    have h2 : 2 ^ k ≤ B ^ k := Nat.pow_le_pow_left hB k
    have h3 : (2 : Nat) ^ 64 = 18446744073709551616 := by decide
    omega
set_option maxRecDepth 100000 in
set_option maxHeartbeats 1600000 in
theorem wordful_any {B : Nat} (hB : 2 ≤ B) (hB2 : B ≤ 36) (w : World) : Calls Tryz.prog 30 #[.int .i64 (B : Int)] w fun e w' => ∃ D, WD B D ∧ e = .returned (.tuple #[.int .i64 (D : Int), .slice (some ⟨w.heap.size, 0, none⟩) 1 1]) ∧ Mine 0 w' (.slice (some ⟨w.heap.size, 0, none⟩) 1 1) [((B ^ D : Nat) : Int)] ∧ Below w.heap.size w w' := by
  obtain ⟨Q, hQ⟩ : ∃ Q, Q = 18446744073709551615 / B := ⟨_, rfl⟩
  have e1 : (18446744073709551615 : Int).tdiv (B : Int) = (Q : Int) := by rw [hQ]; exact (Int.ofNat_tdiv 18446744073709551615 B).symm
  have e2 : (18446744073709551615 : Int) / (B : Int) = (Q : Int) := by rw [hQ]; simp
  have hQ2 : Q ≤ 18446744073709551615 := by rw [hQ]; exact Nat.div_le_self _ _
  have HQ : Hid (∀ x : Nat, x ≤ Q ↔ x * B ≤ 18446744073709551615) := fun x => by rw [hQ]; exact Nat.le_div_iff_mul_le (by omega)
  clear hQ
  go_enter Tryz.func30, Tryz.ntmps30
  go_wp2
  go_loop [4, 5] (fun d p => ∃ k P : Nat, 1 ≤ k ∧ k ≤ 64 ∧ d = .int .i64 (k : Int) ∧ p = .int .u64 (P : Int) ∧ P < 18446744073709551616 ∧ Hid (P = B ^ k)) (fun d _ => 64 - (intOf d).toNat)
  case atStart => exact ⟨1, B, by omega, by omega, rfl, rfl, by omega, (by unfold Hid; simp)⟩
  case round =>
    obtain ⟨k, P, hk, hk2, rfl, rfl, hP, HP⟩ := hrel
    by_cases hle : P ≤ Q
    · have h1 := (HQ.out P).1 hle
      have hP2 : Hid (P * B = B ^ (k + 1)) := by unfold Hid; rw [HP.out, Nat.pow_succ]
      have hk3 : k + 1 < 64 := pow_small hB (by rw [← hP2.out]; omega)
      have e3 : (P : Int) * (B : Int) = ((P * B : Nat) : Int) := by simp
      have h4 : P * B < 18446744073709551616 := by omega
      generalize P * B = P2 at *
      have e4 : IntKind.u64.wrap ((P : Int) * (B : Int)) = (P2 : Int) := by rw [e3, IntKind.wrap_u64]; omega
      go_wp2
      go_round
      case rel => exact ⟨k + 1, P2, by omega, by omega, by go_num, by first | rfl | (rw [e3]) | go_num, h4, hP2⟩
      case measure => first | (simp [intOf]; done) | (simp [intOf]; omega)
    · have h1 : ¬ P * B ≤ 18446744073709551615 := fun h => hle ((HQ.out P).2 h)
      have HWD : Hid (WD B k) := ⟨hk, hk2, by rw [← HP.out]; exact hP, by rw [← HP.out]; omega⟩
      have hle2 : ¬ (P : Int) ≤ (Q : Int) := by omega
      have HM : Hid (Mine 0 (w.alloc (.cells #[.int .u64 (P : Int)] 38)) (.slice (some ⟨w.heap.size, 0, none⟩) 1 1) [((B ^ k : Nat) : Int)]) := by
        unfold Hid
        rw [← HP.out]
        refine ⟨wf_word (by omega) WF.nil, .inr ⟨w.heap.size, [], 1, Nat.zero_le _, by simp, by simp, .inl (by simp), by simp, ?_⟩⟩
        exact heap_alloc_new w _
      have HB := hid ((Below.refl w.heap.size w).alloc (Nat.le_refl _) (.cells #[.int .u64 (P : Int)] 38))
      clear HQ h1
      go_wp2
      go_ret2
      exact ⟨k, HWD.out, rfl, HM.out, HB.out⟩
end Go.Proofs.YtiiemeigbnnlpaaGreatDoor
