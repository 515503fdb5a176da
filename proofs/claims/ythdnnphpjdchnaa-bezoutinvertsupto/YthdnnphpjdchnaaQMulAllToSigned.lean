/-
  QMulAllToSigned: MulAll, Zed, OpenZ, Signed, joined.
-/
import Derived.Test.YthdnnphpjdchnaaQMul
import Derived.Test.YthdnnphpjdchnaaQOpenToCarry
import Derived.ChangeSame

/- MulAll -/
namespace Go.Proofs.Ythdnnphpjdchnaa
open Go.RowKit
set_option linter.unusedVariables false

theorem MulOk.less {M N : Nat} (h : MulOk N) (hM : M ≤ N) : MulOk M := fun w v u xs ys h1 h2 h3 h4 => h w v u xs ys h1 h2 h3 (by omega)
theorem Makes.as {w w' : World} {s t : Int} {e : Ending} (h : Makes w s e w') (hst : s = t) : Makes w t e w' := by subst hst; exact h

set_option maxHeartbeats 6400000 in
theorem mul_step {w : World} {va vb : Value} {xs ys : List Int} (ha : Sl w.heap.size w va xs) (hb : Sl w.heap.size w vb ys) (hl : xs.length + ys.length ≤ 35184372088832) (IH : MulOk (xs.length + ys.length)) :
    Calls Try.prog 62 #[va, vb] w (Makes w (val xs * val ys)) := by
  obtain ⟨a, ca, rfl⟩ : ∃ a ca, va = .slice a xs.length ca := by obtain ⟨_, a, ca, e, _⟩ := ha; exact ⟨a, ca, e⟩
  obtain ⟨b, cb, rfl⟩ : ∃ b cb, vb = .slice b ys.length cb := by obtain ⟨_, b, cb, e, _⟩ := hb; exact ⟨b, cb, e⟩
  have HT1 := hid (trimmed_any ha)
  have HT2 := hid (trimmed_any hb)
  have l1 := wid_le xs
  have l2 := wid_le ys
  have SX := hid (ha.taken l1)
  have SY := hid (hb.taken l2)
  change Hid (Sl w.heap.size w _ (lst xs)) at SX
  change Hid (Sl w.heap.size w _ (lst ys)) at SY
  have CX := hid (canon_lst ha.1)
  have CY := hid (canon_lst hb.1)
  have LX := hid (length_lst xs)
  have LY := hid (length_lst ys)
  have IH' := hid (IH.less (show wid xs + wid ys ≤ xs.length + ys.length by omega))
  rw [← val_lst xs, ← val_lst ys]
  have hl2 : wid xs + wid ys ≤ 35184372088832 := by omega
  generalize lst xs = X at *
  generalize lst ys = Y at *
  generalize wid xs = n at *
  generalize wid ys = m at *
  clear IH ha hb hl
  by_cases hlt : n < m
  · skip
    have hh : ((m : Int) + 1) / 2 = (((m + 1) / 2 : Nat) : Int) := by omega
    have hg1 : 2 * ((m + 1) / 2) ≤ m + 1 ∧ m ≤ 2 * ((m + 1) / 2) := by omega
    generalize (m + 1) / 2 = h at *
    by_cases h0 : n = 0
    · have hz : ((n : Int) == 0) = true := by rw [beq_iff_eq]; omega
      go_enter Try.func62, Try.ntmps62
      go_wp2_with fail
      refine HT1.out.mono ?_
      rintro e w1 ⟨rfl, rfl⟩
      go_wp2_with fail
      refine HT2.out.mono ?_
      rintro e w1 ⟨rfl, rfl⟩
      have h00 := hid h0
      clear h0
      go_wp2
      go_ret
      refine ⟨[], _, rfl, Mine.nil _ _, canon_nil, ?_, Below.refl _ _⟩
      have e0 : X = [] := List.eq_nil_of_length_eq_zero (by rw [LX.out]; exact h00.out)
      rw [e0]
      simp [val]
    · have hz : ((n : Int) == 0) = false := by rw [beq_eq_false_iff_ne]; omega
      have hne : Hid (X ≠ []) := by intro q; have := LX.out; rw [q] at this; simp at this; omega
      by_cases h64 : n < 64
      · skip
        go_enter Try.func62, Try.ntmps62
        go_wp2_with fail
        refine HT1.out.mono ?_
        rintro e w1 ⟨rfl, rfl⟩
        go_wp2_with fail
        refine HT2.out.mono ?_
        rintro e w1 ⟨rfl, rfl⟩
        go_wp2_with fail
        refine (byWord_any SY.out SX.out (by rw [LY.out, LX.out]; omega)).mono ?_
        rintro e w2 hm
        obtain ⟨zs, r, rfl, m1, m2, m3, m4⟩ := hm
        go_wp2
        go_ret
        exact Makes.as ⟨zs, r, rfl, m1, m2, m3, m4⟩ (Int.mul_comm _ _)
      · by_cases hle : n ≤ h
        · skip
          go_enter Try.func62, Try.ntmps62
          go_wp2_with fail
          refine HT1.out.mono ?_
          rintro e w1 ⟨rfl, rfl⟩
          go_wp2_with fail
          refine HT2.out.mono ?_
          rintro e w1 ⟨rfl, rfl⟩
          go_wp2_with fail
          refine (byTwo_any SY.out SX.out CY.out CX.out (by rw [LY.out, LX.out]; omega) (by omega) (by rw [LY.out]; omega) hne.out (IH'.out.less (by rw [LY.out, LX.out]; omega))).mono ?_
          rintro e w2 hm
          obtain ⟨zs, r, rfl, m1, m2, m3, m4⟩ := hm
          go_wp2
          go_ret
          exact Makes.as ⟨zs, r, rfl, m1, m2, m3, m4⟩ (Int.mul_comm _ _)
        · skip
          go_enter Try.func62, Try.ntmps62
          go_wp2_with fail
          refine HT1.out.mono ?_
          rintro e w1 ⟨rfl, rfl⟩
          go_wp2_with fail
          refine HT2.out.mono ?_
          rintro e w1 ⟨rfl, rfl⟩
          go_wp2_with fail
          refine (byFour_any SY.out SX.out CY.out CX.out (by rw [LY.out, LX.out]; omega) (by omega) (by rw [LY.out]; omega) (by rw [LX.out]; omega) (by rw [LY.out]; omega) (by rw [LY.out]; omega) (by rw [LX.out]; omega) (by rw [LX.out, LY.out]; omega) (IH'.out.less (by rw [LY.out, LX.out]; omega))).mono ?_
          rintro e w2 hm
          obtain ⟨zs, r, rfl, m1, m2, m3, m4⟩ := hm
          go_wp2
          go_ret
          exact Makes.as ⟨zs, r, rfl, m1, m2, m3, m4⟩ (Int.mul_comm _ _)
  · skip
    have hh : ((n : Int) + 1) / 2 = (((n + 1) / 2 : Nat) : Int) := by omega
    have hg1 : 2 * ((n + 1) / 2) ≤ n + 1 ∧ n ≤ 2 * ((n + 1) / 2) := by omega
    generalize (n + 1) / 2 = h at *
    by_cases h0 : m = 0
    · have hz : ((m : Int) == 0) = true := by rw [beq_iff_eq]; omega
      go_enter Try.func62, Try.ntmps62
      go_wp2_with fail
      refine HT1.out.mono ?_
      rintro e w1 ⟨rfl, rfl⟩
      go_wp2_with fail
      refine HT2.out.mono ?_
      rintro e w1 ⟨rfl, rfl⟩
      have h00 := hid h0
      clear h0
      go_wp2
      go_ret
      refine ⟨[], _, rfl, Mine.nil _ _, canon_nil, ?_, Below.refl _ _⟩
      have e0 : Y = [] := List.eq_nil_of_length_eq_zero (by rw [LY.out]; exact h00.out)
      rw [e0]
      simp [val]
    · have hz : ((m : Int) == 0) = false := by rw [beq_eq_false_iff_ne]; omega
      have hne : Hid (Y ≠ []) := by intro q; have := LY.out; rw [q] at this; simp at this; omega
      by_cases h64 : m < 64
      · skip
        go_enter Try.func62, Try.ntmps62
        go_wp2_with fail
        refine HT1.out.mono ?_
        rintro e w1 ⟨rfl, rfl⟩
        go_wp2_with fail
        refine HT2.out.mono ?_
        rintro e w1 ⟨rfl, rfl⟩
        go_wp2_with fail
        refine (byWord_any SX.out SY.out (by rw [LX.out, LY.out]; omega)).mono ?_
        rintro e w2 hm
        obtain ⟨zs, r, rfl, m1, m2, m3, m4⟩ := hm
        go_wp2
        go_ret
        exact Makes.as ⟨zs, r, rfl, m1, m2, m3, m4⟩ (rfl)
      · by_cases hle : m ≤ h
        · skip
          go_enter Try.func62, Try.ntmps62
          go_wp2_with fail
          refine HT1.out.mono ?_
          rintro e w1 ⟨rfl, rfl⟩
          go_wp2_with fail
          refine HT2.out.mono ?_
          rintro e w1 ⟨rfl, rfl⟩
          go_wp2_with fail
          refine (byTwo_any SX.out SY.out CX.out CY.out (by rw [LX.out, LY.out]; omega) (by omega) (by rw [LX.out]; omega) hne.out (IH'.out.less (by rw [LX.out, LY.out]; exact Nat.le_refl _))).mono ?_
          rintro e w2 hm
          obtain ⟨zs, r, rfl, m1, m2, m3, m4⟩ := hm
          go_wp2
          go_ret
          exact Makes.as ⟨zs, r, rfl, m1, m2, m3, m4⟩ (rfl)
        · skip
          go_enter Try.func62, Try.ntmps62
          go_wp2_with fail
          refine HT1.out.mono ?_
          rintro e w1 ⟨rfl, rfl⟩
          go_wp2_with fail
          refine HT2.out.mono ?_
          rintro e w1 ⟨rfl, rfl⟩
          go_wp2_with fail
          refine (byFour_any SX.out SY.out CX.out CY.out (by rw [LX.out, LY.out]; omega) (by omega) (by rw [LX.out]; omega) (by rw [LY.out]; omega) (by rw [LX.out]; omega) (by rw [LX.out]; omega) (by rw [LY.out]; omega) (by rw [LY.out, LX.out]; omega) (IH'.out.less (by rw [LX.out, LY.out]; exact Nat.le_refl _))).mono ?_
          rintro e w2 hm
          obtain ⟨zs, r, rfl, m1, m2, m3, m4⟩ := hm
          go_wp2
          go_ret
          exact Makes.as ⟨zs, r, rfl, m1, m2, m3, m4⟩ (rfl)

theorem mul_ok : ∀ N, MulOk N
  | 0 => fun w v u xs ys _ _ _ h => absurd h (Nat.not_lt_zero _)
  | N + 1 => fun w v u xs ys h1 h2 h3 h4 => mul_step h1 h2 h3 ((mul_ok N).less (by omega))
theorem mul_any {w : World} {va vb : Value} {xs ys : List Int} (ha : Sl w.heap.size w va xs) (hb : Sl w.heap.size w vb ys) (hl : xs.length + ys.length ≤ 35184372088832) :
    Calls Try.prog 62 #[va, vb] w (Makes w (val xs * val ys)) := mul_ok _ w va vb xs ys ha hb hl (Nat.lt_succ_self _)
/-- What comes out, as the laws want it. -/
def Gives (w : World) (s : Int) (k : Nat) (e : Ending) (w' : World) : Prop :=
  ∃ zs a cap, e = .returned (.slice a zs.length cap) ∧ Sl w'.heap.size w' (.slice a zs.length cap) zs ∧ Canon zs ∧ val zs = s ∧ zs.length ≤ k ∧ Below w.heap.size w w'
theorem Makes.gives {w w' : World} {s : Int} {k : Nat} {e : Ending} (h : Makes w s e w') (hs : s < pw k) : Gives w s k e w' := by
  obtain ⟨zs, r, rfl, m1, m2, m3, m4⟩ := h
  obtain ⟨a, cap, rfl⟩ := m1.form
  exact ⟨zs, a, cap, rfl, m1.sl, m2, m3, canon_len m2 (by rw [m3]; exact hs), m4⟩
theorem mul_now {w : World} {va vb : Value} {xs ys : List Int} (ha : Sl w.heap.size w va xs) (hb : Sl w.heap.size w vb ys) (hl : xs.length + ys.length ≤ 35184372088832) :
    Calls Try.prog 62 #[va, vb] w (Gives w (val xs * val ys) (xs.length + ys.length)) := (mul_any ha hb hl).mono fun _ _ h => h.gives (val_mul_lt ha.1 hb.1)
end Go.Proofs.Ythdnnphpjdchnaa

/- Zed -/
namespace Go.Proofs.Ythdnnphpjdchnaa
open Go.RowKit
set_option linter.unusedVariables false

/-- The integer of a sign and a list of words. -/
def iv (n : Bool) (xs : List Int) : Int := if n = true then -(val xs) else val xs
theorem iv_neg (xs : List Int) : iv true xs = -(val xs) := by simp [iv]
theorem iv_pos (xs : List Int) : iv false xs = val xs := by simp [iv]
theorem iv_nil (n : Bool) : iv n [] = 0 := by cases n <;> simp [iv, val]
theorem iv_not (n : Bool) (xs : List Int) : iv (!n) xs = -(iv n xs) := by cases n <;> simp [iv]

/-- An integer in whatever form, of at most k words. -/
def Zi (w : World) (v : Value) (z : Int) (k : Nat) : Prop :=
  ∃ n xs a c, v = .agg #[.bool n, .slice a xs.length c] ∧ Sl w.heap.size w (.slice a xs.length c) xs ∧ iv n xs = z ∧ xs.length ≤ k
/-- An integer in least form, its words in memory from block B on that is its own. -/
def Zm (B : Nat) (w : World) (v : Value) (z : Int) (k : Nat) : Prop :=
  ∃ n zs a c, v = .agg #[.bool n, .slice a zs.length c] ∧ Mine B w (.slice a zs.length c) zs ∧ Canon zs ∧ (zs = [] → n = false) ∧ iv n zs = z ∧ zs.length ≤ k

theorem Zi.now {w w' : World} {v : Value} {z : Int} {k : Nat} (h : Zi w v z k) (hb : Below w.heap.size w w') : Zi w' v z k := by
  obtain ⟨n, xs, a, c, h1, h2, h3, h4⟩ := h
  exact ⟨n, xs, a, c, h1, h2.now hb, h3, h4⟩
theorem Zi.more {w : World} {v : Value} {z : Int} {k l : Nat} (h : Zi w v z k) (hl : k ≤ l) : Zi w v z l := by
  obtain ⟨n, xs, a, c, h1, h2, h3, h4⟩ := h
  exact ⟨n, xs, a, c, h1, h2, h3, by omega⟩
theorem Zm.now {B : Nat} {w w' : World} {v : Value} {z : Int} {k : Nat} (h : Zm B w v z k) (hb : Below w.heap.size w w') : Zm B w' v z k := by
  obtain ⟨n, xs, a, c, h1, h2, h3, h4, h5, h6⟩ := h
  exact ⟨n, xs, a, c, h1, h2.below hb, h3, h4, h5, h6⟩
theorem Zm.more {B : Nat} {w : World} {v : Value} {z : Int} {k l : Nat} (h : Zm B w v z k) (hl : k ≤ l) : Zm B w v z l := by
  obtain ⟨n, xs, a, c, h1, h2, h3, h4, h5, h6⟩ := h
  exact ⟨n, xs, a, c, h1, h2, h3, h4, h5, by omega⟩
theorem Zm.mono {B B' : Nat} {w : World} {v : Value} {z : Int} {k : Nat} (h : Zm B w v z k) (hB : B' ≤ B) : Zm B' w v z k := by
  obtain ⟨n, xs, a, c, h1, h2, h3, h4, h5, h6⟩ := h
  exact ⟨n, xs, a, c, h1, h2.mono hB, h3, h4, h5, h6⟩
theorem Zm.zi {B : Nat} {w : World} {v : Value} {z : Int} {k : Nat} (h : Zm B w v z k) : Zi w v z k := by
  obtain ⟨n, xs, a, c, h1, h2, h3, h4, h5, h6⟩ := h
  exact ⟨n, xs, a, c, h1, h2.sl, h5, h6⟩

/-- The sign is told by the words: there is one form. -/
theorem iv_one {n m : Bool} {xs ys : List Int} (h : iv n xs = iv m ys) (hx : Canon xs) (hy : Canon ys) (hn : xs = [] → n = false) (hm : ys = [] → m = false) : n = m ∧ xs = ys := by
  have h1 := val_nonneg hx.1
  have h2 := val_nonneg hy.1
  have key : ∀ {zs : List Int}, Canon zs → zs ≠ [] → val zs ≠ 0 := fun hc hne e => hne (canon_zero hc e)
  cases n <;> cases m
  · simp only [iv_pos] at h
    exact ⟨rfl, canon_inj hx hy h⟩
  · simp only [iv_pos, iv_neg] at h
    have e : ys = [] := Classical.byContradiction fun q => key hy q (by omega)
    exact absurd (hm e) (by simp)
  · simp only [iv_pos, iv_neg] at h
    have e : xs = [] := Classical.byContradiction fun q => key hx q (by omega)
    exact absurd (hn e) (by simp)
  · simp only [iv_neg] at h
    exact ⟨rfl, canon_inj hx hy (by omega)⟩
/-- What comes out of a call that answers an integer. -/
def GivesZ (w : World) (z : Int) (k : Nat) (e : Ending) (w' : World) : Prop := ∃ r, e = .returned r ∧ Zm w.heap.size w' r z k ∧ Below w.heap.size w w'

/-- A sign for a list in least form. -/
theorem zm_of {B : Nat} {w : World} {n : Bool} {zs : List Int} {a : Option Addr} {c k : Nat} (h : Mine B w (.slice a zs.length c) zs) (hc : Canon zs) (hk : zs.length ≤ k) :
    Zm B w (.agg #[.bool (n && decide (0 < zs.length)), .slice a zs.length c]) (iv n zs) k := by
  refine ⟨_, zs, a, c, rfl, h, hc, fun e => by subst e; simp, ?_, hk⟩
  by_cases e : zs = []
  · subst e; simp [iv_nil]
  · have : 0 < zs.length := Nat.pos_of_ne_zero (fun q => e (List.eq_nil_of_length_eq_zero q))
    simp [this]
end Go.Proofs.Ythdnnphpjdchnaa

/- OpenZ -/
namespace Go.Proofs.Ythdnnphpjdchnaa
open Go.ChangeShapes Go.WideShapes Go.ChangeAt Go.RowKit
set_option linter.unusedVariables false

theorem Try.cellsZ : Try.prog.cellsOf 24 = 2 := by kernel_rfl
theorem Try.cellsZb : Try.prog.cellsOf 4 = 1 := by kernel_rfl
theorem Try.cellsZs : Try.prog.cellsOf 22 = 1 := by kernel_rfl
theorem trod_struct2 {H : Type} {enc : TypeId × Value → H} {P : Program} {w : World} {base : Nat} {spare : Nat → Bool} {held : Bool} {t : TypeId} {f0 f1 : Field} {fuel : Nat} {cs : List Value} {x : DataW H × List MemPlace} (ht : P.underlying t = some (.struct #[f0, f1]))
    (h : DataW.trod enc P w base spare held fuel t cs = some x) :
    ∃ y0 y1 n, x.1 = .agg [y0.1, y1.1] ∧ cs.length = P.cellsOf t ∧ DataW.trod enc P w base spare held n f0.type ((cs.drop f0.offset).take (P.cellsOf f0.type)) = some y0 ∧ DataW.trod enc P w base spare held n f1.type ((cs.drop f1.offset).take (P.cellsOf f1.type)) = some y1 := by
  obtain ⟨xs, n, _, rfl, hl, hlen, hf⟩ := DataW.trod_struct ht h
  match xs, hlen with
  | [y0, y1], _ => exact ⟨y0, y1, n, by simp, hl, by simpa using hf 0 f0 rfl, by simpa using hf 1 f1 rfl⟩
set_option maxRecDepth 100000 in
/-- One integer, read. -/
theorem open_int2 {H : Type} {enc : TypeId × Value → H} {W : World} {fuel : Nat} {cs : List Value} {x : DataW H × List MemPlace}
    (hf : DataW.trod enc Try.prog W 0 (fun _ => true) true fuel 24 cs = some x) (hb : Rows.uptoBulk x.1 ≤ 1048576) :
    ∃ n a c xs, cs = [.bool n, .slice a xs.length c] ∧ Sl W.heap.size W (.slice a xs.length c) xs ∧ xs.length ≤ 1048576 ∧ Formed (.slice a xs.length c) := by
  obtain ⟨y0, y1, n, hx, hl, t0, t1⟩ := trod_struct2 Try.underlying24 hf
  rw [Try.cellsZ] at hl
  rw [hx] at hb
  simp only [Rows.uptoBulk, Rows.uptoBulkAll] at hb
  obtain ⟨c0, c1, rfl⟩ : ∃ c0 c1, cs = [c0, c1] := by
    match cs, hl with
    | [c0, c1], _ => exact ⟨c0, c1, rfl⟩
  simp only [Try.cellsZb, Try.cellsZs, List.drop_zero, List.drop_succ_cons, List.take_succ_cons, List.take_zero] at t0 t1
  obtain ⟨k, e0, _⟩ := DataW.trod_bool Try.underlying4 t0
  obtain ⟨xs, sx, lx, fx⟩ := open_words3 t1 (by omega)
  simp only [List.cons.injEq, and_true] at e0
  subst e0
  obtain ⟨a, c, rfl⟩ : ∃ a c, c1 = .slice a xs.length c := by obtain ⟨_, a, c, e, _⟩ := sx; exact ⟨a, c, e⟩
  have := bulk_pos y0.1
  exact ⟨k, a, c, xs, rfl, sx, by omega, fx⟩
set_option maxRecDepth 100000 in
theorem open_zint {H : Type} {enc : TypeId × Value → H} {W : World} {r : Reach} {b0 : Nat} {v : Value} {d : DataW H} {p : List MemPlace}
    (hv : Value.okWide Try.prog W r b0 24 v) (h0 : DataW.Trod enc Try.prog W 0 (fun _ => true) true 24 v d p) (hb : Rows.uptoBulk d ≤ 1048576) :
    ∃ z, Zi W v z 1048576 := by
  obtain ⟨cs, rfl, hsz⟩ := okWide_struct Try.underlying24 hv
  obtain ⟨fuel, hf⟩ := h0
  obtain ⟨n, a, c, xs, hc, h1, h2, h3⟩ := open_int2 hf hb
  refine ⟨iv n xs, n, xs, a, c, ?_, h1, rfl, h2⟩
  simp only [Value.cells] at hc
  congr 1
  apply Array.toList_inj.1
  exact hc
end Go.Proofs.Ythdnnphpjdchnaa

/- Signed -/
namespace Go.Proofs.Ythdnnphpjdchnaa
open Go.RowKit
set_option linter.unusedVariables false

/-- A box of two cells. -/
def Duo (w : World) (b : Nat) (x y : Value) : Prop := w.heap[b]? = some (.cells #[x, y] 24 (0, 0))
abbrev duo (x y : Value) : Obj := .cells #[x, y] 24
abbrev zbox : Obj := .cells #[.bool false, .slice none 0 0] 24
theorem Duo.c0 {w : World} {b : Nat} {x y : Value} (h : Duo w b x y) : w.cell? ⟨b, 0, none⟩ = some x := by simp [World.cell?, show w.heap[b]? = _ from h]
theorem Duo.c1 {w : World} {b : Nat} {x y : Value} (h : Duo w b x y) : w.cell? ⟨b, 1, none⟩ = some y := by simp [World.cell?, show w.heap[b]? = _ from h]
theorem Duo.fz {w : World} {b : Nat} {x y : Value} (h : Duo w b x y) (i : Nat) : w.frozen? ⟨b, i, none⟩ = false := by simp [World.frozen?, show w.heap[b]? = _ from h]
theorem Duo.below {w w' : World} {b B : Nat} {x y : Value} (h : Duo w b x y) (hb : Below B w w') (hB : b < B) : Duo w' b x y := (hb.block b hB).trans h
theorem Duo.new (w : World) (x y : Value) : Duo (w.alloc (duo x y)) w.heap.size x y := heap_alloc_new w _
theorem Duo.later {w : World} {b : Nat} {x y : Value} (h : Duo w b x y) (hb : b < w.heap.size) (o : Obj) : Duo (w.alloc o) b x y := h.below ((Below.refl _ _).alloc (Nat.le_refl _) o) hb

theorem Duo.set {w : World} {b : Nat} {x y : Value} (h : Duo w b x y) (x' y' : Value) : Duo ((w.setCell ⟨b, 0, none⟩ x').setCell ⟨b, 1, none⟩ y') b x' y' := by
  have h' : w.heap[b]? = some (.cells #[x, y] 24 (0, 0)) := h
  have hlt : b < w.heap.size := (Array.getElem?_eq_some_iff.1 h').1
  have e : w.heap[b] = .cells #[x, y] 24 (0, 0) := (Array.getElem?_eq_some_iff.1 h').2
  unfold Duo World.setCell
  simp [hlt, Array.getElem_modify, e]
/-- The result that lies in a box of two cells. -/
theorem zback {f : Func} {s : Nat} (hr : f.results = #[ResultVar.cell s 24]) {W : World} {b : Nat} {x y : Value} (h : Duo W b x y) (tmps : Array Value) (ht : tmps[s]? = some (.pointer (some ⟨b, 0, none⟩))) :
    (results f tmps).run Try.prog W = .ok (.agg #[x, y]) W := by
  simp [results, hr, go_sem, ht, h.c0, h.c1]

set_option maxHeartbeats 800000 in
theorem signed_any (w : World) (n : Bool) (l : Nat) (a : Option Addr) (c : Nat) (hl : l ≤ 35184372088832) :
    Calls Try.prog 59 #[.bool n, .slice a l c] w fun e w' => e = .returned (.agg #[.bool (n && decide (0 < l)), .slice a l c]) ∧ Below w.heap.size w w' := by
  have k := (Below.refl w.heap.size w).alloc (Nat.le_refl _) (duo (.bool (n && decide (0 < l))) (.slice a l c))
  cases n
  · go_enter Try.func59, Try.ntmps59
    go_wp2
    exact bodyPost_ret (zback Try.results59 (Duo.new w _ _) _ (by rfl)) rfl ⟨rfl, k⟩
  · by_cases h : 0 < l
    · have h' : (0 : Int) < (l : Int) := by omega
      simp only [h, decide_true, Bool.and_self] at k ⊢
      go_enter Try.func59, Try.ntmps59
      go_wp2
      exact bodyPost_ret (zback Try.results59 (Duo.new w _ _) _ (by rfl)) rfl ⟨rfl, k⟩
    · have h' : ¬ (0 : Int) < (l : Int) := by omega
      simp only [h, decide_false, Bool.and_false] at k ⊢
      go_enter Try.func59, Try.ntmps59
      go_wp2
      exact bodyPost_ret (zback Try.results59 (Duo.new w _ _) _ (by rfl)) rfl ⟨rfl, k⟩
end Go.Proofs.Ythdnnphpjdchnaa
