/-
  QDivModToTimes: DivMod, Write, Times, joined.
-/
import Derived.Test.YtdfnehngffajiabDoorQDivideToShr
import Derived.Test.YtdfnehngffajiabDoorQCmpToNow
import Derived.ArgAppend
import Derived.OwnWalk
import Derived.Test.YtdfnehngffajiabDoorQLen2ToDivPure
import Derived.Test.YtdfnehngffajiabDoorQMulwToGuess

/- DivMod -/
namespace Go.Proofs.YtdfnehngffajiabDoor
open Go.RowKit
set_option linter.unusedVariables false

/-- Two slices that do not begin in one block. -/
def Two (q r : Value) : Prop := ∀ k, q.ownBlock = some k → r.ownBlock = some k → False
theorem Own.block {B : Nat} {w : World} {v : Value} {zs : List Int} (h : Own B w v zs) : ∀ k, v.ownBlock = some k → B ≤ k ∧ k < w.heap.size := by
  intro k hk
  obtain ⟨_, ⟨rfl, _⟩ | ⟨g, r, h1, h2, rfl, h4⟩⟩ := h
  · cases hk
  · simp [Value.ownBlock] at hk
    subst hk
    exact ⟨h1, h4.lt⟩
theorem two_of {B B' : Nat} {w w' : World} {q r : Value} {qs rs : List Int} (h : Own B w q qs) (h' : Own B' w' r rs) (hB : w.heap.size ≤ B') : Two q r := fun k h1 h2 => by
  have := (h.block k h1).2
  have := (h'.block k h2).1
  omega
theorem two_of' {B B' : Nat} {w w' : World} {q r : Value} {qs rs : List Int} (h : Own B w q qs) (h' : Own B' w' r rs) (hB : w.heap.size ≤ B') : Two r q := fun k h1 h2 => two_of h h' hB k h2 h1
theorem Own.lower {B B' : Nat} {w : World} {v : Value} {zs : List Int} (h : Own B w v zs) (hB : B' ≤ B) : Own B' w v zs := by
  obtain ⟨h0, h1 | ⟨g, r, h1, h2⟩⟩ := h
  · exact ⟨h0, .inl h1⟩
  · exact ⟨h0, .inr ⟨g, r, by omega, h2⟩⟩
theorem Own.stay {B : Nat} {w w' : World} {v : Value} {zs : List Int} (h : Own B w v zs) (hb : Below w.heap.size w w') : Own B w' v zs := by
  obtain ⟨h0, h1 | ⟨g, r, h1, h2, h3, h4⟩⟩ := h
  · exact ⟨h0, .inl h1⟩
  · exact ⟨h0, .inr ⟨g, r, h1, h2, h3, h4.below hb h4.lt⟩⟩

theorem wpList_append_one (w : World) {ops : Array Oper} {rest : List Oper} {o : Oper} {a : Act} {Q : Exit → Act → World → Prop}
    (hg : o.guard = none) (s x : Operand) (hop : o.op = Op.call { callee := Callee.builtin Builtin.append, args := #[s, x], argTypes := #[34, 34] })
    (g : Nat) (zs : List Int) (r : List Value) (c : Int) (hs : a.eval s = .slice (some ⟨g, 0, none⟩) zs.length (zs.length + r.length)) (hmx : zs.length + r.length ≤ 35184372088832) (hrow : Row w g (ws zs ++ r)) (hlen : zs.length + 1 ≤ 17592186044000)
    (ad : Addr) (hx : a.eval x = .slice (some ad) 1 1) (hc : w.cell? ad = some (.int .u64 c))
    (hK : ∀ g' cap' r' w', Hid (Row w' g' (ws (zs ++ [c]) ++ r')) → g ≤ g' → zs.length + 1 ≤ cap' → cap' ≤ 9223372036854775807 → Hid (Below g w w') → wpList Tryd.prog ops Q rest (a.put o.dst (.slice (some ⟨g', 0, none⟩) (zs.length + 1) cap')) w') :
    wpList Tryd.prog ops Q (o :: rest) a w := by
  obtain ⟨i, hi, hz, hsz, hb⟩ := info_parts Tryd.infoW
  have hnews : ∀ j u, ([.int .u64 c] : List Value)[j]? = some u → w.cell? (ad.add j) = some u := fun j u hj => by
    match j, hj with
    | 0, hj => simp at hj; subst hj; simpa [Addr.add] using hc
  have h1c : ∀ u ∈ ([.int .u64 c] : List Value), u.oneCell' = true := fun u hu => by simp at hu; subst hu; rfl
  have done : ∀ B v' w', B ≤ w.heap.size → w'.ownsRow B 78 1 v' (zs.length + 1) (ws zs ++ [.int .u64 c]) → ∃ g' cap' r', v' = .slice (some ⟨g', 0, none⟩) (zs.length + 1) cap' ∧ B ≤ g' ∧ zs.length + 1 ≤ cap' ∧ cap' ≤ 9223372036854775807 ∧ Row w' g' (ws (zs ++ [c]) ++ r') := fun B v' w' hB ho => by
    obtain ⟨_, ⟨_, h2⟩ | ⟨g', cap', cur, h2, h3, h4, h5, h6, h7, h8⟩⟩ := ho
    · omega
    · refine ⟨g', cap', cur.toList.drop (zs.length + 1), h2, h3, h5, by unfold maxLen at h6; omega, ?_⟩
      rw [Nat.mul_one] at h8
      have e : ws (zs ++ [c]) = cur.toList.take (zs.length + 1) := by rw [h8]; simp [ws]
      unfold Row
      rw [e, List.take_append_drop, Array.toArray_toList]
      exact h4
  by_cases hfit : zs.length + 1 ≤ zs.length + r.length
  · have hown : w.ownsRow 0 78 1 (.slice (some ⟨g, 0, none⟩) zs.length (zs.length + r.length)) zs.length (ws zs) := by
      refine ⟨by simp [length_ws], .inr ⟨g, _, (ws zs ++ r).toArray, rfl, Nat.zero_le _, hrow, by omega, by unfold maxLen; omega, by simp [length_ws], ?_⟩⟩
      rw [Nat.mul_one]
      simp [length_ws]
    refine wpList_append_fits w hg s x 34 hop 0 78 i 1 Tryd.underlying34 hi hsz g zs.length (zs.length + r.length) (ws zs) hs hown ad 1 1 [.int .u64 c] hx rfl hnews h1c hfit ?_
    intro w' ho hgr
    obtain ⟨g', cap', r', e, _, h5, h6, h7⟩ := done 0 _ w' (Nat.zero_le _) ho
    simp only [Value.slice.injEq, Option.some.injEq, Addr.mk.injEq, and_true] at e
    obtain ⟨rfl, _, rfl⟩ := e
    exact hK g _ r' w' h7 (Nat.le_refl _) hfit (by omega) ((Below.refl _ _).grown hgr (Nat.le_of_lt hrow.lt) (fun k hk => by cases hk; exact Nat.le_refl _))
  · refine wpList_append_grows w hg s x 34 hop 78 i _ 1 8 Tryd.underlying34 hi hz hsz hb rfl (by omega) (some ⟨g, 0, none⟩) zs.length (zs.length + r.length) (ws zs) hs (fun e => by cases e) (by simp [length_ws]) (fun b e => ?_) ad 1 1 [.int .u64 c] hx rfl hnews h1c (by omega) (by unfold maxLen; omega) (by omega) ?_
    · cases e
      intro j u hj
      have hj' : j < zs.length := by
        have := (List.getElem?_eq_some_iff.1 hj).1
        simpa [length_ws] using this
      have e : (⟨g, 0, none⟩ : Addr).add j = ⟨g, j, none⟩ := by unfold Addr.add; split <;> simp_all
      rw [e, hrow.word hj', ← hj]
      simp [ws, hj']
    · intro v' w' ho hgr
      obtain ⟨g', cap', r', rfl, h4, h5, h6, h7⟩ := done w.heap.size v' w' (Nat.le_refl _) ho
      exact hK g' cap' r' w' h7 (Nat.le_trans (Nat.le_of_lt hrow.lt) h4) h5 h6 ((Below.refl _ _).grown hgr (Nat.le_of_lt hrow.lt) (fun k hk => by cases hk))

/-- What DivMod answers. -/
def DivModed (w : World) (xs ys : List Int) (e : Ending) (w' : World) : Prop :=
  ∃ qs rs q r, e = .returned (.tuple #[q, r, .int .i64 0]) ∧ Own w.heap.size w' q qs ∧ Own w.heap.size w' r rs ∧ Canon qs ∧ Canon rs ∧ val xs = val ys * val qs + val rs ∧ val rs < val ys ∧ qs.length ≤ xs.length ∧ rs.length ≤ xs.length ∧ Two q r ∧ Below w.heap.size w w'

theorem lst_one {ys : List Int} (h : wid ys = 1) : ∃ h : 0 < ys.length, lst ys = [ys[0]] ∧ ys[0] ≠ 0 := by
  obtain ⟨h1, h2⟩ := wid_top (n := 0) h
  exact ⟨h1, by rw [lst_split h h1]; simp, h2⟩

theorem row_sl {w : World} {g : Nat} {zs : List Int} {r : List Value} (h : Row w g (ws zs ++ r)) (hw : WF zs) {cap : Nat} (hl : zs.length ≤ 35184372088832) (hc : zs.length ≤ cap) {B : Nat} (hB : g < B) : Sl B w (.slice (some ⟨g, 0, none⟩) zs.length cap) zs :=
  ⟨hw, _, cap, rfl, hc, hl, .inr ⟨g, 0, rfl, hB, fun j hj => by rw [Nat.zero_add]; exact h.word hj⟩⟩
theorem canon_ge {bs : List Int} {N : Nat} (h : Canon bs) (hl : bs.length = N + 1) : pw N ≤ val bs := by
  rw [val_top1 hl]
  obtain ⟨h1, h2⟩ := wid_top (xs := bs) (n := N) (by rw [← hl]; exact h.2)
  have h3 := (h.1.get h1).1
  have h4 := val_nonneg (h.1.take N)
  have h5 := Int.mul_le_mul_of_nonneg_right (show 1 ≤ bs[N] by omega) (Int.le_of_lt (pw_pos N))
  rw [Int.one_mul] at h5
  omega
theorem canon_len_le {xs ys : List Int} (h : Canon xs) (h' : Canon ys) (hv : val xs ≤ val ys) : xs.length ≤ ys.length := by
  by_cases q : wid ys < wid xs
  · have := val_wid_lt h'.1 h.1 q; omega
  · rw [← h.2, ← h'.2]; omega
/-- The highest words, with a 0 on top, are less than the divisor. -/
theorem top_less {us bs : List Int} {m N : Nat} (ha : WF us) (hb : Canon bs) (hl : bs.length = N + 1) (hm : m + (N + 1) = us.length + 1) : val ((us ++ [0]).drop m) < val bs := by
  have e : (us ++ [0]).drop m = us.drop m ++ [0] := List.drop_append_of_le_length (by omega)
  rw [e, val_append]
  have h1 := val_lt_pw (ha.dropped m)
  rw [List.length_drop, show us.length - m = N by omega] at h1
  have h2 := canon_ge hb hl
  have h3 : val ([0] : List Int) = 0 := by simp [val]
  rw [h3]; omega
/-- Up by P and down again: quotient and rest stay. -/
theorem div_down {X Y P Q Z : Nat} (hP : 0 < P) (h : X * P = Q * (Y * P) + Z) (hz : Z < Y * P) : X = Y * Q + Z / P ∧ Z / P < Y := by
  rw [← Nat.mul_assoc] at h
  have h1 : Q * Y ≤ X := by
    refine Nat.le_of_mul_le_mul_right (c := P) ?_ hP
    omega
  obtain ⟨R, rfl⟩ := Nat.exists_eq_add_of_le h1
  rw [Nat.add_mul] at h
  have h2 : Z = R * P := by omega
  subst h2
  rw [Nat.mul_div_cancel _ hP]
  refine ⟨by rw [Nat.mul_comm Y], Nat.lt_of_mul_lt_mul_right hz⟩

end Go.Proofs.YtdfnehngffajiabDoor

/- Write -/
namespace Go.Proofs.YtdfnehngffajiabDoor
open Go.RowKit
set_option linter.unusedVariables false

theorem Sl.touchB {w w' : World} {g : Nat} {L : List Int} {v : Value} {xs : List Int} (h : Sl w.heap.size w v xs) (hr : RowB w g L) (ht : Touch (· = g) w w') : Sl w'.heap.size w' v xs := by
  obtain ⟨hw, a, cap, rfl, hlc, hcm, hm⟩ := h
  refine ⟨hw, a, cap, rfl, hlc, hcm, ?_⟩
  rcases hm with e | ⟨b, off, rfl, hb, hc⟩
  · exact .inl e
  · refine .inr ⟨b, off, rfl, Nat.lt_of_lt_of_le hb ht.size, fun j hj => ?_⟩
    have hne : b ≠ g := by
      intro e
      subst e
      have h1 := hc j hj
      unfold RowB at hr
      simp [World.cell?, hr] at h1
    exact (ht.cell hb hne _).trans (hc j hj)
/-- A list of lists of words behind the address a. -/
def Lw (w : World) (a : Option Addr) (Xs : List (List Int)) : Prop :=
  Xs = [] ∨ ∃ b off, a = some ⟨b, off, none⟩ ∧ b < w.heap.size ∧ ∀ j (h : j < Xs.length), ∃ u, w.cell? ⟨b, off + j, none⟩ = some u ∧ Sl w.heap.size w u Xs[j]
theorem Lw.now {w w' : World} {a : Option Addr} {Xs : List (List Int)} (h : Lw w a Xs) (hb : Below w.heap.size w w') : Lw w' a Xs := by
  rcases h with e | ⟨b, off, rfl, h1, h2⟩
  · exact .inl e
  · refine .inr ⟨b, off, rfl, Nat.lt_of_lt_of_le h1 hb.size, fun j hj => ?_⟩
    obtain ⟨u, h3, h4⟩ := h2 j hj
    exact ⟨u, (hb.cell (p := ⟨b, off + j, none⟩) h1).trans h3, h4.now hb⟩
theorem Lw.touchB {w w' : World} {g : Nat} {L : List Int} {a : Option Addr} {Xs : List (List Int)} (h : Lw w a Xs) (hr : RowB w g L) (ht : Touch (· = g) w w') : Lw w' a Xs := by
  rcases h with e | ⟨b, off, rfl, h1, h2⟩
  · exact .inl e
  · refine .inr ⟨b, off, rfl, Nat.lt_of_lt_of_le h1 ht.size, fun j hj => ?_⟩
    obtain ⟨u, h3, h4⟩ := h2 j hj
    have hne : b ≠ g := by
      intro e
      subst e
      obtain ⟨_, _, _, rfl, _⟩ := h4
      unfold RowB at hr
      simp [World.cell?, hr] at h3
    exact ⟨u, (ht.cell h1 hne _).trans h3, h4.touchB hr ht⟩
theorem Lw.take {w : World} {a : Option Addr} {Xs : List (List Int)} (h : Lw w a Xs) (k : Nat) : Lw w a (Xs.take k) := by
  rcases h with e | ⟨b, off, rfl, h1, h2⟩
  · subst e; exact .inl (by simp)
  · exact .inr ⟨b, off, rfl, h1, fun j hj => by
      have hj' : j < Xs.length := by have := hj; simp at this; omega
      obtain ⟨u, h3, h4⟩ := h2 j hj'
      exact ⟨u, h3, by rw [List.getElem_take]; exact h4⟩⟩
theorem double_pos {M : Nat → Nat} (h0 : 0 < M 0) (hM : ∀ k, M (k + 1) = M k + M k) : ∀ k, 0 < M k
  | 0 => h0
  | k + 1 => by rw [hM]; have := double_pos h0 hM k; omega
end Go.Proofs.YtdfnehngffajiabDoor

/- Times -/
namespace Go.Proofs.YtdfnehngffajiabDoor
open Go.RowKit
set_option linter.unusedVariables false

theorem drop_set_lt {α : Type} (L : List α) {i n : Nat} (h : i < n) (x : α) : (L.set i x).drop n = L.drop n := by
  rw [List.drop_set, if_pos h]

set_option maxHeartbeats 1600000 in
theorem addTimes_any {g : Nat} {w : World} {u : Value} {zs0 xs : List Int} {r : List Value} {o len cap : Nat} {W : Int} (hz0 : WF zs0) (hrow : Row w g (ws zs0 ++ r)) (hlz : zs0.length ≤ 35184372088832) (hx : Sl g w u xs) (hW : IsW W) (hl : o + xs.length ≤ zs0.length) (hlen : xs.length ≤ len) :
    Calls Tryd.prog 59 #[.slice (some ⟨g, o, none⟩) len cap, u, .int .u64 W] w fun e w' =>
      ∃ zs c, e = .returned (.int .u64 c) ∧ zs.length = zs0.length ∧ WF zs ∧ IsW c ∧ val zs + pw (o + xs.length) * c = val zs0 + pw o * (val xs * W) ∧ zs.drop (o + xs.length) = zs0.drop (o + xs.length) ∧ Row w' g (ws zs ++ r) ∧ Below g w w' := by
  obtain ⟨hwx, a, capx, rfl, hlc, hcm, hm⟩ := hx
  have HV0 : Hid (val zs0 + pw (o + 0) * 0 = val zs0 + pw o * (val (xs.take 0) * W)) := by unfold Hid; simp [val]
  have HTL : Hid (xs.take xs.length = xs) := by unfold Hid; simp
  obtain ⟨m, hmz⟩ : ∃ m, m = zs0.length := ⟨_, rfl⟩
  obtain ⟨n, hnx⟩ : ∃ n, n = xs.length := ⟨_, rfl⟩
  rw [← hmz] at hl hlz
  rw [← hnx] at hl hlc HTL hlen
  rw [← hmz, ← hnx]
  have HM : Hid (m = zs0.length) := hmz
  have HN : Hid (n = xs.length) := hnx
  clear hmz hnx
  have hW' := hW
  unfold IsW wB at hW'
  go_enter Tryd.func59, Tryd.ntmps59
  go_wp2_with fail
  go_loopw [7, 15] (fun c i wr => ∃ (k : Nat) (zs : List Int) (cc : Int), k ≤ n ∧ i = .int .i64 k ∧ c = .int .u64 cc ∧ IsW cc ∧ Hid (zs.length = m) ∧ WF zs ∧ Hid (val zs + pw (o + k) * cc = val zs0 + pw o * (val (xs.take k) * W)) ∧ Hid (zs.drop (o + n) = zs0.drop (o + n)) ∧ Row wr g (ws zs ++ r) ∧ Below g w wr) (fun _ i _ => n - (intOf i).toNat)
  case atStart => exact ⟨0, zs0, 0, Nat.zero_le _, rfl, rfl, by unfold IsW wB; omega, HM.out.symm, hz0, HV0, rfl, hrow, Below.refl _ _⟩
  case round =>
    obtain ⟨k, zs, cc, hk, rfl, rfl, hc, HL, hwz, HV, HD, hr, hb⟩ := hrel
    by_cases hlt : k < n
    · have hk1 : o + k < zs.length := by have := HL.out; omega
      have hk2 : k < xs.length := by have := HN.out; omega
      rcases hm with e | ⟨b, off, rfl, hbg, hcy⟩
      · subst e; simp at hk2
      have c1 : wr.cell? ⟨g, o + k, none⟩ = some (.int .u64 zs[o + k]) := hr.word hk1
      have c2 : wr.cell? ⟨b, off + k, none⟩ = some (.int .u64 xs[k]) := (hb.cell (p := ⟨b, off + k, none⟩) hbg).trans (hcy k hk2)
      have cf : wr.frozen? ⟨g, o + k, none⟩ = false := hr.frozen (o + k)
      obtain ⟨hi, lo, hhi, hlo, hmm, hmul⟩ := mul64_any (hwx.get hk2) hW
      obtain ⟨l1, o1, hl1, ho10, ho11, hs1, hadd1⟩ := add64_run hlo (hwz.get hk1) (Int.le_refl 0) (by omega)
      obtain ⟨l2, o2, hl2, ho20, ho21, hs2, hadd2⟩ := add64_run hl1 hc (Int.le_refl 0) (by omega)
      obtain ⟨hb1, hb2, hsum⟩ := word_step (hwx.get hk2) hW (hwz.get hk1) hc hhi.1 hlo hmm hl1 ho10 hs1 hl2 ho20 hs2
      have HV' : Hid (val (zs.set (o + k) l2) + pw (o + (k + 1)) * (hi + o1 + o2) = val zs0 + pw o * (val (xs.take (k + 1)) * W)) := times_step hk1 rfl hk2 rfl HV.out hsum
      have HD' : Hid ((zs.set (o + k) l2).drop (o + n) = zs0.drop (o + n)) := by unfold Hid; rw [drop_set_lt _ (by omega)]; exact HD.out
      have hwz' : WF (zs.set (o + k) l2) := hwz.set (o + k) hl2
      have HR := hr.setWord hk1 l2
      have HB := hb.setCell (p := ⟨g, o + k, none⟩) (Nat.le_refl _) (.int .u64 l2)
      have hc' : IsW (hi + o1 + o2) := ⟨by have := hhi.1; omega, hb2⟩
      have hi0 := hhi.1
      unfold wB at hb1 hb2
      clear hsum hs1 hs2 hmm hl1 hl2 hlo hhi
      generalize zs[o + k] = x at *
      generalize xs[k] = y at *
      have HL' : Hid ((zs.set (o + k) l2).length = m) := by unfold Hid; rw [List.length_set]; exact HL.out
      generalize zs.set (o + k) l2 = zs' at *
      clear hcy hr hb hwz HV hrow HL HD hc
      go_wp2_with fail
      refine (hmul _).mono ?_
      rintro e w1 ⟨rfl, rfl⟩
      go_wp2
      go_roundw
      case rel => exact ⟨k + 1, zs', hi + o1 + o2, by omega, by go_num, rfl, hc', HL', hwz', HV', HD', HR, HB⟩
      case measure => simp [intOf]; omega
    · obtain rfl : k = n := by omega
      rw [HTL.out] at HV
      go_wp2
      go_ret
      exact ⟨zs, cc, rfl, HL.out, hwz, hc, HV.out, HD.out, hr, hb⟩
end Go.Proofs.YtdfnehngffajiabDoor
