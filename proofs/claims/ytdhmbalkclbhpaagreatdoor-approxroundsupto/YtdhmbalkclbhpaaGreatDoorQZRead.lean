/-
  ZRead: the signs ahead of a text, and zint.Read.
-/
import Derived.Test.YtdhmbalkclbhpaaGreatDoorQJoinedToTxtBack
import Derived.Test.YtdhmbalkclbhpaaGreatDoorQAlikeToZStore
namespace Go.Proofs.YtdhmbalkclbhpaaGreatDoor
open Go.RowKit
set_option linter.unusedVariables false

theorem has_take {l p : List UInt8} (h : p.length ≤ l.length) : (((⟨l.toArray⟩ : ByteArray).extract 0 p.length).toList == (⟨p.toArray⟩ : ByteArray).toList) = decide (l.take p.length = p) := by
  have e : (⟨p.toArray⟩ : ByteArray).toList = p := Lib.toList_data _
  rw [Lib.extract_mk, Lib.toList_data, e]
  simp [Bool.beq_eq_decide_eq]
theorem has_short {l p : List UInt8} (h : ¬ p.length ≤ l.length) : decide (l.take p.length = p) = false := by
  apply decide_eq_false
  intro e
  have := congrArg List.length e
  simp at this
  omega
theorem drop_text (l : List UInt8) (n : Nat) (h : n ≤ l.length) : (⟨l.toArray⟩ : ByteArray).extract n (⟨l.toArray⟩ : ByteArray).size = ⟨(l.drop n).toArray⟩ := by
  rw [mk_size, Lib.extract_mk]
  apply ByteArray.ext
  simp [List.take_of_length_le]
set_option maxHeartbeats 1000000 in
theorem hasPrefix_any (w : World) (l p : List UInt8) : Calls Tryz.prog 99 #[.string ⟨l.toArray⟩, .string ⟨p.toArray⟩] w fun e w' => e = .returned (.bool (decide (l.take p.length = p))) ∧ w' = w := by
  have HS : Hid ((⟨l.toArray⟩ : ByteArray).size = l.length) := mk_size l
  have HP : Hid ((⟨p.toArray⟩ : ByteArray).size = p.length) := mk_size p
  have HA : Hid (p.length ≤ l.length → (((⟨l.toArray⟩ : ByteArray).extract 0 p.length).toList == (⟨p.toArray⟩ : ByteArray).toList) = decide (l.take p.length = p)) := fun h => has_take h
  have HB : Hid (¬ p.length ≤ l.length → decide (l.take p.length = p) = false) := fun h => has_short h
  generalize (⟨l.toArray⟩ : ByteArray) = s at *
  generalize (⟨p.toArray⟩ : ByteArray) = t at *
  rw [← HS.out, ← HP.out] at HA HB
  rw [← HP.out]
  generalize decide (l.take t.size = p) = d at *
  clear HS HP
  go_enter Tryz.func99, Tryz.ntmps99
  go_wp2
  · rename_i h
    go_ret
    refine ⟨?_, rfl⟩
    rw [← HA.out h]
    rfl
  · rename_i h
    go_ret
    refine ⟨?_, rfl⟩
    rw [HB.out h]
    rfl
theorem str_from (w : World) (s : ByteArray) (q : Nat) (h : q ≤ s.size) : (Instr.slice 9 (.string s) (some (.int .i64 (q : Int))) none none).run Tryz.prog w = .ok (.string (s.extract q s.size)) w := by
  have i3 : (q : Int) ≤ (s.size : Int) := by omega
  have i1 : (0 : Int) ≤ (q : Int) := by omega
  go_simp
set_option maxHeartbeats 1000000 in
theorem cutPrefixL_any (w : World) (l p : List UInt8) : Calls Tryz.prog 91 #[.string ⟨l.toArray⟩, .string ⟨p.toArray⟩] w fun e w' => e = .returned (.tuple #[.string ⟨(if l.take p.length = p then l.drop p.length else l).toArray⟩, .bool (decide (l.take p.length = p))]) ∧ w' = w := by
  have HH := hid (hasPrefix_any w l p)
  by_cases h : l.take p.length = p
  · have hl : p.length ≤ l.length := by
      have := congrArg List.length h
      simp at this
      omega
    rw [if_pos h, ← drop_text l _ hl]
    rw [decide_eq_true h] at HH ⊢
    have HSL : Hid (∀ w, (Instr.slice 9 (.string ⟨l.toArray⟩) (some (.int .i64 ((⟨p.toArray⟩ : ByteArray).size : Int))) none none).run Tryz.prog w = .ok (.string ((⟨l.toArray⟩ : ByteArray).extract p.length (⟨l.toArray⟩ : ByteArray).size)) w) := fun w => by
      rw [mk_size p]
      exact str_from w _ _ (by rw [mk_size]; exact hl)
    generalize (⟨l.toArray⟩ : ByteArray) = s at *
    generalize (⟨p.toArray⟩ : ByteArray) = t at *
    generalize s.extract p.length s.size = u at *
    clear h hl
    go_enter Tryz.func91, Tryz.ntmps91
    go_wp2_with fail
    refine HH.out.mono ?_
    rintro e w1 ⟨rfl, rfl⟩
    have sl := HSL.out
    clear HH
    go_wp2
    go_ret2
    exact ⟨rfl, rfl⟩
  · rw [if_neg h]
    rw [decide_eq_false h] at HH ⊢
    generalize (⟨l.toArray⟩ : ByteArray) = s at *
    generalize (⟨p.toArray⟩ : ByteArray) = t at *
    clear h
    go_enter Tryz.func91, Tryz.ntmps91
    go_wp2_with fail
    refine HH.out.mono ?_
    rintro e w1 ⟨rfl, rfl⟩
    clear HH
    go_wp2
    go_ret2
    exact ⟨rfl, rfl⟩
set_option maxHeartbeats 1000000 in
theorem cutPrefix_any (w : World) (l p : List UInt8) : Calls Tryz.prog 62 #[.string ⟨l.toArray⟩, .string ⟨p.toArray⟩] w fun e w' => e = .returned (.tuple #[.string ⟨(if l.take p.length = p then l.drop p.length else l).toArray⟩, .bool (decide (l.take p.length = p))]) ∧ w' = w := by
  have HH := hid (cutPrefixL_any w l p)
  generalize (⟨(if l.take p.length = p then l.drop p.length else l).toArray⟩ : ByteArray) = u at *
  generalize (⟨l.toArray⟩ : ByteArray) = s at *
  generalize (⟨p.toArray⟩ : ByteArray) = t at *
  generalize decide (l.take p.length = p) = d at *
  go_enter Tryz.func62, Tryz.ntmps62
  go_wp2_with fail
  refine HH.out.mono ?_
  rintro e w1 ⟨rfl, rfl⟩
  clear HH
  go_wp2
  go_ret2
  exact ⟨rfl, rfl⟩
/-- The sign that stands ahead, and the rest. -/
def cutS (l : List UInt8) : Bool × List UInt8 :=
  if l.take 1 = [43] then (false, l.drop 1) else if l.take 1 = [45] then (true, l.drop 1) else if l.take 3 = [226, 136, 146] then (true, l.drop 3) else (false, l)
theorem cutS_len (l : List UInt8) : (cutS l).2.length ≤ l.length := by
  unfold cutS
  (repeat' split) <;> simp
set_option maxHeartbeats 1000000 in
set_option maxRecDepth 100000 in
theorem cutSign_any (w : World) (l : List UInt8) : Calls Tryz.prog 41 #[.string ⟨l.toArray⟩] w fun e w' => e = .returned (.tuple #[.bool (cutS l).1, .string ⟨(cutS l).2.toArray⟩]) ∧ w' = w := by
  have H1 : Hid (∀ w, Calls Tryz.prog 62 #[.string ⟨l.toArray⟩, .string ⟨#[43]⟩] w fun e w' => e = .returned (.tuple #[.string ⟨(if l.take 1 = [43] then l.drop 1 else l).toArray⟩, .bool (decide (l.take 1 = [43]))]) ∧ w' = w) := fun w => cutPrefix_any w l [43]
  have H2 : Hid (∀ w, Calls Tryz.prog 62 #[.string ⟨l.toArray⟩, .string ⟨#[45]⟩] w fun e w' => e = .returned (.tuple #[.string ⟨(if l.take 1 = [45] then l.drop 1 else l).toArray⟩, .bool (decide (l.take 1 = [45]))]) ∧ w' = w) := fun w => cutPrefix_any w l [45]
  have H3 : Hid (∀ w, Calls Tryz.prog 62 #[.string ⟨l.toArray⟩, .string ⟨#[226, 136, 146]⟩] w fun e w' => e = .returned (.tuple #[.string ⟨(if l.take 3 = [226, 136, 146] then l.drop 3 else l).toArray⟩, .bool (decide (l.take 3 = [226, 136, 146]))]) ∧ w' = w) := fun w => cutPrefix_any w l [226, 136, 146]
  unfold cutS
  by_cases h1 : l.take 1 = [43]
  · simp only [if_pos h1, decide_eq_true h1] at H1 ⊢
    generalize (⟨(l.drop 1).toArray⟩ : ByteArray) = u at *
    generalize (⟨l.toArray⟩ : ByteArray) = s at *
    clear h1 H2 H3
    go_enter Tryz.func41, Tryz.ntmps41
    go_wp2_with fail
    refine (H1.out _).mono ?_
    rintro e w1 ⟨rfl, rfl⟩
    clear H1
    go_wp2
    go_ret2
    exact ⟨rfl, rfl⟩
  · simp only [if_neg h1, decide_eq_false h1] at H1 ⊢
    by_cases h2 : l.take 1 = [45]
    · simp only [if_pos h2, decide_eq_true h2] at H2 ⊢
      generalize (⟨(l.drop 1).toArray⟩ : ByteArray) = u at *
      generalize (⟨l.toArray⟩ : ByteArray) = s at *
      clear h1 h2 H3
      go_enter Tryz.func41, Tryz.ntmps41
      go_wp2_with fail
      refine (H1.out _).mono ?_
      rintro e w1 ⟨rfl, rfl⟩
      clear H1
      go_wp2_with fail
      refine (H2.out _).mono ?_
      rintro e w1 ⟨rfl, rfl⟩
      clear H2
      go_wp2
      go_ret2
      exact ⟨rfl, rfl⟩
    · simp only [if_neg h2, decide_eq_false h2] at H2 ⊢
      have e3 : (if l.take 3 = [226, 136, 146] then (true, l.drop 3) else (false, l)) = (decide (l.take 3 = [226, 136, 146]), if l.take 3 = [226, 136, 146] then l.drop 3 else l) := by split <;> simp_all
      rw [e3]
      generalize (⟨(if l.take 3 = [226, 136, 146] then l.drop 3 else l).toArray⟩ : ByteArray) = u at *
      generalize decide (l.take 3 = [226, 136, 146]) = d at *
      generalize (⟨l.toArray⟩ : ByteArray) = s at *
      clear h1 h2 e3
      go_enter Tryz.func41, Tryz.ntmps41
      go_wp2_with fail
      refine (H1.out _).mono ?_
      rintro e w1 ⟨rfl, rfl⟩
      clear H1
      go_wp2_with fail
      refine (H2.out _).mono ?_
      rintro e w1 ⟨rfl, rfl⟩
      clear H2
      go_wp2_with fail
      refine (H3.out _).mono ?_
      rintro e w1 ⟨rfl, rfl⟩
      clear H3
      go_wp2
      go_ret2
      exact ⟨rfl, rfl⟩
/-- The number that a text writes. -/
def sval (l : List UInt8) : Int := if (cutS l).1 = true then -((ofD 10 (dsL (cutS l).2) : Nat) : Int) else ((ofD 10 (dsL (cutS l).2) : Nat) : Int)
def Takes (l : List UInt8) : Prop := (cutS l).2 ≠ [] ∧ Good 10 (cutS l).2
def ReadZ (w : World) (l : List UInt8) (e : Ending) (w' : World) : Prop :=
  (Takes l ∧ ∃ r, e = .returned (.tuple #[r, .int .i64 0]) ∧ Zm 0 w' r (sval l) 35184372088832 ∧ Below w.heap.size w w') ∨
  (¬ Takes l ∧ e = .returned (.tuple #[.agg #[.bool false, .slice none 0 0], .int .i64 7]) ∧ Below w.heap.size w w')
set_option maxHeartbeats 3200000 in
set_option maxRecDepth 100000 in
theorem read_z {w : World} {l : List UInt8} (hT : Sg w) (hl : l.length ≤ 1000000000) : Calls Tryz.prog 24 #[.string ⟨l.toArray⟩] w (ReadZ w l) := by
  have HC : Hid (∀ w, Calls Tryz.prog 41 #[.string ⟨l.toArray⟩] w fun e w' => e = .returned (.tuple #[.bool (cutS l).1, .string ⟨(cutS l).2.toArray⟩]) ∧ w' = w) := fun w => cutSign_any w l
  have hll := cutS_len l
  have HQ : Hid (∀ n d, cutS l = (n, d) → ((d ≠ [] ∧ Good 10 d) ↔ Takes l)) := fun n d e => by unfold Takes; rw [e]
  have HV : Hid (∀ n d zs, cutS l = (n, d) → WF zs → vn zs = ofD 10 (dsL d) → iv n zs = sval l) := fun n d zs e hz hv => by
    unfold sval
    rw [e, ← hv]
    simp only [iv, val_vn hz]
  obtain ⟨n, d, hc⟩ : ∃ n d, cutS l = (n, d) := ⟨_, _, rfl⟩
  have b0 := (Below.refl w.heap.size w).alloc (Nat.le_refl _) zbox
  have p0 := duo_at (w := w) (x := .bool false) (y := .slice none 0 0) rfl
  obtain ⟨W0, hW0⟩ : ∃ W0, w.alloc zbox = W0 := ⟨_, rfl⟩
  have sz0 : W0.heap.size = w.heap.size + 1 := by rw [← hW0]; simp
  change Duo (w.alloc zbox) _ _ _ at p0
  rw [hW0] at b0 p0
  have HR : Hid (Calls Tryz.prog 34 #[.string ⟨d.toArray⟩] W0 (ReadPost W0 10 d)) := readDec_any (hT.now b0) (by rw [hc] at hll; simp at hll; omega)
  replace HQ := hid (HQ.out n d hc)
  replace HV : Hid (∀ zs, WF zs → vn zs = ofD 10 (dsL d) → iv n zs = sval l) := fun zs => HV.out n d zs hc
  have EW := hid hW0
  have B0 := hid b0
  have PR := hid p0
  rw [hc] at HC
  unfold ReadZ
  generalize sval l = V at *
  generalize Takes l = TK at *
  dsimp only at HC
  generalize (⟨l.toArray⟩ : ByteArray) = s at *
  have HRP : Hid (∀ e w', ReadPost W0 10 d e w' → (TK ∧ ∃ zs a c, e = .returned (.tuple #[.slice a zs.length c, .int .i64 0]) ∧ Mine 0 w' (.slice a zs.length c) zs ∧ Canon zs ∧ iv n zs = V ∧ Below W0.heap.size W0 w') ∨ (¬ TK ∧ e = .returned (.tuple #[.slice none 0 0, .int .i64 7]) ∧ Below W0.heap.size W0 w')) := fun e w' h => by
    rcases h with ⟨g, zs, a, c, h1, h2, h3, h4, h5⟩ | ⟨g, h1, h2⟩
    · exact .inl ⟨HQ.out.1 g, zs, a, c, h1, h2, h3, HV.out zs h3.1 h4, h5⟩
    · exact .inr ⟨fun q => g (HQ.out.2 q), h1, h2⟩
  generalize (⟨d.toArray⟩ : ByteArray) = t at *
  clear hT hl hll hc hW0 b0 p0 HQ HV
  go_enter Tryz.func24, Tryz.ntmps24
  go_wp2_with fail
  rw [EW.out]
  refine (HC.out _).mono ?_
  rintro e w1 ⟨rfl, hw1⟩
  rw [hw1]
  clear HC EW hw1 w1
  go_wp2_with fail
  refine HR.out.mono ?_
  rintro e w1 h
  replace h := HRP.out e w1 h
  clear HR HRP
  rcases h with ⟨tk, zs, a, c, rfl, m, cn, hv, b⟩ | ⟨tk, rfl, b⟩
  · replace PR := hid (PR.out.step b)
    replace B0 := hid (below_step B0.out b)
    have TKh := hid tk
    have M := hid m
    have CN := hid cn
    have HV := hid hv
    have q0 : ((0 : Int) != 0) = false := rfl
    clear tk m cn hv b
    go_wp2_with fail
    refine (signed_any _ n zs.length a c M.out.len).mono ?_
    rintro e w2 ⟨rfl, b⟩
    replace PR := hid (PR.out.step b)
    replace B0 := hid (below_step B0.out b)
    replace M := hid (M.out.below b)
    have r0 := PR.out.c0
    have r1 := PR.out.c1
    have f0 := PR.out.fz 0
    have f1 := PR.out.fz 1
    have Z := hid (zm_of (n := n) M.out CN.out M.out.len)
    rw [HV.out] at Z
    clear b
    go_wp2
    exact bodyPost_ret (zback1 Tryz.results24 (PR.out.set _ _) _ (by rfl) (by rfl)) rfl (.inl ⟨TKh.out, _, rfl, Z.out.box PR.out _ _, bset (bset B0.out (by omega)) (by omega)⟩)
  · replace PR := hid (PR.out.step b)
    replace B0 := hid (below_step B0.out b)
    have TKh := hid tk
    have q7 : ((7 : Int) != 0) = true := rfl
    have r0 := PR.out.c0
    have r1 := PR.out.c1
    have f0 := PR.out.fz 0
    have f1 := PR.out.fz 1
    clear tk b
    go_wp2
    exact bodyPost_ret (zback1 Tryz.results24 (PR.out.set _ _) _ (by rfl) (by rfl)) rfl (.inr ⟨TKh.out, rfl, bset (bset B0.out (by omega)) (by omega)⟩)
/-- The number of a byte that is a digit, or -1. -/
def dgt (c : UInt8) : Int := if 48 ≤ c.toNat ∧ c.toNat ≤ 57 then (c.toNat : Int) - 48 else -1
end Go.Proofs.YtdhmbalkclbhpaaGreatDoor
