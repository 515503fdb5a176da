/-
  QWordfulToText: Wordful, Squares, TrimL, Text, joined.
-/
import Derived.Test.YtdfnehngffajiabDoorQSquareToBunch
import Derived.Lib.TrimByte
import Derived.Laws.Strings3
import Derived.Laws.BytesArg

/- Wordful -/
namespace Go.Proofs.YtdfnehngffajiabDoor
open Go.RowKit
set_option linter.unusedVariables false

theorem isBase_any (b : Int) (h0 : -9223372036854775808 ≤ b) (h1 : b ≤ 9223372036854775807) (w : World) : Calls Tryd.prog 34 #[.int .i64 b] w fun e w' => e = .returned (.bool (decide (2 ≤ b ∧ b ≤ 36))) ∧ w' = w := by
  by_cases q1 : (2 : Int) ≤ b
  · by_cases q2 : b ≤ 36
    · rw [decide_eq_true ⟨q1, q2⟩]
      go_enter Tryd.func34, Tryd.ntmps34
      go_wp2
      go_ret
      exact ⟨rfl, rfl⟩
    · rw [decide_eq_false (fun h => q2 h.2)]
      go_enter Tryd.func34, Tryd.ntmps34
      go_wp2
      go_ret
      exact ⟨rfl, rfl⟩
  · rw [decide_eq_false (fun h => q1 h.1)]
    go_enter Tryd.func34, Tryd.ntmps34
    go_wp2
    go_ret
    exact ⟨rfl, rfl⟩
/-- A word holds D digits of the base B, whichever they are, and no more. -/
def WD (B D : Nat) : Prop := 1 ≤ D ∧ D ≤ 64 ∧ B ^ D < 18446744073709551616 ∧ 18446744073709551616 ≤ B ^ D * B
theorem pow_small {B k : Nat} (hB : 2 ≤ B) (h : B ^ k < 18446744073709551616) : k < 64 := by
  rcases Nat.lt_or_ge k 64 with q | q
  · exact q
  · have h1 : 2 ^ 64 ≤ 2 ^ k := Nat.pow_le_pow_right (by omega) q
    have h2 : 2 ^ k ≤ B ^ k := Nat.pow_le_pow_left hB k
    have h3 : (2 : Nat) ^ 64 = 18446744073709551616 := by decide
    omega
set_option maxRecDepth 100000 in
set_option maxHeartbeats 1600000 in
theorem wordful_any {B : Nat} (hB : 2 ≤ B) (hB2 : B ≤ 36) (w : World) : Calls Tryd.prog 35 #[.int .i64 (B : Int)] w fun e w' => ∃ D, WD B D ∧ e = .returned (.tuple #[.int .i64 (D : Int), .slice (some ⟨w.heap.size, 0, none⟩) 1 1]) ∧ Mine 0 w' (.slice (some ⟨w.heap.size, 0, none⟩) 1 1) [((B ^ D : Nat) : Int)] ∧ Below w.heap.size w w' := by
  obtain ⟨Q, hQ⟩ : ∃ Q, Q = 18446744073709551615 / B := ⟨_, rfl⟩
  have e1 : (18446744073709551615 : Int).tdiv (B : Int) = (Q : Int) := by rw [hQ]; exact (Int.ofNat_tdiv 18446744073709551615 B).symm
  have e2 : (18446744073709551615 : Int) / (B : Int) = (Q : Int) := by rw [hQ]; simp
  have hQ2 : Q ≤ 18446744073709551615 := by rw [hQ]; exact Nat.div_le_self _ _
  have HQ : Hid (∀ x : Nat, x ≤ Q ↔ x * B ≤ 18446744073709551615) := fun x => by rw [hQ]; exact Nat.le_div_iff_mul_le (by omega)
  clear hQ
  go_enter Tryd.func35, Tryd.ntmps35
  go_wp2
  go_loop [4, 5] (fun d p => ∃ k P : Nat, 1 ≤ k ∧ k ≤ 64 ∧ d = .int .i64 (k : Int) ∧ p = .int .u64 (P : Int) ∧ P < 18446744073709551616 ∧ Hid (P = B ^ k)) (fun d _ => 64 - (intOf d).toNat)
  case atStart => exact ⟨1, B, by omega, by omega, rfl, rfl, by omega, (by unfold Hid; simp)⟩
  case round =>
    obtain ⟨k, P, hk, hk2, rfl, rfl, hP, HP⟩ := hrel
    by_cases hle : P ≤ Q
    · have h1 := (HQ.out P).1 hle
      have hP2 : Hid (P * B = B ^ (k + 1)) := by unfold Hid; rw [HP.out, Nat.pow_succ]
      have hk3 : k + 1 < 64 := pow_small hB (by rw [← hP2.out]; omega)
      have e3 : (P : Int) * (B : Int) = ((P * B : Nat) : Int) := by simp
      have h4 : P * B < 18446744073709551616 := by omega
      generalize P * B = P2 at *
      have e4 : IntKind.u64.wrap ((P : Int) * (B : Int)) = (P2 : Int) := by rw [e3, IntKind.wrap_u64]; omega
      go_wp2
      go_round
      case rel => exact ⟨k + 1, P2, by omega, by omega, by go_num, by first | rfl | (rw [e3]) | go_num, h4, hP2⟩
      case measure => first | (simp [intOf]; done) | (simp [intOf]; omega)
    · have h1 : ¬ P * B ≤ 18446744073709551615 := fun h => hle ((HQ.out P).2 h)
      have HWD : Hid (WD B k) := ⟨hk, hk2, by rw [← HP.out]; exact hP, by rw [← HP.out]; omega⟩
      have hle2 : ¬ (P : Int) ≤ (Q : Int) := by omega
      have HM : Hid (Mine 0 (w.alloc (.cells #[.int .u64 (P : Int)] 78)) (.slice (some ⟨w.heap.size, 0, none⟩) 1 1) [((B ^ k : Nat) : Int)]) := by
        unfold Hid
        rw [← HP.out]
        refine ⟨wf_word (by omega) WF.nil, .inr ⟨w.heap.size, [], 1, Nat.zero_le _, by simp, by simp, .inl (by simp), by simp, ?_⟩⟩
        exact heap_alloc_new w _
      have HB := hid ((Below.refl w.heap.size w).alloc (Nat.le_refl _) (.cells #[.int .u64 (P : Int)] 78))
      clear HQ h1
      go_wp2
      go_ret2
      exact ⟨k, HWD.out, rfl, HM.out, HB.out⟩
end Go.Proofs.YtdfnehngffajiabDoor

/- Squares -/
namespace Go.Proofs.YtdfnehngffajiabDoor
open Go.RowKit
set_option linter.unusedVariables false

theorem vn_lt_two {xs : List Int} (h : WF xs) : vn xs < 2 ^ (64 * xs.length) := by
  have h1 := val_lt_pw h
  rw [val_vn h, pw_pow] at h1
  have h2 : ((2 : Int) ^ (64 * xs.length)) = ((2 ^ (64 * xs.length) : Nat) : Int) := by simp
  rw [h2] at h1
  exact Int.ofNat_lt.1 h1
theorem sq_small {P i E : Nat} (hP : 2 ≤ P) (h : P ^ 2 ^ i < 2 ^ E) (hE : E ≤ 67108864) : i < 26 := by
  have h1 : 2 ^ 2 ^ i ≤ P ^ 2 ^ i := Nat.pow_le_pow_left hP _
  have h3 := (Nat.pow_lt_pow_iff_right (by omega : 1 < 2)).1 (Nat.lt_of_le_of_lt h1 h)
  have e : (2 : Nat) ^ 26 = 67108864 := by decide
  exact (Nat.pow_lt_pow_iff_right (by omega : 1 < 2)).1 (show 2 ^ i < 2 ^ 26 by rw [e]; omega)
theorem sq_next (P k : Nat) : P ^ 2 ^ k * P ^ 2 ^ k = P ^ 2 ^ (k + 1) := by rw [← Nat.pow_add, Nat.pow_succ, Nat.mul_two]
theorem sq_grows {P k : Nat} (hP : 2 ≤ P) : P ^ 2 ^ k < P ^ 2 ^ (k + 1) := Nat.pow_lt_pow_right (by omega) (Nat.pow_lt_pow_right (by omega) (Nat.lt_succ_self k))
/-- What squares answers. -/
def Squared (w : World) (P : Nat) (xs : List Int) (e : Ending) (w' : World) : Prop :=
  ∃ Ps a cap, e = .returned (.slice a Ps.length cap) ∧ Ps.length ≤ cap ∧ Ps.length ≤ 26 ∧ Bunch w.heap.size w' (.slice a Ps.length cap) Ps ∧ (∀ i (h : i < Ps.length), vn Ps[i] = P ^ 2 ^ i ∧ Ps[i].length ≤ 1048576) ∧ (∀ i, i < Ps.length → P ^ 2 ^ i ≤ vn xs) ∧ vn xs < P ^ 2 ^ Ps.length ∧ Below w.heap.size w w'
end Go.Proofs.YtdfnehngffajiabDoor

/- TrimL -/
namespace Go.Proofs.YtdfnehngffajiabDoor
open Go.RowKit
set_option linter.unusedVariables false

def slen : Value → Nat
  | .string s => s.size
  | _ => 0
theorem mk_size (l : List UInt8) : (⟨l.toArray⟩ : ByteArray).size = l.length := by simp [ByteArray.size]
theorem mk_tail (b : UInt8) (t : List UInt8) : (⟨(b :: t).toArray⟩ : ByteArray).extract 1 (t.length + 1) = ⟨t.toArray⟩ := by
  rw [Lib.extract_mk]
  simp
end Go.Proofs.YtdfnehngffajiabDoor

/- Text -/
namespace Go.Proofs.YtdfnehngffajiabDoor
open Go.RowKit
set_option linter.unusedVariables false

/-- The sign of a digit, as a byte. -/
def sgnB (d : Nat) : UInt8 := UInt8.ofNat (sgn d).toNat
theorem sgnB_nat {d : Nat} (h : d < 36) : (sgnB d).toNat = (sgn d).toNat := by
  unfold sgnB
  have : (sgn d).toNat < 256 := by unfold sgn; split <;> omega
  rw [UInt8.toNat_ofNat', Nat.mod_eq_of_lt this]
theorem sgnB_zero {d : Nat} (h : d < 36) : (sgnB d == 48) = (d == 0) := by
  have h1 := sgnB_nat h
  by_cases e : d = 0
  · subst e; rfl
  · have : sgnB d ≠ 48 := by
      intro q
      rw [q] at h1
      have h2 : (48 : UInt8).toNat = 48 := rfl
      rw [h2] at h1
      unfold sgn at h1
      split at h1 <;> omega
    rw [beq_eq_false_iff_ne.2 this, beq_eq_false_iff_ne.2 e]
theorem drop_signs : ∀ (ds : List Nat), (∀ d ∈ ds, d < 36) → (ds.map sgnB).dropWhile (· == 48) = (lead ds).map sgnB
  | [], _ => rfl
  | d :: t, h => by
    have hd := sgnB_zero (h d (List.mem_cons_self ..))
    unfold lead
    rw [List.map_cons, List.dropWhile_cons, List.dropWhile_cons, hd]
    split
    · exact drop_signs t (fun x hx => h x (List.mem_cons_of_mem _ hx))
    · rfl
/-- The text of n to the base B, as bytes. -/
def txtL (B n : Nat) : List UInt8 := if n = 0 then [48] else (lead (digF B n n)).map sgnB
def txt (B n : Nat) : ByteArray := ⟨(txtL B n).toArray⟩
theorem lt_pow_self {B : Nat} (hB : 2 ≤ B) (n : Nat) : n < B ^ n := Nat.lt_of_lt_of_le (Nat.lt_two_pow_self) (Nat.pow_le_pow_left hB n)
theorem lead_nil {B m n : Nat} (h : lead (digF B m n) = []) (hn : n < B ^ m) : n = 0 := by
  have h1 := ofD_lead B (digF B m n)
  rw [h, ofD_digF, Nat.mod_eq_of_lt hn] at h1
  exact h1.symm
theorem lead_zero (B m : Nat) : lead (digF B m 0) = [] := by
  rw [digF_zero]
  have := lead_zeros m []
  rw [List.append_nil] at this
  rw [this]
  rfl
theorem strOfNums_signs (ds : List Nat) : strOfNums (ds.map sgn) = ⟨(ds.map sgnB).toArray⟩ := by
  unfold strOfNums
  rw [List.map_map]
  rfl
/-- What Text is to answer, by its digits in a room of m places. -/
theorem txt_room {B m n : Nat} (hB : 2 ≤ B) (hB2 : B ≤ 36) (hn : n < B ^ m) : ((digF B m n).map sgnB).dropWhile (· == 48) = if n = 0 then [] else txtL B n := by
  rw [drop_signs _ (fun d hd => Nat.lt_of_lt_of_le (digF_lt (by omega) m n d hd) hB2)]
  by_cases h : n = 0
  · subst h
    rw [if_pos rfl, lead_zero]
    rfl
  · rw [if_neg h, txtL, if_neg h, leadD_any hn (lt_pow_self hB n)]
theorem txtL_ne {B n : Nat} (hB : 2 ≤ B) (h : n ≠ 0) : txtL B n ≠ [] := by
  unfold txtL
  rw [if_neg h]
  intro e
  exact h (lead_nil (List.map_eq_nil_iff.1 e) (lt_pow_self hB n))
theorem room_small {B D k : Nat} {xs : List Int} (hB : 2 ≤ B) (hD : D ≤ 64) (hx : WF xs) (lx : xs.length ≤ 1048576) (h : ∀ i, i < k → (B ^ D) ^ 2 ^ i ≤ vn xs) : D * 2 ^ k ≤ 134217728 := by
  cases k with
  | zero => simp; omega
  | succ k =>
    have h1 := h k (Nat.lt_succ_self k)
    have h2 := Nat.lt_of_le_of_lt h1 (vn_lt_two hx)
    rw [← Nat.pow_mul] at h2
    have h3 : 2 ^ (D * 2 ^ k) ≤ B ^ (D * 2 ^ k) := Nat.pow_le_pow_left hB _
    have h4 := (Nat.pow_lt_pow_iff_right (by omega : 1 < 2)).1 (Nat.lt_of_le_of_lt h3 h2)
    rw [Nat.pow_succ, ← Nat.mul_assoc]
    omega
theorem below_touch {B : Nat} {w w1 w2 : World} {S : Nat → Prop} (h : Below B w w1) (ht : Touch S w1 w2) (hS : ∀ g, S g → B ≤ g) (hB : B ≤ w1.heap.size) : Below B w w2 :=
  ⟨ht.os.trans h.os, ht.tape.trans h.tape, ht.output.trans h.output, Nat.le_trans h.size ht.size, fun k hk => (ht.block k (by omega) (fun q => by have := hS k q; omega)).trans (h.block k hk)⟩
theorem canon_one {x : Nat} (h0 : 0 < x) (h1 : x < 18446744073709551616) : Canon [(x : Int)] ∧ vn [(x : Int)] = x := by
  have hw : WF [(x : Int)] := wf_word (by omega) WF.nil
  refine ⟨⟨hw, ?_⟩, ?_⟩
  · simp [wid]
    omega
  · have := val_vn hw
    simp [val] at this
    omega
end Go.Proofs.YtdfnehngffajiabDoor
