/-
  Pow: the contract of Pow.
-/
import Derived.Test.YtaoammmnpfbdfaaQWp8ToFresh
namespace Go.Proofs.Ytaoammmnpfbdfaa
open Go.RowKit
set_option linter.unusedVariables false

theorem pow_le_pw {X : Int} {L : Nat} (h0 : 0 ≤ X) (h : X < pw L) : ∀ e : Nat, 0 ≤ X ^ e ∧ X ^ e ≤ pw (L * e)
  | 0 => by simp [pw]
  | e + 1 => by
    obtain ⟨h1, h2⟩ := pow_le_pw h0 h e
    rw [Int.pow_succ, Nat.mul_add, pw_plus, Nat.mul_one]
    exact ⟨Int.mul_nonneg h1 h0, Int.mul_le_mul h2 (Int.le_of_lt h) h0 (Int.le_of_lt (pw_pos _))⟩
theorem pow_len {X : Int} {L e : Nat} {zs : List Int} (h0 : 0 ≤ X) (h : X < pw L) (hz : Canon zs) (hv : val zs = X ^ e) : zs.length ≤ L * e + 1 := by
  refine canon_len hz ?_
  have h1 := (pow_le_pw h0 h e).2
  have h2 := pw_pos (L * e)
  rw [hv, pw]
  unfold wB
  omega
theorem bits_and_i64 (a b : Nat) (ha : a < 9223372036854775808) (hb : b < 9223372036854775808) : bits .and .i64 (a : Int) (b : Int) = ((a &&& b : Nat) : Int) := by
  have hx : a &&& b ≤ a := Nat.and_le_left
  have h1 : (BitVec.ofInt 64 (a : Int)).toNat = a := by
    rw [BitVec.ofInt_natCast, BitVec.toNat_ofNat]; exact Nat.mod_eq_of_lt (by omega)
  have h2 : (BitVec.ofInt 64 (b : Int)).toNat = b := by
    rw [BitVec.ofInt_natCast, BitVec.toNat_ofNat]; exact Nat.mod_eq_of_lt (by omega)
  show IntKind.i64.wrap ((BitVec.ofInt 64 (a : Int) &&& BitVec.ofInt 64 (b : Int)).toNat : Int) = _
  rw [BitVec.toNat_and, h1, h2, IntKind.wrap_i64]
  omega
theorem bit_i64 (n k : Nat) (hn : n ≤ 256) : bits BinOp.and IntKind.i64 ((n : Int) / 2 ^ k) 1 = ((n / 2 ^ k % 2 : Nat) : Int) := by
  have e : (n : Int) / 2 ^ k = ((n / 2 ^ k : Nat) : Int) := by simp
  have hd : n / 2 ^ k ≤ n := Nat.div_le_self _ _
  rw [e, show (1 : Int) = ((1 : Nat) : Int) from rfl, bits_and_i64 _ 1 (by omega) (by omega), Nat.and_one_is_mod]

theorem bitsLen_any {x : Int} (hx : IsW x) (w : World) : Calls Try.prog 103 #[.int .u64 x] w fun e w' => e = .returned (.int .i64 (bitLen x.toNat : Int)) ∧ w' = w := by
  have HL := hid (len64_any hx w)
  go_enter Try.func103, Try.ntmps103
  go_wp2_with fail
  refine HL.out.mono ?_
  rintro e w1 ⟨rfl, rfl⟩
  go_wp2
  go_ret
  exact ⟨rfl, rfl⟩

/-- What Pow answers, where it answers. -/
def Makes2 (w : World) (s : Int) (e : Ending) (w' : World) : Prop :=
  ∃ zs r, e = .returned (.tuple #[r, .int .i64 0]) ∧ Mine w.heap.size w' r zs ∧ Canon zs ∧ val zs = s ∧ Below w.heap.size w w'

theorem pow_neg (v : Value) (w : World) {i : Int} (hi : i < 0) :
    Calls Try.prog 108 #[v, .int .i64 i] w fun e w' => e = .returned (.tuple #[.slice none 0 0, .int .i64 3]) ∧ w' = w := by
  go_enter Try.func108, Try.ntmps108
  go_wp2
  go_ret2
  exact ⟨rfl, rfl⟩
theorem pow_big (v : Value) (w : World) {i : Int} (hi : 256 < i) :
    Calls Try.prog 108 #[v, .int .i64 i] w fun e w' => e = .returned (.tuple #[.slice none 0 0, .int .i64 5]) ∧ w' = w := by
  have h0 : ¬ i < 0 := by omega
  go_enter Try.func108, Try.ntmps108
  go_wp2
  go_ret2
  exact ⟨rfl, rfl⟩
theorem canon_one : Canon [1] := ⟨wf_word (by omega) WF.nil, rfl⟩
theorem bitLen_9 {n : Nat} (h : n ≤ 256) : bitLen n ≤ 9 := by
  unfold bitLen
  split
  · omega
  · rename_i h0
    have := (Nat.log2_lt h0).2 (show n < 2 ^ 9 by omega)
    omega
theorem bitLen_none (n : Nat) : n / 2 ^ bitLen n = 0 := Nat.div_eq_of_lt (bitLen_spec n).1
theorem half_step (n k : Nat) : n / 2 ^ k = 2 * (n / 2 ^ (k + 1)) + n / 2 ^ k % 2 := by
  rw [Nat.pow_succ, ← Nat.div_div_eq_div_mul]
  omega

set_option maxHeartbeats 3200000 in
theorem pow_some {w : World} {va : Value} {xs : List Int} (ha : Sl w.heap.size w va xs) (hl : xs.length ≤ 1073741824) {n : Nat} (hn : n ≤ 256) :
    Calls Try.prog 108 #[va, .int .i64 (n : Int)] w (Makes2 w (val xs ^ n)) := by
  have HA := hid ha
  have X0 := hid (val_nonneg ha.1)
  have X1 := hid (val_lt_pw ha.1)
  have hLn : ∀ w : World, Calls Try.prog 103 #[.int .u64 (n : Int)] w fun e w' => e = .returned (.int .i64 (bitLen n : Int)) ∧ w' = w := fun w => by
    have := bitsLen_any (x := (n : Int)) (by unfold IsW wB; omega) w
    simpa using this
  have h9 := bitLen_9 hn
  have HZ := hid (bitLen_none n)
  have HB : Hid (∀ k, bits BinOp.and IntKind.i64 ((n : Int) / 2 ^ k) 1 = ((n / 2 ^ k % 2 : Nat) : Int)) := fun k => bit_i64 n k hn
  obtain ⟨L, hL⟩ : ∃ L, xs.length = L := ⟨_, rfl⟩
  have HL := hid hL
  rw [hL] at X1 hl
  have hL2 : ∀ e, e ≤ 256 → L * e ≤ 274877906944 := fun e he => by
    have := Nat.mul_le_mul hl he
    omega
  have HL2 := hid hL2
  generalize bitLen n = B at *
  obtain ⟨X, hX⟩ : ∃ X, val xs = X := ⟨_, rfl⟩
  rw [hX] at X0 X1 ⊢
  have HX := hid hX
  clear ha hL hL2 hX
  go_enter Try.func108, Try.ntmps108
  go_wp2_with fail
  refine (hLn _).mono ?_
  rintro e w1 ⟨rfl, rfl⟩
  have hnew := hid (mine_row (B := w.heap.size) (zs := [1]) (k := 1) (Nat.le_refl _) canon_one.1 rfl (by omega) (Row.new w [1]))
  have hbel := hid ((Below.refl w.heap.size w).alloc (Nat.le_refl _) (.cells #[.int .u64 1] 52))
  go_wp2_with fail
  go_loopw [6, 7] (fun p i wr => ∃ (j : Nat) (zs : List Int), j ≤ 9 ∧ i = .int .i64 ((j : Int) - 1) ∧ Hid (Mine w.heap.size wr p zs) ∧ Hid (Canon zs) ∧ Hid (val zs = X ^ (n / 2 ^ j)) ∧ Hid (Below w.heap.size w wr)) (fun _ i _ => (intOf i + 1).toNat)
  case atStart => exact ⟨B, [1], h9, rfl, hnew, hid canon_one, (by unfold Hid; rw [HZ.out]; simp [val]), hbel⟩
  case round =>
    clear hnew hbel
    obtain ⟨j, zs, hj, rfl, HM, HC, HV, hb⟩ := hrel
    match j, hj, HV with
    | 0, hj, HV =>
      obtain ⟨pa, pc, rfl⟩ := HM.out.form
      go_wp2
      go_ret2
      exact ⟨zs, _, rfl, HM.out, HC.out, by rw [HV.out]; simp, hb.out⟩
    | k + 1, hj, HV =>
      have hbk := HB.out k
      have hst := hid (half_step n k)
      have hlen := pow_len X0.out X1.out HC.out HV.out
      have he : n / 2 ^ (k + 1) ≤ n := Nat.div_le_self _ _
      have hl2 := HL2.out _ (show n / 2 ^ (k + 1) ≤ 256 by omega)
      have HA1 := hid ((HA.out.now hb.out))
      have HSQ := hid (square_any HM.out.sl (by omega))
      obtain ⟨pa, pc, rfl⟩ := HM.out.form
      clear hlen hl2
      go_wp2_with fail
      refine HSQ.out.mono ?_
      rintro e w2 ⟨qs, q, rfl, m1, m2, m3, m4⟩
      obtain ⟨qa, qc, rfl⟩ := m1.form
      have HM1 := hid (m1.mono hb.out.size)
      have HQ : Hid (val qs = X ^ (2 * (n / 2 ^ (k + 1)))) := by unfold Hid; rw [m3, HV.out, ← Int.pow_add]; congr 1; omega
      have hb2 := hid (below_step hb.out m4)
      have HA2 := hid (HA1.out.now m4)
      have HC2 := hid m2
      clear m1 m2 m3 m4 HSQ HA1 HM HC HV hb
      by_cases hbit : n / 2 ^ k % 2 = 1
      · rw [hbit] at hbk
        have hle : n / 2 ^ k ≤ n := Nat.div_le_self _ _
        have hlen := pow_len X0.out X1.out HC2.out HQ.out
        have hl2 := HL2.out _ (show 2 * (n / 2 ^ (k + 1)) ≤ 256 by have := hst.out; omega)
        have HMU := hid (mul_any HM1.out.sl HA2.out (by rw [HL.out]; omega))
        have HBI := hid hbit
        clear hlen hl2 hbit
        go_wp2_with fail
        refine HMU.out.mono ?_
        rintro e w3 ⟨ts, t, rfl, m1, m2, m3, m4⟩
        have HM3 := hid (m1.mono hb2.out.size)
        have HC3 := hid m2
        have HQ3 := hid m3
        have hb3 := hid (below_step hb2.out m4)
        clear m1 m2 m3 m4 HMU HA2
        go_wp2
        go_roundw
        case rel => exact ⟨k, ts, by omega, by go_num, HM3, HC3, (by unfold Hid; rw [HQ3.out, HQ.out, HX.out, ← Int.pow_succ]; congr 1; have := hst.out; have := HBI.out; omega), hb3⟩
        case measure => first | (simp [intOf]; done) | (simp [intOf]; omega)
      · have hbit0 : n / 2 ^ k % 2 = 0 := by omega
        rw [hbit0] at hbk
        have HBI := hid hbit0
        clear hbit hbit0
        go_wp2
        go_roundw
        case rel => exact ⟨k, qs, by omega, by go_num, HM1, HC2, (by unfold Hid; rw [HQ.out]; congr 1; have := hst.out; have := HBI.out; omega), hb2⟩
        case measure => first | (simp [intOf]; done) | (simp [intOf]; omega)
end Go.Proofs.Ytaoammmnpfbdfaa
