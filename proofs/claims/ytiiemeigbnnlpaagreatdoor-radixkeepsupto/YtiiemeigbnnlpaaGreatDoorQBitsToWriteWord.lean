/-
  QBitsToWriteWord: Bits, Len2, WriteWord, joined.
-/
import Derived.Test.YtiiemeigbnnlpaaGreatDoorQWords
import Derived.Laws.MathBits
import Derived.Lib.TrailingZeros
import Derived.Test.YtiiemeigbnnlpaaGreatDoorQBaseToInts
import Derived.Shelf.Strconv.Itoa0
import Derived.Test.YtiiemeigbnnlpaaGreatDoorQByteRowToOpenO4

/- Bits -/
namespace Go.Proofs.YtiiemeigbnnlpaaGreatDoor

/-- The number that a list of words is. -/
def vn : List Int → Nat
  | [] => 0
  | x :: r => x.toNat + 2 ^ 64 * vn r
theorem val_vn : ∀ {xs : List Int}, WF xs → val xs = (vn xs : Int)
  | [], _ => rfl
  | x :: r, h => by
    have h1 := h.head
    unfold IsW wB at h1
    rw [val, vn, val_vn h.tail]
    unfold wB
    omega
theorem vn_eq {xs ys : List Int} (hx : WF xs) (hy : WF ys) : vn xs = vn ys ↔ val xs = val ys := by
  rw [val_vn hx, val_vn hy]; omega
theorem toNat_lt {x : Int} (h : IsW x) : x.toNat < 2 ^ 64 := by unfold IsW wB at h; omega
theorem vn_lt : ∀ {xs : List Int}, WF xs → vn xs < 2 ^ (64 * xs.length)
  | [], _ => by simp [vn]
  | x :: r, h => by
    have h1 := toNat_lt h.head
    have h2 := vn_lt h.tail
    rw [vn, List.length_cons, show 64 * (r.length + 1) = 64 + 64 * r.length by omega, Nat.pow_add]
    have := Nat.mul_le_mul_left (2 ^ 64) (Nat.succ_le_of_lt h2)
    rw [Nat.mul_succ] at this
    omega
theorem vn_append : ∀ (xs ys : List Int), vn (xs ++ ys) = vn xs + 2 ^ (64 * xs.length) * vn ys
  | [], ys => by simp [vn]
  | x :: r, ys => by
    rw [List.cons_append, vn, vn, vn_append r ys, List.length_cons, show 64 * (r.length + 1) = 64 + 64 * r.length by omega, Nat.pow_add, Nat.mul_add, Nat.mul_assoc]
    omega
theorem vn_zeros {xs : List Int} (h : ∀ x ∈ xs, x = 0) : vn xs = 0 := by
  induction xs with
  | nil => rfl
  | cons x r ih => rw [vn, h x (by simp), ih (fun y hy => h y (by simp [hy]))]; simp
/-- A binary digit, by its word. -/
theorem vn_bit : ∀ {xs : List Int}, WF xs → ∀ t, (vn xs).testBit t = ((xs.getD (t / 64) 0).toNat).testBit (t % 64)
  | [], _, t => by simp [vn]
  | x :: r, h, t => by
    have h1 := toNat_lt h.head
    rw [vn, Nat.add_comm, Nat.testBit_two_pow_mul_add _ h1]
    by_cases ht : t < 64
    · rw [if_pos ht, Nat.div_eq_of_lt ht, Nat.mod_eq_of_lt ht]; simp
    · rw [if_neg ht, vn_bit h.tail]
      have e1 : t / 64 = (t - 64) / 64 + 1 := by omega
      have e2 : t % 64 = (t - 64) % 64 := by omega
      rw [e1, e2]; simp
theorem bit_of (v t : Nat) : v.testBit t = decide (v / 2 ^ t % 2 = 1) := Nat.testBit_eq_decide_div_mod_eq
theorem bit_val (v t : Nat) : v / 2 ^ t % 2 = if v.testBit t then 1 else 0 := by
  rw [bit_of]
  by_cases h : v / 2 ^ t % 2 = 1
  · simp [h]
  · simp [h]; omega
/-- The length by the top word. -/
theorem bitLen_top {lo top s : Nat} (h : lo < 2 ^ s) (ht : top ≠ 0) : bitLen (lo + 2 ^ s * top) = s + bitLen top := by
  have hp : 0 < 2 ^ s := Nat.two_pow_pos s
  have e : (lo + 2 ^ s * top) / 2 ^ s = top := by
    rw [Nat.add_mul_div_left _ _ hp, Nat.div_eq_of_lt h]; omega
  rw [bitLen_shift _ s (by rw [e]; exact ht), e]
theorem lst_split {xs : List Int} {n : Nat} (hn : wid xs = n + 1) (h : n < xs.length) : lst xs = xs.take n ++ [xs[n]] := by
  unfold lst; rw [hn, List.take_succ_eq_append_getElem h]
theorem wid_top : ∀ {xs : List Int} {n : Nat}, wid xs = n + 1 → ∃ h : n < xs.length, xs[n] ≠ 0
  | [], n, h => by simp [wid] at h
  | x :: r, n, h => by
    unfold wid at h
    split at h
    · split at h
      · cases h
      · have : n = 0 := by omega
        subst this
        exact ⟨by simp, by simpa⟩
    · rename_i hr
      obtain ⟨m, hm⟩ : ∃ m, wid r = m + 1 := ⟨wid r - 1, by omega⟩
      obtain ⟨h1, h2⟩ := wid_top hm
      have : n = m + 1 := by omega
      subst this
      exact ⟨by simpa using h1, by simpa using h2⟩
theorem vn_lst {xs : List Int} (h : WF xs) : vn (lst xs) = vn xs := (vn_eq (canon_lst h).1 h).2 (val_lst xs)
theorem bitLen_words {xs : List Int} (hw : WF xs) {n : Nat} (hn : wid xs = n + 1) (h : n < xs.length) : bitLen (vn xs) = 64 * n + bitLen xs[n].toNat := by
  obtain ⟨_, hne⟩ := wid_top hn
  rw [← vn_lst hw, lst_split hn h, vn_append]
  have hl : (xs.take n).length = n := by simp; omega
  have h1 := vn_lt (hw.take n)
  rw [hl] at h1 ⊢
  have e : vn [xs[n]] = xs[n].toNat := by simp [vn]
  rw [e]
  refine bitLen_top h1 ?_
  have := (hw.get h).1
  omega
theorem wid_zero_vn {xs : List Int} (hw : WF xs) (h : wid xs = 0) : vn xs = 0 := by
  have := wid_zero_val xs h
  rw [val_vn hw] at this; omega
/-- v is 2^t times an odd number. -/
def Odd2 (v t : Nat) : Prop := ∃ m, v = 2 ^ t * (2 * m + 1)
theorem odd2_words {xs : List Int} {i t : Nat} (hz : ∀ j (h : j < xs.length), j < i → xs[j] = 0) (hi : i < xs.length) (ht : t < 64) (ho : Odd2 xs[i].toNat t) : Odd2 (vn xs) (64 * i + t) := by
  obtain ⟨m, hm⟩ := ho
  have e : xs = xs.take i ++ (xs[i] :: xs.drop (i + 1)) := by rw [← List.drop_eq_getElem_cons hi, List.take_append_drop]
  have hl : (xs.take i).length = i := by simp; omega
  have h0 : vn (xs.take i) = 0 := vn_zeros (fun x hx => by
    obtain ⟨j, hj, rfl⟩ := List.getElem_of_mem hx
    simp only [List.length_take] at hj
    simpa using hz j (by omega) (by omega))
  rw [e, vn_append, h0, hl, vn, hm]
  generalize vn (xs.drop (i + 1)) = R
  refine ⟨m + 2 ^ (64 - t - 1) * R, ?_⟩
  rw [Nat.pow_add]
  have e2 : 2 ^ 64 = 2 ^ t * (2 * 2 ^ (64 - t - 1)) := by rw [← Nat.pow_succ', ← Nat.pow_add]; congr 1; omega
  rw [e2, Nat.zero_add, Nat.mul_assoc (2 ^ (64 * i))]
  congr 1
  rw [Nat.mul_assoc, ← Nat.mul_add]
  congr 1
  rw [Nat.mul_add, Nat.mul_assoc]
  omega
theorem odd2_pos {v t : Nat} (h : Odd2 v t) : v ≠ 0 := by
  obtain ⟨m, rfl⟩ := h
  have := Nat.two_pow_pos t
  intro e
  rcases Nat.mul_eq_zero.1 e with q | q <;> omega
theorem odd2_bit {v t : Nat} (h : Odd2 v t) : v.testBit t = true ∧ ∀ j, j < t → v.testBit j = false := by
  obtain ⟨m, rfl⟩ := h
  constructor
  · rw [Nat.testBit_two_pow_mul]; simp [Nat.testBit_zero]
  · intro j hj
    rw [Nat.testBit_two_pow_mul]; simp; omega
end Go.Proofs.YtiiemeigbnnlpaaGreatDoor

/- Len2 -/
namespace Go.Proofs.YtiiemeigbnnlpaaGreatDoor
open Go.RowKit

theorem lib_bitLen : ∀ (f v : Nat), v < 2 ^ f → Lib.bitLenAux f v = bitLen v
  | 0, v, h => by simp at h; subst h; rfl
  | f + 1, v, h => by
    unfold Lib.bitLenAux
    split
    · rename_i h0; subst h0; rfl
    · rename_i h0
      rw [lib_bitLen f (v / 2) (by rw [Nat.pow_succ] at h; omega)]
      by_cases h1 : v / 2 = 0
      · have : v = 1 := by omega
        subst this; rfl
      · rw [bitLen_shift v 1 (by simpa using h1)]

def lays129_ren : Go.Shelf.Ren := ⟨fun | 129 => 80 | n => n, fun | 53 => 38 | 3 => 3 | 4 => 4 | 46 => 115 | 5 => 5 | 9 => 9 | n => n, fun | n => n⟩
theorem lays129 : Go.Proofs.Lays.n129 Tryz.prog lays129_ren := {
  mixed := by kernel_rfl
  f129 := Tryz.func80.trans (congrArg some (by kernel_rfl))
  t3 := Tryz.underlying3
  a3 := Tryz.isAgg3
  z3 := Tryz.sizeOf3
  v3 := Tryz.zeroValue3
  t4 := Tryz.underlying4
  a4 := Tryz.isAgg4
  z4 := Tryz.sizeOf4
  v4 := Tryz.zeroValue4
  t5 := Tryz.underlying5
  a5 := Tryz.isAgg5
  z5 := Tryz.sizeOf5
  v5 := Tryz.zeroValue5
  t9 := Tryz.underlying9
  a9 := Tryz.isAgg9
  z9 := Tryz.sizeOf9
  v9 := Tryz.zeroValue9
  t46 := Tryz.underlying115
  a46 := Tryz.isAgg115
  z46 := Tryz.sizeOf115
  v46 := Tryz.zeroValue115
  t53 := Tryz.underlying38
  a53 := Tryz.isAgg38
  z53 := Tryz.sizeOf38
  v53 := Tryz.zeroValue38 }
theorem len64_any {x : Int} (hx : IsW x) (w : World) : Calls Tryz.prog 80 #[.int .u64 x] w fun e w' => e = .returned (.int .i64 (bitLen x.toNat : Int)) ∧ w' = w := by
  have h := toNat_lt hx
  have hb : x ≤ 18446744073709551615 := by unfold IsW wB at hx; omega
  have := Any.bits_Len64 lays129 x w hx.1 hb
  rw [show Lib.bitLen x.toNat = bitLen x.toNat from lib_bitLen 64 _ h] at this
  exact this

theorem bitLen_small {x : Nat} (h : x < 2 ^ 64) : bitLen x ≤ 64 := by
  unfold bitLen
  split
  · omega
  · rename_i h0
    have := (Nat.log2_lt h0).2 h
    omega

set_option maxHeartbeats 800000 in
theorem bitLen_any {B : Nat} {w : World} {v : Value} {xs : List Int} (h : Sl B w v xs) :
    Calls Tryz.prog 87 #[v] w fun e w' => e = .returned (.int .i64 (bitLen (vn xs) : Int)) ∧ w' = w := by
  have hs := h
  obtain ⟨hw, a, cap, rfl, hlc, hcm, hm⟩ := h
  have HW := width_any hs
  have l1 := wid_le xs
  by_cases h0 : wid xs = 0
  · rw [wid_zero_vn hw h0]
    rw [h0] at HW
    have hz : ((0 : Int) == 0) = true := rfl
    go_enter Tryz.func87, Tryz.ntmps87
    go_wp2_with fail
    refine HW.mono ?_
    rintro e w1 ⟨rfl, rfl⟩
    clear HW
    go_wp2
    go_ret
    exact ⟨rfl, rfl⟩
  · obtain ⟨n, hn⟩ : ∃ n, wid xs = n + 1 := ⟨wid xs - 1, by omega⟩
    obtain ⟨hl, hne⟩ := wid_top hn
    rcases hm with e | ⟨b, off, rfl, hb, hc⟩
    · subst e; simp at hl
    have c1 := hc n hl
    have hx := hw.get hl
    have HB : Hid (bitLen (vn xs) = 64 * n + bitLen xs[n].toNat) := bitLen_words hw hn hl
    have hbs := bitLen_small (toNat_lt hx)
    have HLn := hid (len64_any hx w)
    rw [hn] at HW l1
    generalize xs[n] = x at *
    generalize bitLen x.toNat = bx at *
    generalize bitLen (vn xs) = r at *
    have hz : (((n + 1 : Nat) : Int) == 0) = false := by rw [beq_eq_false_iff_ne]; omega
    clear hc hw h0 hn hne hs
    go_enter Tryz.func87, Tryz.ntmps87
    go_wp2_with fail
    refine HW.mono ?_
    rintro e w1 ⟨rfl, rfl⟩
    clear HW
    go_wp2_with fail
    refine HLn.out.mono ?_
    rintro e w2 ⟨rfl, rfl⟩
    go_wp2
    go_ret
    refine ⟨congrArg Ending.returned (congrArg (Value.int IntKind.i64) ?_), rfl⟩
    rw [HB.out]
    omega
end Go.Proofs.YtiiemeigbnnlpaaGreatDoor

/- WriteWord -/
namespace Go.Proofs.YtiiemeigbnnlpaaGreatDoor
open Go.RowKit
set_option linter.unusedVariables false

/-- The first word, 0 of none. -/
def fstN (xs : List Int) : Nat := (xs.headD 0).toNat
theorem fstN_val {xs : List Int} (hw : WF xs) (h : vn xs < 18446744073709551616) : fstN xs = vn xs := by
  cases xs with
  | nil => rfl
  | cons x r =>
    have h1 := val_vn hw
    have h2 := hw.head
    have h3 := val_nonneg hw.tail
    unfold IsW at h2
    rw [val] at h1
    unfold fstN
    simp only [List.headD_cons]
    unfold wB at h1 h2
    have : val r = 0 := by omega
    rw [this] at h1
    omega
theorem fstN_lt {xs : List Int} (hw : WF xs) : fstN xs < 18446744073709551616 := by
  unfold fstN
  cases xs with
  | nil => simp
  | cons x r => have := hw.head; unfold IsW wB at this; simp only [List.headD_cons]; omega
/-- The loop of writeWord. -/
def Wrote (w wr : World) (g : Nat) (L : List Int) (off m B n k : Nat) : Prop := RowB wr g (part L off m B n k) ∧ Touch (· = g) w wr

set_option maxRecDepth 100000 in
set_option maxHeartbeats 3200000 in
theorem writeWord_any {w : World} {g off m B cap : Nat} {L : List Int} (hr : RowB w g L) (hm : off + m ≤ L.length) (hT : Sg w) (hg : g ≠ 0) (hB : 2 ≤ B) (hB2 : B ≤ 36) (hml : m ≤ 1073741824) (hmc : m ≤ cap) {va : Value} {xs : List Int} (ha : Sl w.heap.size w va xs) :
    Calls Tryz.prog 48 #[.slice (some ⟨g, off, none⟩) m cap, va, .int .i64 (B : Int)] w fun e w' => e = .returned (.tuple #[]) ∧ RowB w' g (wrote L off m B (fstN xs)) ∧ Touch (· = g) w w' := by
  have hlt := hid (fstN_lt ha.1)
  have HTB := hid hT
  have H0 : Hid (Wrote w w g L off m B (fstN xs) 0) := by unfold Hid Wrote; rw [part_zero]; exact ⟨hr, Touch.refl _ _⟩
  have HM := hid hm
  have hG := hid hg
  obtain ⟨hw, a, ac, rfl, hlc, hcm, hmem⟩ := ha
  cases xs with
  | nil =>
    simp only [List.length_nil] at hlc ⊢
    obtain ⟨n, hn⟩ : ∃ n, n = fstN [] := ⟨_, rfl⟩
    rw [← hn] at hlt H0 ⊢
    have e0 : ((n / B ^ 0 : Nat) : Int) = 0 := by rw [hn]; simp [fstN]
    clear hmem hn
    go_enter Tryz.func48, Tryz.ntmps48
    go_wp2_with fail

    go_loopw [6, 7] (fun x i wr => ∃ k : Nat, k ≤ m ∧ x = .int .u64 ((n / B ^ k : Nat) : Int) ∧ i = .int .i64 (((m - k : Nat) : Int) - 1) ∧ Hid (Wrote w wr g L off m B n k)) (fun _ i _ => (intOf i + 1).toNat)
    case atStart => exact ⟨0, Nat.zero_le _, by rw [e0], by simp, H0⟩
    case round =>
      clear H0
      obtain ⟨k, hk, rfl, rfl, HK⟩ := hrel
      by_cases hkm : k < m
      · obtain ⟨j, hj⟩ : ∃ j, m - k = j + 1 := ⟨m - k - 1, by omega⟩
        have ej : ((m - k : Nat) : Int) - 1 = (j : Int) := by omega
        rw [ej]
        have hjm : off + (m - (k + 1)) = off + j := by omega
        have hd : n / B ^ k % B < 36 := Nat.lt_of_lt_of_le (Nat.mod_lt _ (by omega)) hB2
        have c1 := (HTB.out.touch HK.out.2 (fun q => hG.out q.symm)) _ hd
        have hl : off + j < (part L off m B n k).length := by rw [part_len HM.out hk]; have := HM.out; omega
        have c2 := HK.out.1.cell hl
        have f2 := HK.out.1.frozen (off + j)
        have HS : Hid (Wrote w (wr.setCell ⟨g, off + j, none⟩ (.int .u8 (sgn (n / B ^ k % B)))) g L off m B n (k + 1)) := by
          unfold Hid Wrote
          refine ⟨?_, HK.out.2.setCell (.inr rfl) _ _⟩
          rw [← part_step HM.out hkm, hjm]
          exact HK.out.1.set _ _
        have hq : n / B ^ k < 18446744073709551616 := Nat.lt_of_le_of_lt (Nat.div_le_self _ _) hlt.out
        have e2 : n / B ^ (k + 1) = n / B ^ k / B := by rw [Nat.pow_succ, Nat.div_div_eq_div_mul]
        have e3 : ((n / B ^ k : Nat) : Int) % (B : Int) = ((n / B ^ k % B : Nat) : Int) := by omega
        have e4 : ((n / B ^ k : Nat) : Int) / (B : Int) = ((n / B ^ k / B : Nat) : Int) := by omega
        have hd2 : ((n / B ^ k % B : Nat) : Int) < 36 := by omega
        generalize n / B ^ k = q at *
        generalize (part L off m B n k)[off + j] = z at *
        have e5 : (q : Int).tdiv (B : Int) = ((q / B : Nat) : Int) := (Int.ofNat_tdiv q B).symm
        have e6 : (q : Int).tmod (B : Int) = ((q % B : Nat) : Int) := (Int.ofNat_tmod q B).symm
        have hq2 : q / B < 18446744073709551616 := Nat.lt_of_le_of_lt (Nat.div_le_self _ _) hq
        generalize q % B = dd at *
        generalize q / B = q2 at *
        clear HK
        go_wp2
        go_roundw
        case rel => exact ⟨k + 1, by omega, by rw [e2], by rw [show m - (k + 1) = j by omega], HS⟩
        case measure => first | (simp [intOf]; done) | (simp [intOf]; omega)
      · have ek : k = m := by omega
        have e9 : ((m - k : Nat) : Int) - 1 = -1 := by omega
        rw [e9]
        have HR : Hid (RowB wr g (wrote L off m B n)) := by unfold Hid; rw [← part_all, ← ek]; have := HK.out.1; rw [ek] at this ⊢; exact this
        have HT2 := hid HK.out.2
        clear HK
        go_wp2
        go_end0
        exact ⟨rfl, HR.out, HT2.out⟩
  | cons x r =>
    rcases hmem with e | ⟨b, o, rfl, hb, hc⟩
    · cases e
    have c0 : w.cell? ⟨b, o, none⟩ = some (.int .u64 x) := hc 0 (by simp)
    simp only [List.length_cons] at hlc ⊢
    have hx := hw.head
    obtain ⟨n, hn⟩ : ∃ n, n = fstN (x :: r) := ⟨_, rfl⟩
    rw [← hn] at hlt H0 ⊢
    have e0 : ((n / B ^ 0 : Nat) : Int) = x := by
      rw [hn]
      unfold IsW at hx
      unfold fstN
      simp only [List.headD_cons, Nat.pow_zero, Nat.div_one]
      omega
    generalize r.length = rl at *
    clear hc hn hcm hw
    go_enter Tryz.func48, Tryz.ntmps48
    go_wp2_with fail
    clear c0
    go_loopw [6, 7] (fun x i wr => ∃ k : Nat, k ≤ m ∧ x = .int .u64 ((n / B ^ k : Nat) : Int) ∧ i = .int .i64 (((m - k : Nat) : Int) - 1) ∧ Hid (Wrote w wr g L off m B n k)) (fun _ i _ => (intOf i + 1).toNat)
    case atStart => exact ⟨0, Nat.zero_le _, by rw [e0], by simp, H0⟩
    case round =>
      clear H0
      obtain ⟨k, hk, rfl, rfl, HK⟩ := hrel
      by_cases hkm : k < m
      · obtain ⟨j, hj⟩ : ∃ j, m - k = j + 1 := ⟨m - k - 1, by omega⟩
        have ej : ((m - k : Nat) : Int) - 1 = (j : Int) := by omega
        rw [ej]
        have hjm : off + (m - (k + 1)) = off + j := by omega
        have hd : n / B ^ k % B < 36 := Nat.lt_of_lt_of_le (Nat.mod_lt _ (by omega)) hB2
        have c1 := (HTB.out.touch HK.out.2 (fun q => hG.out q.symm)) _ hd
        have hl : off + j < (part L off m B n k).length := by rw [part_len HM.out hk]; have := HM.out; omega
        have c2 := HK.out.1.cell hl
        have f2 := HK.out.1.frozen (off + j)
        have HS : Hid (Wrote w (wr.setCell ⟨g, off + j, none⟩ (.int .u8 (sgn (n / B ^ k % B)))) g L off m B n (k + 1)) := by
          unfold Hid Wrote
          refine ⟨?_, HK.out.2.setCell (.inr rfl) _ _⟩
          rw [← part_step HM.out hkm, hjm]
          exact HK.out.1.set _ _
        have hq : n / B ^ k < 18446744073709551616 := Nat.lt_of_le_of_lt (Nat.div_le_self _ _) hlt.out
        have e2 : n / B ^ (k + 1) = n / B ^ k / B := by rw [Nat.pow_succ, Nat.div_div_eq_div_mul]
        have e3 : ((n / B ^ k : Nat) : Int) % (B : Int) = ((n / B ^ k % B : Nat) : Int) := by omega
        have e4 : ((n / B ^ k : Nat) : Int) / (B : Int) = ((n / B ^ k / B : Nat) : Int) := by omega
        have hd2 : ((n / B ^ k % B : Nat) : Int) < 36 := by omega
        generalize n / B ^ k = q at *
        generalize (part L off m B n k)[off + j] = z at *
        have e5 : (q : Int).tdiv (B : Int) = ((q / B : Nat) : Int) := (Int.ofNat_tdiv q B).symm
        have e6 : (q : Int).tmod (B : Int) = ((q % B : Nat) : Int) := (Int.ofNat_tmod q B).symm
        have hq2 : q / B < 18446744073709551616 := Nat.lt_of_le_of_lt (Nat.div_le_self _ _) hq
        generalize q % B = dd at *
        generalize q / B = q2 at *
        clear HK
        go_wp2
        go_roundw
        case rel => exact ⟨k + 1, by omega, by rw [e2], by rw [show m - (k + 1) = j by omega], HS⟩
        case measure => first | (simp [intOf]; done) | (simp [intOf]; omega)
      · have ek : k = m := by omega
        have e9 : ((m - k : Nat) : Int) - 1 = -1 := by omega
        rw [e9]
        have HR : Hid (RowB wr g (wrote L off m B n)) := by unfold Hid; rw [← part_all, ← ek]; have := HK.out.1; rw [ek] at this ⊢; exact this
        have HT2 := hid HK.out.2
        clear HK
        go_wp2
        go_end0
        exact ⟨rfl, HR.out, HT2.out⟩
end Go.Proofs.YtiiemeigbnnlpaaGreatDoor
