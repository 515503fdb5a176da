/-
  QSlIntsToRef: SlInts, Bits, Len2, Ref, joined.
-/
import Derived.Test.YtaflidiokhaljaaDoorQBaseToInts
import Derived.Test.YtaflidiokhaljaaDoorQWords
import Derived.Laws.MathBits
import Derived.Lib.TrailingZeros
import Derived.Shelf.Strconv.Itoa0
import Derived.Test.YtaflidiokhaljaaDoorQDWords
import Derived.Test.YtaflidiokhaljaaDoorQSubToNow

/- SlInts -/
namespace Go.Proofs.YtaflidiokhaljaaDoor
open Go.RowKit

/-- A slice of numbers. -/
def SlI (B : Nat) (w : World) (v : Value) (ps : List Int) : Prop :=
  (∀ p ∈ ps, -9223372036854775808 ≤ p ∧ p ≤ 9223372036854775807) ∧ ∃ a cap, v = .slice a ps.length cap ∧ ps.length ≤ cap ∧ cap ≤ 35184372088832 ∧
    (ps = [] ∨ ∃ b off, a = some ⟨b, off, none⟩ ∧ b < B ∧ ∀ j (h : j < ps.length), w.cell? ⟨b, off + j, none⟩ = some (.int .i64 ps[j]))
theorem SlI.now {w w' : World} {v : Value} {xs : List Int} (h : SlI w.heap.size w v xs) (hb : Below w.heap.size w w') : SlI w'.heap.size w' v xs := by
  obtain ⟨h1, a, cap, h2, h3, h4, h5⟩ := h
  refine ⟨h1, a, cap, h2, h3, h4, ?_⟩
  rcases h5 with h5 | ⟨b, off, h6, h7, h8⟩
  · exact .inl h5
  · exact .inr ⟨b, off, h6, Nat.lt_of_lt_of_le h7 hb.size, fun j hj => (hb.cell (p := ⟨b, off + j, none⟩) h7).trans (h8 j hj)⟩
end Go.Proofs.YtaflidiokhaljaaDoor

/- Bits -/
namespace Go.Proofs.YtaflidiokhaljaaDoor

/-- The number that a list of words is. -/
def vn : List Int → Nat
  | [] => 0
  | x :: r => x.toNat + 2 ^ 64 * vn r
theorem val_vn : ∀ {xs : List Int}, WF xs → val xs = (vn xs : Int)
  | [], _ => rfl
  | x :: r, h => by
    have h1 := h.head
    unfold IsW wB at h1
    rw [val, vn, val_vn h.tail]
    unfold wB
    omega
theorem vn_eq {xs ys : List Int} (hx : WF xs) (hy : WF ys) : vn xs = vn ys ↔ val xs = val ys := by
  rw [val_vn hx, val_vn hy]; omega
theorem toNat_lt {x : Int} (h : IsW x) : x.toNat < 2 ^ 64 := by unfold IsW wB at h; omega
theorem vn_lt : ∀ {xs : List Int}, WF xs → vn xs < 2 ^ (64 * xs.length)
  | [], _ => by simp [vn]
  | x :: r, h => by
    have h1 := toNat_lt h.head
    have h2 := vn_lt h.tail
    rw [vn, List.length_cons, show 64 * (r.length + 1) = 64 + 64 * r.length by omega, Nat.pow_add]
    have := Nat.mul_le_mul_left (2 ^ 64) (Nat.succ_le_of_lt h2)
    rw [Nat.mul_succ] at this
    omega
theorem vn_append : ∀ (xs ys : List Int), vn (xs ++ ys) = vn xs + 2 ^ (64 * xs.length) * vn ys
  | [], ys => by simp [vn]
  | x :: r, ys => by
    rw [List.cons_append, vn, vn, vn_append r ys, List.length_cons, show 64 * (r.length + 1) = 64 + 64 * r.length by omega, Nat.pow_add, Nat.mul_add, Nat.mul_assoc]
    omega
theorem vn_zeros {xs : List Int} (h : ∀ x ∈ xs, x = 0) : vn xs = 0 := by
  induction xs with
  | nil => rfl
  | cons x r ih => rw [vn, h x (by simp), ih (fun y hy => h y (by simp [hy]))]; simp
/-- A binary digit, by its word. -/
theorem vn_bit : ∀ {xs : List Int}, WF xs → ∀ t, (vn xs).testBit t = ((xs.getD (t / 64) 0).toNat).testBit (t % 64)
  | [], _, t => by simp [vn]
  | x :: r, h, t => by
    have h1 := toNat_lt h.head
    rw [vn, Nat.add_comm, Nat.testBit_two_pow_mul_add _ h1]
    by_cases ht : t < 64
    · rw [if_pos ht, Nat.div_eq_of_lt ht, Nat.mod_eq_of_lt ht]; simp
    · rw [if_neg ht, vn_bit h.tail]
      have e1 : t / 64 = (t - 64) / 64 + 1 := by omega
      have e2 : t % 64 = (t - 64) % 64 := by omega
      rw [e1, e2]; simp
theorem bit_of (v t : Nat) : v.testBit t = decide (v / 2 ^ t % 2 = 1) := Nat.testBit_eq_decide_div_mod_eq
theorem bit_val (v t : Nat) : v / 2 ^ t % 2 = if v.testBit t then 1 else 0 := by
  rw [bit_of]
  by_cases h : v / 2 ^ t % 2 = 1
  · simp [h]
  · simp [h]; omega
/-- The length by the top word. -/
theorem bitLen_top {lo top s : Nat} (h : lo < 2 ^ s) (ht : top ≠ 0) : bitLen (lo + 2 ^ s * top) = s + bitLen top := by
  have hp : 0 < 2 ^ s := Nat.two_pow_pos s
  have e : (lo + 2 ^ s * top) / 2 ^ s = top := by
    rw [Nat.add_mul_div_left _ _ hp, Nat.div_eq_of_lt h]; omega
  rw [bitLen_shift _ s (by rw [e]; exact ht), e]
theorem lst_split {xs : List Int} {n : Nat} (hn : wid xs = n + 1) (h : n < xs.length) : lst xs = xs.take n ++ [xs[n]] := by
  unfold lst; rw [hn, List.take_succ_eq_append_getElem h]
theorem wid_top : ∀ {xs : List Int} {n : Nat}, wid xs = n + 1 → ∃ h : n < xs.length, xs[n] ≠ 0
  | [], n, h => by simp [wid] at h
  | x :: r, n, h => by
    unfold wid at h
    split at h
    · split at h
      · cases h
      · have : n = 0 := by omega
        subst this
        exact ⟨by simp, by simpa⟩
    · rename_i hr
      obtain ⟨m, hm⟩ : ∃ m, wid r = m + 1 := ⟨wid r - 1, by omega⟩
      obtain ⟨h1, h2⟩ := wid_top hm
      have : n = m + 1 := by omega
      subst this
      exact ⟨by simpa using h1, by simpa using h2⟩
theorem vn_lst {xs : List Int} (h : WF xs) : vn (lst xs) = vn xs := (vn_eq (canon_lst h).1 h).2 (val_lst xs)
theorem bitLen_words {xs : List Int} (hw : WF xs) {n : Nat} (hn : wid xs = n + 1) (h : n < xs.length) : bitLen (vn xs) = 64 * n + bitLen xs[n].toNat := by
  obtain ⟨_, hne⟩ := wid_top hn
  rw [← vn_lst hw, lst_split hn h, vn_append]
  have hl : (xs.take n).length = n := by simp; omega
  have h1 := vn_lt (hw.take n)
  rw [hl] at h1 ⊢
  have e : vn [xs[n]] = xs[n].toNat := by simp [vn]
  rw [e]
  refine bitLen_top h1 ?_
  have := (hw.get h).1
  omega
theorem wid_zero_vn {xs : List Int} (hw : WF xs) (h : wid xs = 0) : vn xs = 0 := by
  have := wid_zero_val xs h
  rw [val_vn hw] at this; omega
/-- v is 2^t times an odd number. -/
def Odd2 (v t : Nat) : Prop := ∃ m, v = 2 ^ t * (2 * m + 1)
theorem odd2_words {xs : List Int} {i t : Nat} (hz : ∀ j (h : j < xs.length), j < i → xs[j] = 0) (hi : i < xs.length) (ht : t < 64) (ho : Odd2 xs[i].toNat t) : Odd2 (vn xs) (64 * i + t) := by
  obtain ⟨m, hm⟩ := ho
  have e : xs = xs.take i ++ (xs[i] :: xs.drop (i + 1)) := by rw [← List.drop_eq_getElem_cons hi, List.take_append_drop]
  have hl : (xs.take i).length = i := by simp; omega
  have h0 : vn (xs.take i) = 0 := vn_zeros (fun x hx => by
    obtain ⟨j, hj, rfl⟩ := List.getElem_of_mem hx
    simp only [List.length_take] at hj
    simpa using hz j (by omega) (by omega))
  rw [e, vn_append, h0, hl, vn, hm]
  generalize vn (xs.drop (i + 1)) = R
  refine ⟨m + 2 ^ (64 - t - 1) * R, ?_⟩
  rw [Nat.pow_add]
  have e2 : 2 ^ 64 = 2 ^ t * (2 * 2 ^ (64 - t - 1)) := by rw [← Nat.pow_succ', ← Nat.pow_add]; congr 1; omega
  rw [e2, Nat.zero_add, Nat.mul_assoc (2 ^ (64 * i))]
  congr 1
  rw [Nat.mul_assoc, ← Nat.mul_add]
  congr 1
  rw [Nat.mul_add, Nat.mul_assoc]
  omega
theorem odd2_pos {v t : Nat} (h : Odd2 v t) : v ≠ 0 := by
  obtain ⟨m, rfl⟩ := h
  have := Nat.two_pow_pos t
  intro e
  rcases Nat.mul_eq_zero.1 e with q | q <;> omega
theorem odd2_bit {v t : Nat} (h : Odd2 v t) : v.testBit t = true ∧ ∀ j, j < t → v.testBit j = false := by
  obtain ⟨m, rfl⟩ := h
  constructor
  · rw [Nat.testBit_two_pow_mul]; simp [Nat.testBit_zero]
  · intro j hj
    rw [Nat.testBit_two_pow_mul]; simp; omega
end Go.Proofs.YtaflidiokhaljaaDoor

/- Len2 -/
namespace Go.Proofs.YtaflidiokhaljaaDoor
open Go.RowKit

theorem lib_bitLen : ∀ (f v : Nat), v < 2 ^ f → Lib.bitLenAux f v = bitLen v
  | 0, v, h => by simp at h; subst h; rfl
  | f + 1, v, h => by
    unfold Lib.bitLenAux
    split
    · rename_i h0; subst h0; rfl
    · rename_i h0
      rw [lib_bitLen f (v / 2) (by rw [Nat.pow_succ] at h; omega)]
      by_cases h1 : v / 2 = 0
      · have : v = 1 := by omega
        subst this; rfl
      · rw [bitLen_shift v 1 (by simpa using h1)]

def lays129_ren : Go.Shelf.Ren := ⟨fun | 129 => 74 | n => n, fun | 53 => 33 | 3 => 3 | 4 => 4 | 46 => 105 | 5 => 5 | 9 => 9 | n => n, fun | n => n⟩
theorem lays129 : Go.Proofs.Lays.n129 Tryd.prog lays129_ren := {
  mixed := by kernel_rfl
  f129 := Tryd.func74.trans (congrArg some (by kernel_rfl))
  t3 := Tryd.underlying3
  a3 := Tryd.isAgg3
  z3 := Tryd.sizeOf3
  v3 := Tryd.zeroValue3
  t4 := Tryd.underlying4
  a4 := Tryd.isAgg4
  z4 := Tryd.sizeOf4
  v4 := Tryd.zeroValue4
  t5 := Tryd.underlying5
  a5 := Tryd.isAgg5
  z5 := Tryd.sizeOf5
  v5 := Tryd.zeroValue5
  t9 := Tryd.underlying9
  a9 := Tryd.isAgg9
  z9 := Tryd.sizeOf9
  v9 := Tryd.zeroValue9
  t46 := Tryd.underlying105
  a46 := Tryd.isAgg105
  z46 := Tryd.sizeOf105
  v46 := Tryd.zeroValue105
  t53 := Tryd.underlying33
  a53 := Tryd.isAgg33
  z53 := Tryd.sizeOf33
  v53 := Tryd.zeroValue33 }
theorem len64_any {x : Int} (hx : IsW x) (w : World) : Calls Tryd.prog 74 #[.int .u64 x] w fun e w' => e = .returned (.int .i64 (bitLen x.toNat : Int)) ∧ w' = w := by
  have h := toNat_lt hx
  have hb : x ≤ 18446744073709551615 := by unfold IsW wB at hx; omega
  have := Any.bits_Len64 lays129 x w hx.1 hb
  rw [show Lib.bitLen x.toNat = bitLen x.toNat from lib_bitLen 64 _ h] at this
  exact this

theorem bitLen_small {x : Nat} (h : x < 2 ^ 64) : bitLen x ≤ 64 := by
  unfold bitLen
  split
  · omega
  · rename_i h0
    have := (Nat.log2_lt h0).2 h
    omega

set_option maxHeartbeats 800000 in
theorem bitLen_any {B : Nat} {w : World} {v : Value} {xs : List Int} (h : Sl B w v xs) :
    Calls Tryd.prog 81 #[v] w fun e w' => e = .returned (.int .i64 (bitLen (vn xs) : Int)) ∧ w' = w := by
  have hs := h
  obtain ⟨hw, a, cap, rfl, hlc, hcm, hm⟩ := h
  have HW := width_any hs
  have l1 := wid_le xs
  by_cases h0 : wid xs = 0
  · rw [wid_zero_vn hw h0]
    rw [h0] at HW
    have hz : ((0 : Int) == 0) = true := rfl
    go_enter Tryd.func81, Tryd.ntmps81
    go_wp2_with fail
    refine HW.mono ?_
    rintro e w1 ⟨rfl, rfl⟩
    clear HW
    go_wp2
    go_ret
    exact ⟨rfl, rfl⟩
  · obtain ⟨n, hn⟩ : ∃ n, wid xs = n + 1 := ⟨wid xs - 1, by omega⟩
    obtain ⟨hl, hne⟩ := wid_top hn
    rcases hm with e | ⟨b, off, rfl, hb, hc⟩
    · subst e; simp at hl
    have c1 := hc n hl
    have hx := hw.get hl
    have HB : Hid (bitLen (vn xs) = 64 * n + bitLen xs[n].toNat) := bitLen_words hw hn hl
    have hbs := bitLen_small (toNat_lt hx)
    have HLn := hid (len64_any hx w)
    rw [hn] at HW l1
    generalize xs[n] = x at *
    generalize bitLen x.toNat = bx at *
    generalize bitLen (vn xs) = r at *
    have hz : (((n + 1 : Nat) : Int) == 0) = false := by rw [beq_eq_false_iff_ne]; omega
    clear hc hw h0 hn hne hs
    go_enter Tryd.func81, Tryd.ntmps81
    go_wp2_with fail
    refine HW.mono ?_
    rintro e w1 ⟨rfl, rfl⟩
    clear HW
    go_wp2_with fail
    refine HLn.out.mono ?_
    rintro e w2 ⟨rfl, rfl⟩
    go_wp2
    go_ret
    refine ⟨congrArg Ending.returned (congrArg (Value.int IntKind.i64) ?_), rfl⟩
    rw [HB.out]
    omega
end Go.Proofs.YtaflidiokhaljaaDoor

/- Ref -/
namespace Go.Proofs.YtaflidiokhaljaaDoor
open Go.RowKit

theorem SlI.below {B : Nat} {w w' : World} {v : Value} {xs : List Int} (h : SlI B w v xs) (hb : Below B w w') : SlI B w' v xs := by
  obtain ⟨h1, a, cap, h2, h3, h4, h5⟩ := h
  refine ⟨h1, a, cap, h2, h3, h4, ?_⟩
  rcases h5 with h5 | ⟨b, off, h6, h7, h8⟩
  · exact .inl h5
  · exact .inr ⟨b, off, h6, h7, fun j hj => (hb.cell (p := ⟨b, off + j, none⟩) h7).trans (h8 j hj)⟩

set_option maxHeartbeats 400000 in
theorem trim_any {B : Nat} {w : World} {v : Value} {xs : List Int} (h : SlI B w v xs) :
    Calls Tryd.prog 48 #[v] w fun e w' => ∃ r, e = .returned r ∧ SlI B w r (dlst xs) ∧ w' = w := by
  have hs := h
  obtain ⟨hw, a, cap, rfl, hlc, hcm, hm⟩ := h
  have HW : Hid (∀ n : Nat, n ≤ xs.length → (∀ j (h : j < xs.length), n ≤ j → xs[j] = 0) → (0 < n → ∀ h' : n - 1 < xs.length, xs[n - 1] ≠ 0) → dwid xs = n) := fun n h1 h2 h3 => dwid_is h1 h2 h3
  have HF : Hid (∀ n, dwid xs = n → SlI B w (.slice a n cap) (dlst xs)) := fun n hn => by
    subst hn
    have l := dwid_le xs
    refine ⟨fun p hp => hw p (List.mem_of_mem_take hp), a, cap, by rw [dlength_lst], by rw [dlength_lst]; omega, hcm, ?_⟩
    rcases hm with rfl | ⟨b, off, h1, h2, h3⟩
    · exact .inl rfl
    · refine .inr ⟨b, off, h1, h2, fun j hj => ?_⟩
      rw [dlength_lst] at hj
      rw [h3 j (by omega), dlst_get hj]
  have HM := hid hm
  clear hs
  go_enter Tryd.func48, Tryd.ntmps48
  go_wp2
  go_loop [3] (fun i => ∃ n : Nat, n ≤ xs.length ∧ i = .int .i64 n ∧ ∀ j (h : j < xs.length), n ≤ j → xs[j] = 0) (fun i => (intOf i).toNat)
  case atStart => exact ⟨xs.length, Nat.le_refl _, rfl, fun j h h' => by omega⟩
  case round =>
    obtain ⟨n, hn, rfl, hz⟩ := hrel
    have HZ := hid hz
    clear hz hm
    by_cases h0 : n = 0
    · subst h0
      go_wp2
      go_ret
      exact ⟨_, rfl, HF.out 0 (HW.out 0 (by omega) HZ.out (by omega)), rfl⟩
    · obtain ⟨k, rfl⟩ : ∃ k, n = k + 1 := ⟨n - 1, by omega⟩
      rcases HM.out with rfl | ⟨b, off, rfl, hb, hc⟩
      · simp at hn
      · have hk : k < xs.length := by omega
        have hck := hc k hk
        obtain ⟨x, hx⟩ : ∃ x, x = xs[k] := ⟨_, rfl⟩
        rw [← hx] at hck
        have HX : Hid (x = xs[k]) := hx
        clear hx hc h0
        by_cases hx0 : x = 0
        · have ht : (x == 0) = true := by simp [hx0]
          go_wp2
          go_round
          case rel =>
            refine ⟨k, by omega, rfl, fun j h hj => ?_⟩
            by_cases e : j = k
            · subst e; rw [← HX.out]; exact hx0
            · exact HZ.out j h (by omega)
          case measure => simp [intOf]
        · have ht : (x == 0) = false := by simp [hx0]
          go_wp2
          go_ret
          exact ⟨_, rfl, HF.out (k + 1) (HW.out (k + 1) hn HZ.out (fun _ h' => by have := HX.out; simp at h' ⊢; rw [← this]; exact hx0)), rfl⟩

theorem drew_ex {w wr : World} (h : ∃ q, wr = w.drewN q) (n : Nat) : ∃ q, wr.drewN n = w.drewN q := by obtain ⟨q, rfl⟩ := h; exact ⟨q + n, by rw [World.drewN_drewN]⟩

end Go.Proofs.YtaflidiokhaljaaDoor
