/-
  QOpenTToTwos: OpenT, Bits, Len2, BitAt, Twos, joined.
-/
import Derived.Test.YtdhmbalkclbhpaaGreatDoorRows
import Derived.Test.YtdhmbalkclbhpaaGreatDoorQBaseToInts
import Derived.Test.YtdhmbalkclbhpaaGreatDoorQDigsToByteRow
import Derived.Lib.LaidTab
import Derived.ShutString
import Derived.ChangeMaps5
import Derived.Test.YtdhmbalkclbhpaaGreatDoorQWords
import Derived.Laws.MathBits
import Derived.Lib.TrailingZeros
import Derived.Shelf.Strconv.Itoa0
import Derived.Shelf.Spec.TrailingZeros

/- OpenT -/
namespace Go.Proofs.YtdhmbalkclbhpaaGreatDoor
open Go.ChangeShapes Go.WideShapes Go.ChangeAt Go.RowKit
set_option linter.unusedVariables false

set_option maxRecDepth 100000 in
theorem open_text {H : Type} {enc : TypeId × Value → H} {W : World} {r : Reach} {b0 base : Nat} {sp : Nat → Bool} {held : Bool} {v : Value} {d : DataW H} {p : List MemPlace}
    (hv : Value.okWide Tryz.prog W r b0 9 v) (h : DataW.Trod enc Tryz.prog W base sp held 9 v d p) : ∃ s : ByteArray, v = .string s ∧ d = .lit (.string s.data.toList) ∧ p = [] ∧ s.size ≤ maxLen := by
  obtain ⟨s, rfl⟩ := okWide_string Tryz.underlying9 hv
  obtain ⟨fuel, hf⟩ := h
  obtain ⟨s', h1, h2, h3⟩ := DataW.trod_string Tryz.underlying9 hf
  simp [Value.cells] at h1
  subst h1
  exact ⟨s, rfl, congrArg Prod.fst h2, congrArg Prod.snd h2, h3⟩
theorem text_bulk {H : Type} {s : ByteArray} (h : Rows.uptoBulk (.lit (.string s.data.toList) : DataW H) ≤ 1048576) : s.size ≤ 1048576 := by
  simp only [Rows.uptoBulk] at h
  have : s.data.toList.length = s.size := by simp
  omega
theorem byte_bounds {n : Int} (h : (Lit.int .u8 n).wf = true) : 0 ≤ n ∧ n ≤ 255 := by
  have h1 : IntKind.u8.min = 0 := rfl
  have h2 : IntKind.u8.max = 255 := rfl
  simp only [Lit.wf, Bool.and_eq_true, decide_eq_true_eq] at h
  omega
/-- The signs, as numbers. -/
abbrev signZ : List Int := (List.range 36).map sgn
theorem gSigns : Tryz.prog.globalNamed "trellis/radix.signs" = some 1 := by kernel_rfl
theorem gSignsType : (Tryz.prog.globals[1]?).map (·.type) = some 136 := by kernel_rfl
theorem cells36 : Tryz.prog.cellsOf 136 = 36 := by kernel_rfl
theorem cellsU8 : Tryz.prog.cellsOf 5 = 1 := by kernel_rfl
theorem tab_second {W : World} {x : String × DataW Unit} {rest : List (String × DataW Unit)} {zs : List Int} (h : laidMet Tryz.prog (x :: ("trellis/radix.signs", Lib.tabData .u8 zs) :: rest) W) : Lib.TabIs Tryz.prog W "trellis/radix.signs" .u8 zs := by
  obtain ⟨ps, ⟨_, _, _, _, _, _, _, _, _, _, ⟨g', t', cs, fuel, p, q, hg', ht', hvar, hd, _, _⟩, _⟩, _⟩ := h
  obtain rfl := Option.some.inj (gSigns.symm.trans hg')
  obtain rfl := Option.some.inj (gSignsType.symm.trans ht')
  unfold Lib.TabIs
  rw [hvar, ← Lib.cells_of_tab Tryz.underlying136 Tryz.underlying5 cellsU8 cells36 hd]
theorem signs_tab : (Rows.laid_trellis_radix_signs : DataW Unit) = Lib.tabData .u8 signZ := by rfl
theorem signs_sg {W : World} (h : Lib.TabIs Tryz.prog W "trellis/radix.signs" .u8 signZ) : Sg W := fun d hd => by
  rw [h.cell gSigns d (by simp [signZ]; exact hd)]
  simp [signZ, List.getD, hd]
theorem signs_of {W : World} (h : laidMetH Tryz.prog [("unicode/utf8.acceptRanges", Rows.laid_unicode_utf8_acceptRanges), ("trellis/radix.signs", Rows.laid_trellis_radix_signs), ("unicode/utf8.first", Rows.laid_unicode_utf8_first)] W) : Sg W := by
  have h1 : laidMet Tryz.prog [("unicode/utf8.acceptRanges", Rows.laid_unicode_utf8_acceptRanges), ("trellis/radix.signs", Rows.laid_trellis_radix_signs), ("unicode/utf8.first", Rows.laid_unicode_utf8_first)] W := h
  rw [signs_tab] at h1
  exact signs_sg (tab_second h1)
/-- The numbers of a datum. -/
def numsD : DataW Unit → List Value
  | .agg l => numsL l
  | .lit (.int k z) => [.int k z]
  | _ => []
where numsL : List (DataW Unit) → List Value
  | [] => []
  | d :: r => numsD d ++ numsL r
def putRow (h : Array Obj) (i : Nat) (l : List Value) : Array Obj := h.modify i fun
  | .cells _ t frozen => .cells l.toArray t frozen
  | o => o
/-- A world for the witness: the settled one, the three tables holding what their initialisers lay. -/
def laidWorld4 (P : Program) (os : Os) : World :=
  { World.holding P os ⟨#[], #[], []⟩ with heap := putRow (putRow (putRow (World.holding P os ⟨#[], #[], []⟩).heap 1 (numsD Rows.laid_trellis_radix_signs)) 7 (numsD Rows.laid_unicode_utf8_first)) 8 (numsD Rows.laid_unicode_utf8_acceptRanges) }
end Go.Proofs.YtdhmbalkclbhpaaGreatDoor

/- Bits -/
namespace Go.Proofs.YtdhmbalkclbhpaaGreatDoor

/-- The number that a list of words is. -/
def vn : List Int → Nat
  | [] => 0
  | x :: r => x.toNat + 2 ^ 64 * vn r
theorem val_vn : ∀ {xs : List Int}, WF xs → val xs = (vn xs : Int)
  | [], _ => rfl
  | x :: r, h => by
    have h1 := h.head
    unfold IsW wB at h1
    rw [val, vn, val_vn h.tail]
    unfold wB
    omega
theorem vn_eq {xs ys : List Int} (hx : WF xs) (hy : WF ys) : vn xs = vn ys ↔ val xs = val ys := by
  rw [val_vn hx, val_vn hy]; omega
theorem toNat_lt {x : Int} (h : IsW x) : x.toNat < 2 ^ 64 := by unfold IsW wB at h; omega
theorem vn_lt : ∀ {xs : List Int}, WF xs → vn xs < 2 ^ (64 * xs.length)
  | [], _ => by simp [vn]
  | x :: r, h => by
    have h1 := toNat_lt h.head
    have h2 := vn_lt h.tail
    rw [vn, List.length_cons, show 64 * (r.length + 1) = 64 + 64 * r.length by omega, Nat.pow_add]
    have := Nat.mul_le_mul_left (2 ^ 64) (Nat.succ_le_of_lt h2)
    rw [Nat.mul_succ] at this
    omega
theorem vn_append : ∀ (xs ys : List Int), vn (xs ++ ys) = vn xs + 2 ^ (64 * xs.length) * vn ys
  | [], ys => by simp [vn]
  | x :: r, ys => by
    rw [List.cons_append, vn, vn, vn_append r ys, List.length_cons, show 64 * (r.length + 1) = 64 + 64 * r.length by omega, Nat.pow_add, Nat.mul_add, Nat.mul_assoc]
    omega
theorem vn_zeros {xs : List Int} (h : ∀ x ∈ xs, x = 0) : vn xs = 0 := by
  induction xs with
  | nil => rfl
  | cons x r ih => rw [vn, h x (by simp), ih (fun y hy => h y (by simp [hy]))]; simp
/-- A binary digit, by its word. -/
theorem vn_bit : ∀ {xs : List Int}, WF xs → ∀ t, (vn xs).testBit t = ((xs.getD (t / 64) 0).toNat).testBit (t % 64)
  | [], _, t => by simp [vn]
  | x :: r, h, t => by
    have h1 := toNat_lt h.head
    rw [vn, Nat.add_comm, Nat.testBit_two_pow_mul_add _ h1]
    by_cases ht : t < 64
    · rw [if_pos ht, Nat.div_eq_of_lt ht, Nat.mod_eq_of_lt ht]; simp
    · rw [if_neg ht, vn_bit h.tail]
      have e1 : t / 64 = (t - 64) / 64 + 1 := by omega
      have e2 : t % 64 = (t - 64) % 64 := by omega
      rw [e1, e2]; simp
theorem bit_of (v t : Nat) : v.testBit t = decide (v / 2 ^ t % 2 = 1) := Nat.testBit_eq_decide_div_mod_eq
theorem bit_val (v t : Nat) : v / 2 ^ t % 2 = if v.testBit t then 1 else 0 := by
  rw [bit_of]
  by_cases h : v / 2 ^ t % 2 = 1
  · simp [h]
  · simp [h]; omega
/-- The length by the top word. -/
theorem bitLen_top {lo top s : Nat} (h : lo < 2 ^ s) (ht : top ≠ 0) : bitLen (lo + 2 ^ s * top) = s + bitLen top := by
  have hp : 0 < 2 ^ s := Nat.two_pow_pos s
  have e : (lo + 2 ^ s * top) / 2 ^ s = top := by
    rw [Nat.add_mul_div_left _ _ hp, Nat.div_eq_of_lt h]; omega
  rw [bitLen_shift _ s (by rw [e]; exact ht), e]
theorem lst_split {xs : List Int} {n : Nat} (hn : wid xs = n + 1) (h : n < xs.length) : lst xs = xs.take n ++ [xs[n]] := by
  unfold lst; rw [hn, List.take_succ_eq_append_getElem h]
theorem wid_top : ∀ {xs : List Int} {n : Nat}, wid xs = n + 1 → ∃ h : n < xs.length, xs[n] ≠ 0
  | [], n, h => by simp [wid] at h
  | x :: r, n, h => by
    unfold wid at h
    split at h
    · split at h
      · cases h
      · have : n = 0 := by omega
        subst this
        exact ⟨by simp, by simpa⟩
    · rename_i hr
      obtain ⟨m, hm⟩ : ∃ m, wid r = m + 1 := ⟨wid r - 1, by omega⟩
      obtain ⟨h1, h2⟩ := wid_top hm
      have : n = m + 1 := by omega
      subst this
      exact ⟨by simpa using h1, by simpa using h2⟩
theorem vn_lst {xs : List Int} (h : WF xs) : vn (lst xs) = vn xs := (vn_eq (canon_lst h).1 h).2 (val_lst xs)
theorem bitLen_words {xs : List Int} (hw : WF xs) {n : Nat} (hn : wid xs = n + 1) (h : n < xs.length) : bitLen (vn xs) = 64 * n + bitLen xs[n].toNat := by
  obtain ⟨_, hne⟩ := wid_top hn
  rw [← vn_lst hw, lst_split hn h, vn_append]
  have hl : (xs.take n).length = n := by simp; omega
  have h1 := vn_lt (hw.take n)
  rw [hl] at h1 ⊢
  have e : vn [xs[n]] = xs[n].toNat := by simp [vn]
  rw [e]
  refine bitLen_top h1 ?_
  have := (hw.get h).1
  omega
theorem wid_zero_vn {xs : List Int} (hw : WF xs) (h : wid xs = 0) : vn xs = 0 := by
  have := wid_zero_val xs h
  rw [val_vn hw] at this; omega
/-- v is 2^t times an odd number. -/
def Odd2 (v t : Nat) : Prop := ∃ m, v = 2 ^ t * (2 * m + 1)
theorem odd2_words {xs : List Int} {i t : Nat} (hz : ∀ j (h : j < xs.length), j < i → xs[j] = 0) (hi : i < xs.length) (ht : t < 64) (ho : Odd2 xs[i].toNat t) : Odd2 (vn xs) (64 * i + t) := by
  obtain ⟨m, hm⟩ := ho
  have e : xs = xs.take i ++ (xs[i] :: xs.drop (i + 1)) := by rw [← List.drop_eq_getElem_cons hi, List.take_append_drop]
  have hl : (xs.take i).length = i := by simp; omega
  have h0 : vn (xs.take i) = 0 := vn_zeros (fun x hx => by
    obtain ⟨j, hj, rfl⟩ := List.getElem_of_mem hx
    simp only [List.length_take] at hj
    simpa using hz j (by omega) (by omega))
  rw [e, vn_append, h0, hl, vn, hm]
  generalize vn (xs.drop (i + 1)) = R
  refine ⟨m + 2 ^ (64 - t - 1) * R, ?_⟩
  rw [Nat.pow_add]
  have e2 : 2 ^ 64 = 2 ^ t * (2 * 2 ^ (64 - t - 1)) := by rw [← Nat.pow_succ', ← Nat.pow_add]; congr 1; omega
  rw [e2, Nat.zero_add, Nat.mul_assoc (2 ^ (64 * i))]
  congr 1
  rw [Nat.mul_assoc, ← Nat.mul_add]
  congr 1
  rw [Nat.mul_add, Nat.mul_assoc]
  omega
theorem odd2_pos {v t : Nat} (h : Odd2 v t) : v ≠ 0 := by
  obtain ⟨m, rfl⟩ := h
  have := Nat.two_pow_pos t
  intro e
  rcases Nat.mul_eq_zero.1 e with q | q <;> omega
theorem odd2_bit {v t : Nat} (h : Odd2 v t) : v.testBit t = true ∧ ∀ j, j < t → v.testBit j = false := by
  obtain ⟨m, rfl⟩ := h
  constructor
  · rw [Nat.testBit_two_pow_mul]; simp [Nat.testBit_zero]
  · intro j hj
    rw [Nat.testBit_two_pow_mul]; simp; omega
end Go.Proofs.YtdhmbalkclbhpaaGreatDoor

/- Len2 -/
namespace Go.Proofs.YtdhmbalkclbhpaaGreatDoor
open Go.RowKit

theorem lib_bitLen : ∀ (f v : Nat), v < 2 ^ f → Lib.bitLenAux f v = bitLen v
  | 0, v, h => by simp at h; subst h; rfl
  | f + 1, v, h => by
    unfold Lib.bitLenAux
    split
    · rename_i h0; subst h0; rfl
    · rename_i h0
      rw [lib_bitLen f (v / 2) (by rw [Nat.pow_succ] at h; omega)]
      by_cases h1 : v / 2 = 0
      · have : v = 1 := by omega
        subst this; rfl
      · rw [bitLen_shift v 1 (by simpa using h1)]

def lays129_ren : Go.Shelf.Ren := ⟨fun | 129 => 40 | n => n, fun | 53 => 37 | 3 => 3 | 4 => 4 | 46 => 90 | 5 => 5 | 9 => 9 | n => n, fun | n => n⟩
theorem lays129 : Go.Proofs.Lays.n129 Tryz.prog lays129_ren := {
  mixed := by kernel_rfl
  f129 := Tryz.func40.trans (congrArg some (by kernel_rfl))
  t3 := Tryz.underlying3
  a3 := Tryz.isAgg3
  z3 := Tryz.sizeOf3
  v3 := Tryz.zeroValue3
  t4 := Tryz.underlying4
  a4 := Tryz.isAgg4
  z4 := Tryz.sizeOf4
  v4 := Tryz.zeroValue4
  t5 := Tryz.underlying5
  a5 := Tryz.isAgg5
  z5 := Tryz.sizeOf5
  v5 := Tryz.zeroValue5
  t9 := Tryz.underlying9
  a9 := Tryz.isAgg9
  z9 := Tryz.sizeOf9
  v9 := Tryz.zeroValue9
  t46 := Tryz.underlying90
  a46 := Tryz.isAgg90
  z46 := Tryz.sizeOf90
  v46 := Tryz.zeroValue90
  t53 := Tryz.underlying37
  a53 := Tryz.isAgg37
  z53 := Tryz.sizeOf37
  v53 := Tryz.zeroValue37 }
theorem len64_any {x : Int} (hx : IsW x) (w : World) : Calls Tryz.prog 40 #[.int .u64 x] w fun e w' => e = .returned (.int .i64 (bitLen x.toNat : Int)) ∧ w' = w := by
  have h := toNat_lt hx
  have hb : x ≤ 18446744073709551615 := by unfold IsW wB at hx; omega
  have := Any.bits_Len64 lays129 x w hx.1 hb
  rw [show Lib.bitLen x.toNat = bitLen x.toNat from lib_bitLen 64 _ h] at this
  exact this

theorem bitLen_small {x : Nat} (h : x < 2 ^ 64) : bitLen x ≤ 64 := by
  unfold bitLen
  split
  · omega
  · rename_i h0
    have := (Nat.log2_lt h0).2 h
    omega

set_option maxHeartbeats 800000 in
theorem bitLen_any {B : Nat} {w : World} {v : Value} {xs : List Int} (h : Sl B w v xs) :
    Calls Tryz.prog 23 #[v] w fun e w' => e = .returned (.int .i64 (bitLen (vn xs) : Int)) ∧ w' = w := by
  have hs := h
  obtain ⟨hw, a, cap, rfl, hlc, hcm, hm⟩ := h
  have HW := width_any hs
  have l1 := wid_le xs
  by_cases h0 : wid xs = 0
  · rw [wid_zero_vn hw h0]
    rw [h0] at HW
    have hz : ((0 : Int) == 0) = true := rfl
    go_enter Tryz.func23, Tryz.ntmps23
    go_wp2_with fail
    refine HW.mono ?_
    rintro e w1 ⟨rfl, rfl⟩
    clear HW
    go_wp2
    go_ret
    exact ⟨rfl, rfl⟩
  · obtain ⟨n, hn⟩ : ∃ n, wid xs = n + 1 := ⟨wid xs - 1, by omega⟩
    obtain ⟨hl, hne⟩ := wid_top hn
    rcases hm with e | ⟨b, off, rfl, hb, hc⟩
    · subst e; simp at hl
    have c1 := hc n hl
    have hx := hw.get hl
    have HB : Hid (bitLen (vn xs) = 64 * n + bitLen xs[n].toNat) := bitLen_words hw hn hl
    have hbs := bitLen_small (toNat_lt hx)
    have HLn := hid (len64_any hx w)
    rw [hn] at HW l1
    generalize xs[n] = x at *
    generalize bitLen x.toNat = bx at *
    generalize bitLen (vn xs) = r at *
    have hz : (((n + 1 : Nat) : Int) == 0) = false := by rw [beq_eq_false_iff_ne]; omega
    clear hc hw h0 hn hne hs
    go_enter Tryz.func23, Tryz.ntmps23
    go_wp2_with fail
    refine HW.mono ?_
    rintro e w1 ⟨rfl, rfl⟩
    clear HW
    go_wp2_with fail
    refine HLn.out.mono ?_
    rintro e w2 ⟨rfl, rfl⟩
    go_wp2
    go_ret
    refine ⟨congrArg Ending.returned (congrArg (Value.int IntKind.i64) ?_), rfl⟩
    rw [HB.out]
    omega
end Go.Proofs.YtdhmbalkclbhpaaGreatDoor

/- BitAt -/
namespace Go.Proofs.YtdhmbalkclbhpaaGreatDoor
open Go.RowKit

/-- What Bit answers. -/
def bitAt (v : Nat) (i : Int) : Int := if i < 0 then 0 else ((v / 2 ^ i.toNat % 2 : Nat) : Int)
theorem and_one {x : Int} (hx : IsW x) (k : Nat) : wrap64 (bits BinOp.and IntKind.u64 (x / 2 ^ k) 1) = ((x.toNat / 2 ^ k % 2 : Nat) : Int) := by
  have hl := toNat_lt hx
  obtain ⟨n, rfl⟩ := Int.eq_ofNat_of_zero_le hx.1
  simp only [Int.toNat_natCast] at hl ⊢
  have e : (n : Int) / 2 ^ k = ((n / 2 ^ k : Nat) : Int) := by simp
  have hd : n / 2 ^ k ≤ n := Nat.div_le_self _ _
  rw [e, show (1 : Int) = ((1 : Nat) : Int) from rfl, bits_and_u64_nat _ 1 (by omega) (by omega), Nat.and_one_is_mod]
  unfold wrap64
  omega
theorem bit_word {xs : List Int} (hw : WF xs) {n : Nat} (h : n / 64 < xs.length) : vn xs / 2 ^ n % 2 = xs[n / 64].toNat / 2 ^ (n % 64) % 2 := by
  rw [bit_val, bit_val, vn_bit hw]
  simp [h]
theorem bit_beyond {xs : List Int} (hw : WF xs) {n : Nat} (h : xs.length ≤ n / 64) : vn xs / 2 ^ n % 2 = 0 := by
  rw [bit_val, vn_bit hw]
  simp [h]

set_option maxHeartbeats 800000 in
theorem bit_any {B : Nat} {w : World} {v : Value} {xs : List Int} (h : Sl B w v xs) {i : Int} (hi0 : -9223372036854775808 ≤ i) (hi1 : i ≤ 9223372036854775807) :
    Calls Tryz.prog 96 #[v, .int .i64 i] w fun e w' => e = .returned (.int .i64 (bitAt (vn xs) i)) ∧ w' = w := by
  obtain ⟨hw, a, cap, rfl, hlc, hcm, hm⟩ := h
  by_cases hn : i < 0
  · have HV : Hid (bitAt (vn xs) i = 0) := by unfold Hid bitAt; rw [if_pos hn]
    generalize bitAt (vn xs) i = V at *
    go_enter Tryz.func96, Tryz.ntmps96
    go_wp2
    go_ret
    exact ⟨by rw [HV.out]; rfl, rfl⟩
  · obtain ⟨n, rfl⟩ := Int.eq_ofNat_of_zero_le (show 0 ≤ i by omega)
    have hv : bitAt (vn xs) (n : Int) = ((vn xs / 2 ^ n % 2 : Nat) : Int) := by unfold bitAt; rw [if_neg hn]; simp
    by_cases hl : n / 64 < xs.length
    · rw [bit_word hw hl] at hv
      have HV := hid hv
      generalize bitAt (vn xs) (n : Int) = V at *
      rcases hm with e | ⟨b, off, rfl, hb, hc⟩
      · subst e; simp at hl
      have c1 := hc (n / 64) hl
      have hx := hw.get hl
      have HA := hid (and_one hx (n % 64))
      unfold IsW wB at hx
      generalize xs[n / 64] = x at *
      clear hv hc hw
      go_enter Tryz.func96, Tryz.ntmps96
      go_wp2
      go_ret
      refine ⟨congrArg Ending.returned (congrArg (Value.int IntKind.i64) ?_), rfl⟩
      rw [HV.out]
      exact HA.out
    · rw [bit_beyond hw (by omega)] at hv
      have HV := hid hv
      generalize bitAt (vn xs) (n : Int) = V at *
      clear hv hw
      go_enter Tryz.func96, Tryz.ntmps96
      go_wp2
      go_ret
      exact ⟨by rw [HV.out]; rfl, rfl⟩
end Go.Proofs.YtdhmbalkclbhpaaGreatDoor

/- Twos -/
namespace Go.Proofs.YtdhmbalkclbhpaaGreatDoor
open Go.RowKit

/-- The table lies where the program has it. -/
def Tab (w : World) : Prop := TabAt 3 Lib.deBruijn64tab w
theorem Tab.below {w w' : World} {B : Nat} (h : Tab w) (hb : Below B w w') (hB : 3 < B) : Tab w' := fun j hj => (hb.cell (p := ⟨3, j, none⟩) hB).trans (h j hj)
theorem Tab.drewN {w : World} (h : Tab w) (n : Nat) : Tab (w.drewN n) := fun j hj => h j hj
theorem Tab.pos {w : World} (h : Tab w) : 3 < w.heap.size := World.block_lt_of_cell? w _ (h 0 (by decide))
theorem Tab.now {w w' : World} (h : Tab w) (hb : Below w.heap.size w w') : Tab w' := h.below hb h.pos

set_option maxHeartbeats 400000 in
theorem tz64_core (x k idx : Nat) (w : World) (hx0 : ((x : Int) == 0) = false)
    (key : IntKind.u64.wrap (bits BinOp.and IntKind.u64 (x : Int) (IntKind.u64.wrap (-(x : Int))) * 285870213051353865) / 288230376151711744 = (idx : Int))
    (hi : idx < 64) (hk : k < 64) (hcell : w.cell? ⟨3, idx, none⟩ = some (.int .u8 k)) :
    Calls Tryz.prog 115 #[.int .u64 x] w fun e w' => e = .returned (.int .i64 k) ∧ w' = w := by
  go_enter Tryz.func115, Tryz.ntmps115
  go_wp2_with (simp only [key])
  go_ret
  exact ⟨rfl, rfl⟩

theorem tz64_any {x : Int} (hx : IsW x) (hx0 : x ≠ 0) {w : World} (hT : Tab w) :
    ∃ t : Nat, t < 64 ∧ Odd2 x.toNat t ∧ Calls Tryz.prog 115 #[.int .u64 x] w fun e w' => e = .returned (.int .i64 (t : Int)) ∧ w' = w := by
  have hl := toNat_lt hx
  obtain ⟨n, rfl⟩ := Int.eq_ofNat_of_zero_le hx.1
  simp only [Int.toNat_natCast] at hl ⊢
  have hn0 : n ≠ 0 := by omega
  obtain ⟨hlow, hk⟩ := Lib.lowest_bit 64 n hn0 hl
  obtain ⟨hi, htab⟩ := Lib.deBruijn64_at _ hk
  have hcell := hT _ hi
  rw [htab] at hcell
  have hlow' : n &&& (18446744073709551616 - n) = 2 ^ Lib.ctz 64 n := hlow
  refine ⟨Lib.ctz 64 n, hk, ?_, tz64_core n _ _ w (by simp; omega) (tz64_key n _ hl hn0 hlow') hi hk hcell⟩
  obtain ⟨m, hm, _⟩ := Lib.ctzFrom_spec 64 n (by omega) hl
  refine ⟨m, ?_⟩
  have e : Lib.ctz 64 n = Lib.ctzFrom 64 n := by unfold Lib.ctz; rw [if_neg hn0]
  rw [e]; exact hm

/-- What Twos answers. -/
def IsTwos (v : Nat) (r : Int) : Prop := (v = 0 ∧ r = -1) ∨ ∃ t : Nat, r = (t : Int) ∧ Odd2 v t
set_option maxHeartbeats 800000 in
theorem twos_any {B : Nat} {w : World} {v : Value} {xs : List Int} (h : Sl B w v xs) (hT : Tab w) :
    Calls Tryz.prog 97 #[v] w fun e w' => ∃ r, e = .returned (.int .i64 r) ∧ IsTwos (vn xs) r ∧ w' = w := by
  obtain ⟨hw, a, cap, rfl, hlc, hcm, hm⟩ := h
  have HO : Hid (∀ i t, (∀ j (h : j < xs.length), j < i → xs[j] = 0) → ∀ hi : i < xs.length, t < 64 → Odd2 xs[i].toNat t → Odd2 (vn xs) (64 * i + t)) := fun i t h1 h2 h3 h4 => odd2_words h1 h2 h3 h4
  have HZ : Hid ((∀ j (h : j < xs.length), xs[j] = 0) → vn xs = 0) := fun h => vn_zeros (fun x hx => by obtain ⟨j, hj, rfl⟩ := List.getElem_of_mem hx; exact h j hj)
  have HT := hid hT
  generalize vn xs = V at *
  clear hT
  go_enter Tryz.func97, Tryz.ntmps97
  go_wp2
  go_loop [6] (fun i => ∃ k : Nat, k ≤ xs.length ∧ i = .int .i64 k ∧ ∀ j (h : j < xs.length), j < k → xs[j] = 0) (fun i => xs.length - (intOf i).toNat)
  case atStart => exact ⟨0, Nat.zero_le _, rfl, fun j h h' => by omega⟩
  case round =>
    obtain ⟨k, hk, rfl, hz⟩ := hrel
    have HR := hid hz
    clear hz
    by_cases hlt : k < xs.length
    · rcases hm with e | ⟨b, off, rfl, hb, hc⟩
      · subst e; simp at hlt
      have c1 := hc k hlt
      have hx := hw.get hlt
      by_cases hx0 : xs[k] = 0
      · have HX := hid hx0
        rw [hx0] at c1
        have ht : ((0 : Int) != 0) = false := rfl
        clear hx0 hc hx
        go_wp2
        go_round
        case rel =>
          refine ⟨k + 1, by omega, by go_num, fun j h hj => ?_⟩
          by_cases e : j = k
          · subst e; exact HX.out
          · exact HR.out j h (by omega)
        case measure => simp [intOf]; omega
      · obtain ⟨t, ht64, hodd, hcall⟩ := tz64_any hx hx0 HT.out
        have HF := hid (HO.out k t HR.out hlt ht64 hodd)
        have HC := hid hcall
        have hne : (xs[k] != 0) = true := by rw [bne_iff_ne]; exact hx0
        generalize xs[k] = x at *
        clear hcall hodd hx0 hc hx
        go_wp2_with fail
        refine HC.out.mono ?_
        rintro e w1 ⟨rfl, rfl⟩
        go_wp2
        go_ret
        refine ⟨64 * (k : Int) + (t : Int), congrArg Ending.returned (congrArg (Value.int IntKind.i64) ?_), .inr ⟨64 * k + t, by omega, HF.out⟩, rfl⟩
        omega
    · go_wp2
      go_ret
      exact ⟨-1, rfl, .inl ⟨HZ.out (fun j h => HR.out j h (by omega)), rfl⟩, rfl⟩

end Go.Proofs.YtdhmbalkclbhpaaGreatDoor
