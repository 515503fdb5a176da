/-
  QTwosToOpenTab7: Twos, OpenTab7, joined.
-/
import Derived.Test.YtbamffggnnacaaaDoorQBitsToLen2
import Derived.Shelf.Spec.TrailingZeros
import Derived.Test.YtbamffggnnacaaaDoorRows
import Derived.Test.YtbamffggnnacaaaDoorQBaseToInts
import Derived.Lib.LaidTab

/- Twos -/
namespace Go.Proofs.YtbamffggnnacaaaDoor
open Go.RowKit

/-- The table lies where the program has it. -/
def Tab (w : World) : Prop := TabAt 1 Lib.deBruijn64tab w
theorem Tab.below {w w' : World} {B : Nat} (h : Tab w) (hb : Below B w w') (hB : 1 < B) : Tab w' := fun j hj => (hb.cell (p := ⟨1, j, none⟩) hB).trans (h j hj)
theorem Tab.drewN {w : World} (h : Tab w) (n : Nat) : Tab (w.drewN n) := fun j hj => h j hj
theorem Tab.pos {w : World} (h : Tab w) : 1 < w.heap.size := World.block_lt_of_cell? w _ (h 0 (by decide))
theorem Tab.now {w w' : World} (h : Tab w) (hb : Below w.heap.size w w') : Tab w' := h.below hb h.pos

set_option maxHeartbeats 400000 in
theorem tz64_core (x k idx : Nat) (w : World) (hx0 : ((x : Int) == 0) = false)
    (key : IntKind.u64.wrap (bits BinOp.and IntKind.u64 (x : Int) (IntKind.u64.wrap (-(x : Int))) * 285870213051353865) / 288230376151711744 = (idx : Int))
    (hi : idx < 64) (hk : k < 64) (hcell : w.cell? ⟨1, idx, none⟩ = some (.int .u8 k)) :
    Calls Tryd.prog 58 #[.int .u64 x] w fun e w' => e = .returned (.int .i64 k) ∧ w' = w := by
  go_enter Tryd.func58, Tryd.ntmps58
  go_wp2_with (simp only [key])
  go_ret
  exact ⟨rfl, rfl⟩

theorem tz64_any {x : Int} (hx : IsW x) (hx0 : x ≠ 0) {w : World} (hT : Tab w) :
    ∃ t : Nat, t < 64 ∧ Odd2 x.toNat t ∧ Calls Tryd.prog 58 #[.int .u64 x] w fun e w' => e = .returned (.int .i64 (t : Int)) ∧ w' = w := by
  have hl := toNat_lt hx
  obtain ⟨n, rfl⟩ := Int.eq_ofNat_of_zero_le hx.1
  simp only [Int.toNat_natCast] at hl ⊢
  have hn0 : n ≠ 0 := by omega
  obtain ⟨hlow, hk⟩ := Lib.lowest_bit 64 n hn0 hl
  obtain ⟨hi, htab⟩ := Lib.deBruijn64_at _ hk
  have hcell := hT _ hi
  rw [htab] at hcell
  have hlow' : n &&& (18446744073709551616 - n) = 2 ^ Lib.ctz 64 n := hlow
  refine ⟨Lib.ctz 64 n, hk, ?_, tz64_core n _ _ w (by simp; omega) (tz64_key n _ hl hn0 hlow') hi hk hcell⟩
  obtain ⟨m, hm, _⟩ := Lib.ctzFrom_spec 64 n (by omega) hl
  refine ⟨m, ?_⟩
  have e : Lib.ctz 64 n = Lib.ctzFrom 64 n := by unfold Lib.ctz; rw [if_neg hn0]
  rw [e]; exact hm

/-- What Twos answers. -/
def IsTwos (v : Nat) (r : Int) : Prop := (v = 0 ∧ r = -1) ∨ ∃ t : Nat, r = (t : Int) ∧ Odd2 v t
set_option maxHeartbeats 800000 in
theorem twos_any {B : Nat} {w : World} {v : Value} {xs : List Int} (h : Sl B w v xs) (hT : Tab w) :
    Calls Tryd.prog 42 #[v] w fun e w' => ∃ r, e = .returned (.int .i64 r) ∧ IsTwos (vn xs) r ∧ w' = w := by
  obtain ⟨hw, a, cap, rfl, hlc, hcm, hm⟩ := h
  have HO : Hid (∀ i t, (∀ j (h : j < xs.length), j < i → xs[j] = 0) → ∀ hi : i < xs.length, t < 64 → Odd2 xs[i].toNat t → Odd2 (vn xs) (64 * i + t)) := fun i t h1 h2 h3 h4 => odd2_words h1 h2 h3 h4
  have HZ : Hid ((∀ j (h : j < xs.length), xs[j] = 0) → vn xs = 0) := fun h => vn_zeros (fun x hx => by obtain ⟨j, hj, rfl⟩ := List.getElem_of_mem hx; exact h j hj)
  have HT := hid hT
  generalize vn xs = V at *
  clear hT
  go_enter Tryd.func42, Tryd.ntmps42
  go_wp2
  go_loop [6] (fun i => ∃ k : Nat, k ≤ xs.length ∧ i = .int .i64 k ∧ ∀ j (h : j < xs.length), j < k → xs[j] = 0) (fun i => xs.length - (intOf i).toNat)
  case atStart => exact ⟨0, Nat.zero_le _, rfl, fun j h h' => by omega⟩
  case round =>
    obtain ⟨k, hk, rfl, hz⟩ := hrel
    have HR := hid hz
    clear hz
    by_cases hlt : k < xs.length
    · rcases hm with e | ⟨b, off, rfl, hb, hc⟩
      · subst e; simp at hlt
      have c1 := hc k hlt
      have hx := hw.get hlt
      by_cases hx0 : xs[k] = 0
      · have HX := hid hx0
        rw [hx0] at c1
        have ht : ((0 : Int) != 0) = false := rfl
        clear hx0 hc hx
        go_wp2
        go_round
        case rel =>
          refine ⟨k + 1, by omega, by go_num, fun j h hj => ?_⟩
          by_cases e : j = k
          · subst e; exact HX.out
          · exact HR.out j h (by omega)
        case measure => simp [intOf]; omega
      · obtain ⟨t, ht64, hodd, hcall⟩ := tz64_any hx hx0 HT.out
        have HF := hid (HO.out k t HR.out hlt ht64 hodd)
        have HC := hid hcall
        have hne : (xs[k] != 0) = true := by rw [bne_iff_ne]; exact hx0
        generalize xs[k] = x at *
        clear hcall hodd hx0 hc hx
        go_wp2_with fail
        refine HC.out.mono ?_
        rintro e w1 ⟨rfl, rfl⟩
        go_wp2
        go_ret
        refine ⟨64 * (k : Int) + (t : Int), congrArg Ending.returned (congrArg (Value.int IntKind.i64) ?_), .inr ⟨64 * k + t, by omega, HF.out⟩, rfl⟩
        omega
    · go_wp2
      go_ret
      exact ⟨-1, rfl, .inl ⟨HZ.out (fun j h => HR.out j h (by omega)), rfl⟩, rfl⟩

/-- What Bit answers. -/
def bitAt (v : Nat) (i : Int) : Int := if i < 0 then 0 else ((v / 2 ^ i.toNat % 2 : Nat) : Int)
theorem and_one {x : Int} (hx : IsW x) (k : Nat) : wrap64 (bits BinOp.and IntKind.u64 (x / 2 ^ k) 1) = ((x.toNat / 2 ^ k % 2 : Nat) : Int) := by
  have hl := toNat_lt hx
  obtain ⟨n, rfl⟩ := Int.eq_ofNat_of_zero_le hx.1
  simp only [Int.toNat_natCast] at hl ⊢
  have e : (n : Int) / 2 ^ k = ((n / 2 ^ k : Nat) : Int) := by simp
  have hd : n / 2 ^ k ≤ n := Nat.div_le_self _ _
  rw [e, show (1 : Int) = ((1 : Nat) : Int) from rfl, bits_and_u64_nat _ 1 (by omega) (by omega), Nat.and_one_is_mod]
  unfold wrap64
  omega
theorem bit_word {xs : List Int} (hw : WF xs) {n : Nat} (h : n / 64 < xs.length) : vn xs / 2 ^ n % 2 = xs[n / 64].toNat / 2 ^ (n % 64) % 2 := by
  rw [bit_val, bit_val, vn_bit hw]
  simp [h]
theorem bit_beyond {xs : List Int} (hw : WF xs) {n : Nat} (h : xs.length ≤ n / 64) : vn xs / 2 ^ n % 2 = 0 := by
  rw [bit_val, vn_bit hw]
  simp [h]

set_option maxHeartbeats 800000 in
theorem bit_any {B : Nat} {w : World} {v : Value} {xs : List Int} (h : Sl B w v xs) {i : Int} (hi0 : -9223372036854775808 ≤ i) (hi1 : i ≤ 9223372036854775807) :
    Calls Tryd.prog 83 #[v, .int .i64 i] w fun e w' => e = .returned (.int .i64 (bitAt (vn xs) i)) ∧ w' = w := by
  obtain ⟨hw, a, cap, rfl, hlc, hcm, hm⟩ := h
  by_cases hn : i < 0
  · have HV : Hid (bitAt (vn xs) i = 0) := by unfold Hid bitAt; rw [if_pos hn]
    generalize bitAt (vn xs) i = V at *
    go_enter Tryd.func83, Tryd.ntmps83
    go_wp2
    go_ret
    exact ⟨by rw [HV.out]; rfl, rfl⟩
  · obtain ⟨n, rfl⟩ := Int.eq_ofNat_of_zero_le (show 0 ≤ i by omega)
    have hv : bitAt (vn xs) (n : Int) = ((vn xs / 2 ^ n % 2 : Nat) : Int) := by unfold bitAt; rw [if_neg hn]; simp
    by_cases hl : n / 64 < xs.length
    · rw [bit_word hw hl] at hv
      have HV := hid hv
      generalize bitAt (vn xs) (n : Int) = V at *
      rcases hm with e | ⟨b, off, rfl, hb, hc⟩
      · subst e; simp at hl
      have c1 := hc (n / 64) hl
      have hx := hw.get hl
      have HA := hid (and_one hx (n % 64))
      unfold IsW wB at hx
      generalize xs[n / 64] = x at *
      clear hv hc hw
      go_enter Tryd.func83, Tryd.ntmps83
      go_wp2
      go_ret
      refine ⟨congrArg Ending.returned (congrArg (Value.int IntKind.i64) ?_), rfl⟩
      rw [HV.out]
      exact HA.out
    · rw [bit_beyond hw (by omega)] at hv
      have HV := hid hv
      generalize bitAt (vn xs) (n : Int) = V at *
      clear hv hw
      go_enter Tryd.func83, Tryd.ntmps83
      go_wp2
      go_ret
      exact ⟨by rw [HV.out]; rfl, rfl⟩
end Go.Proofs.YtbamffggnnacaaaDoor

/- OpenTab7 -/
namespace Go.Proofs.YtbamffggnnacaaaDoor
open Go.ChangeShapes Go.WideShapes Go.ChangeAt Go.RowKit
set_option linter.unusedVariables false

theorem gTab : Tryd.prog.globalNamed "math/bits.deBruijn64tab" = some 1 := by kernel_rfl
theorem gTabType : (Tryd.prog.globals[1]?).map (·.type) = some 93 := by kernel_rfl
theorem cellsT : Tryd.prog.cellsOf 93 = 64 := by kernel_rfl
theorem cells8 : Tryd.prog.cellsOf 5 = 1 := by kernel_rfl
abbrev tabZ : List Int := Lib.deBruijn64tab.map (fun n : Nat => (n : Int))
theorem tab_table {W : World} (h : laidMetH Tryd.prog [("math/bits.deBruijn64tab", Rows.laid_math_bits_deBruijn64tab)] W) : Lib.TabIs Tryd.prog W "math/bits.deBruijn64tab" .u8 tabZ :=
  Lib.tabIs_of_head (rest := []) gTab gTabType Tryd.underlying93 Tryd.underlying5 cells8 cellsT h
theorem tab_of {W : World} (h : laidMetH Tryd.prog [("math/bits.deBruijn64tab", Rows.laid_math_bits_deBruijn64tab)] W) : Tab W := fun j hj => by
  rw [(tab_table h).cell gTab j (by simpa [tabZ] using hj)]
  simp [tabZ, List.getD, hj]
/-- A world for the witness: the settled one, the table holding what its initialiser lays. -/
def laidWorld7 (P : Program) (os : Os) : World :=
  { World.holding P os ⟨#[], #[], []⟩ with heap := (World.holding P os ⟨#[], #[], []⟩).heap.modify 1 fun
      | .cells _ t frozen => .cells (Lib.deBruijn64tab.map fun n : Nat => Value.int .u8 (n : Int)).toArray t frozen
      | o => o }
end Go.Proofs.YtbamffggnnacaaaDoor
