/-
  QDigitsToOpenIT: Digits, OpenIT, joined.
-/
import Derived.Test.YtdeamihpgdblkaaDoorQLen2ToAwake
import Derived.Test.YtdeamihpgdblkaaDoorQSubToNow
import Derived.Test.YtdeamihpgdblkaaDoorQOpenToInts

/- Digits -/
namespace Go.Proofs.YtdeamihpgdblkaaDoor
open Go.RowKit

def HiAt (v T : Nat) (h : Int) : Prop := (h = -1 ∧ ∀ t, t < T → v.testBit t = false) ∨ ∃ n : Nat, h = (n : Int) ∧ n < T ∧ v.testBit n = true ∧ ∀ t, n < t → t < T → v.testBit t = false
def LoAt (v T : Nat) (l : Int) : Prop := (l = -1 ∧ ∀ t, t < T → v.testBit t = false) ∨ ∃ n : Nat, l = (n : Int) ∧ n < T ∧ v.testBit n = true ∧ ∀ t, t < n → v.testBit t = false
theorem HiAt.start (v : Nat) : HiAt v 0 (-1) := .inl ⟨rfl, fun t h => by omega⟩
theorem LoAt.start (v : Nat) : LoAt v 0 (-1) := .inl ⟨rfl, fun t h => by omega⟩
theorem HiAt.no {v T : Nat} {h : Int} (k : HiAt v T h) (hb : v.testBit T = false) : HiAt v (T + 1) h := by
  rcases k with ⟨h1, h2⟩ | ⟨n, h1, h2, h3, h4⟩
  · exact .inl ⟨h1, fun t ht => (Nat.lt_or_eq_of_le (Nat.le_of_lt_succ ht)).elim (h2 t) (fun e => by rw [e]; exact hb)⟩
  · exact .inr ⟨n, h1, by omega, h3, fun t ht ht' => (Nat.lt_or_eq_of_le (Nat.le_of_lt_succ ht')).elim (h4 t ht) (fun e => by rw [e]; exact hb)⟩
theorem HiAt.yes {v T : Nat} (hb : v.testBit T = true) : HiAt v (T + 1) (T : Int) := .inr ⟨T, rfl, by omega, hb, fun t h h' => by omega⟩
theorem LoAt.no {v T : Nat} {l : Int} (k : LoAt v T l) (hb : v.testBit T = false) : LoAt v (T + 1) l := by
  rcases k with ⟨h1, h2⟩ | ⟨n, h1, h2, h3, h4⟩
  · exact .inl ⟨h1, fun t ht => (Nat.lt_or_eq_of_le (Nat.le_of_lt_succ ht)).elim (h2 t) (fun e => by rw [e]; exact hb)⟩
  · exact .inr ⟨n, h1, by omega, h3, h4⟩
theorem LoAt.first {v T : Nat} {l : Int} (k : LoAt v T l) (hl : l < 0) (hb : v.testBit T = true) : LoAt v (T + 1) (T : Int) := by
  rcases k with ⟨h1, h2⟩ | ⟨n, h1, h2, h3, h4⟩
  · exact .inr ⟨T, rfl, by omega, hb, h2⟩
  · omega
theorem LoAt.later {v T : Nat} {l : Int} (k : LoAt v T l) (hl : ¬ l < 0) : LoAt v (T + 1) l := by
  rcases k with ⟨h1, h2⟩ | ⟨n, h1, h2, h3, h4⟩
  · omega
  · exact .inr ⟨n, h1, by omega, h3, h4⟩
theorem LoAt.bounds {v T : Nat} {l : Int} (k : LoAt v T l) : -1 ≤ l ∧ l < T := by
  rcases k with ⟨h1, _⟩ | ⟨n, h1, h2, _⟩ <;> omega
theorem HiAt.bounds {v T : Nat} {l : Int} (k : HiAt v T l) : -1 ≤ l ∧ l < T := by
  rcases k with ⟨h1, _⟩ | ⟨n, h1, h2, _⟩ <;> omega
theorem bit_past {v T t : Nat} (h : v < 2 ^ T) (ht : T ≤ t) : v.testBit t = false :=
  Nat.testBit_lt_two_pow (Nat.lt_of_lt_of_le h (Nat.pow_le_pow_right (by omega) ht))
theorem no_bits {v T : Nat} (h : v < 2 ^ T) (hz : ∀ t, t < T → v.testBit t = false) : v = 0 := by
  refine Nat.eq_of_testBit_eq (fun t => ?_)
  rw [Nat.zero_testBit]
  by_cases q : t < T
  · exact hz t q
  · exact bit_past h (by omega)
theorem hi_end {v T : Nat} {h : Int} (k : HiAt v T h) (hv : v < 2 ^ T) : (bitLen v : Int) = h + 1 := by
  rcases k with ⟨h1, h2⟩ | ⟨n, h1, h2, h3, h4⟩
  · rw [no_bits hv h2, h1]; rfl
  · have hge : 2 ^ n ≤ v := Nat.ge_two_pow_of_testBit h3
    have hlt : v < 2 ^ (n + 1) := Nat.lt_pow_two_of_testBit v (fun t ht => by
      by_cases q : t < T
      · exact h4 t (by omega) q
      · exact bit_past hv (by omega))
    have hp := Nat.two_pow_pos n
    have h0 : v ≠ 0 := by omega
    have : v.log2 = n := (Nat.log2_eq_iff h0).2 ⟨hge, hlt⟩
    unfold bitLen
    rw [if_neg h0, this, h1]; omega
theorem lo_end {v T : Nat} {l r : Int} (k : LoAt v T l) (hv : v < 2 ^ T) (hr : IsTwos v r) : r = l := by
  rcases k with ⟨h1, h2⟩ | ⟨n, h1, h2, h3, h4⟩
  · rcases hr with ⟨_, h5⟩ | ⟨t, _, h6⟩
    · omega
    · exact absurd (no_bits hv h2) (odd2_pos h6)
  · rcases hr with ⟨h5, _⟩ | ⟨t, h5, h6⟩
    · rw [h5] at h3; simp at h3
    · obtain ⟨h7, h8⟩ := odd2_bit h6
      rcases Nat.lt_trichotomy n t with q | q | q
      · rw [h8 n q] at h3; cases h3
      · omega
      · rw [h4 t q] at h7; cases h7
theorem test_bit {x : Int} (hx : IsW x) {v i k : Nat} (hv : v.testBit (64 * i + k) = x.toNat.testBit k) : ((x / 2 ^ k).tmod 2 == 1) = v.testBit (64 * i + k) := by
  rw [hv, bit_of]
  obtain ⟨n, rfl⟩ := Int.eq_ofNat_of_zero_le hx.1
  have e : (n : Int) / 2 ^ k = ((n / 2 ^ k : Nat) : Int) := by simp
  rw [e, Int.toNat_natCast, Bool.eq_iff_iff, beq_iff_eq, decide_eq_true_iff]
  generalize n / 2 ^ k = q
  rw [Int.tmod_eq_emod_of_nonneg (by omega)]
  omega
theorem word_bit {xs : List Int} (hw : WF xs) {i k : Nat} (hi : i < xs.length) (hk : k < 64) : (vn xs).testBit (64 * i + k) = xs[i].toNat.testBit k := by
  rw [vn_bit hw, show (64 * i + k) / 64 = i by omega, show (64 * i + k) % 64 = k by omega]
  simp [hi]
theorem want_bit {xs : List Int} (hw : WF xs) {n : Nat} (h : n / 64 < xs.length) : bitAt (vn xs) (n : Int) = (xs[n / 64] / 2 ^ (n % 64)).tmod 2 := by
  have hx := hw.get h
  have hv : bitAt (vn xs) (n : Int) = ((vn xs / 2 ^ n % 2 : Nat) : Int) := by unfold bitAt; rw [if_neg (by omega)]; simp
  rw [hv, bit_word hw h]
  generalize xs[n / 64] = x at *
  obtain ⟨m, rfl⟩ := Int.eq_ofNat_of_zero_le hx.1
  have e : (m : Int) / 2 ^ (n % 64) = ((m / 2 ^ (n % 64) : Nat) : Int) := by simp
  rw [e, Int.toNat_natCast]
  generalize m / 2 ^ (n % 64) = q
  rw [Int.tmod_eq_emod_of_nonneg (by omega)]
  omega
theorem want_none {xs : List Int} (hw : WF xs) {i : Int} (h : i < 0 ∨ (xs.length : Int) ≤ i / 64) : bitAt (vn xs) i = 0 := by
  unfold bitAt
  split
  · rfl
  · rename_i h0
    obtain ⟨n, rfl⟩ := Int.eq_ofNat_of_zero_le (show 0 ≤ i by omega)
    rw [Int.toNat_natCast, bit_beyond hw (by omega)]; rfl
theorem tmod_two {q : Int} (h : 0 ≤ q) : 0 ≤ q.tmod 2 ∧ q.tmod 2 ≤ 1 := by
  rw [Int.tmod_eq_emod_of_nonneg h]; omega
theorem lit04 : vn [0, 4] = 2 ^ 66 := by decide +kernel
theorem odd04 : Odd2 (vn [0, 4]) 66 := ⟨0, by decide +kernel⟩
theorem twos04 {r : Int} (h : IsTwos (vn [0, 4]) r) : r = 66 := by
  rcases h with ⟨h1, _⟩ | ⟨t, h1, h2⟩
  · rw [lit04] at h1; exact absurd h1 (by decide +kernel)
  · have ha := odd2_bit h2
    have hb := odd2_bit odd04
    rcases Nat.lt_trichotomy t 66 with q | q | q
    · rw [hb.2 t q] at ha; cases ha.1
    · omega
    · rw [ha.2 66 q] at hb; cases hb.1

end Go.Proofs.YtdeamihpgdblkaaDoor

/- OpenIT -/
namespace Go.Proofs.YtdeamihpgdblkaaDoor
open Go.ChangeShapes Go.WideShapes Go.ChangeAt Go.RowKit

theorem open_smallI {H : Type} {enc : TypeId × Value → H} {W : World} {a : Option Addr} {len cap : Nat} {d : DataW H} {p : List MemPlace}
    (h0 : DataW.Trod enc Tryd.prog W 0 (fun _ => true) true 23 (.slice a len cap) d p) (hb : Rows.uptoBulk d ≤ 1048576) :
    ∃ xs, SlI W.heap.size W (.slice a len cap) xs ∧ xs.length ≤ 1048576 := by
  obtain ⟨fuel, hf⟩ := h0
  rcases open_ints Tryd.underlying23 Tryd.underlying3 Tryd.cellsI hf with ⟨hcs, _⟩ | ⟨x, l, c, zs, hcs, _, hl, hm, hz, hx, hcell, hwz⟩
  · simp [Value.cells] at hcs
    obtain ⟨rfl, rfl, rfl⟩ := hcs
    exact ⟨[], ⟨fun p h => (by cases h), none, 0, rfl, Nat.le_refl _, Nat.zero_le _, .inl rfl⟩, by simp⟩
  · simp [Value.cells] at hcs
    obtain ⟨rfl, rfl, rfl⟩ := hcs
    simp only [if_true] at hz
    have hd : d = .slice (lits .i64 (zs.take len)) (lits .i64 (zs.drop len)) := congrArg Prod.fst hx
    rw [hd] at hb
    simp only [Rows.uptoBulk] at hb
    have e1 := bulk_len (lits (H := H) .i64 (zs.take len))
    have e2 := bulk_len (lits (H := H) .i64 (zs.drop len))
    simp only [lits, List.length_map, List.length_take, List.length_drop] at e1 e2
    have hlen : (zs.take len).length = len := by simp; omega
    have hzl : zs.length ≤ 1048576 := by simp only [lits] at hb; omega
    refine ⟨zs.take len, ⟨fun y hy => int_bounds (hwz y (List.mem_of_mem_take hy)), some x, cap, by rw [hlen], by rw [hlen]; exact hl, by omega, ?_⟩, by omega⟩
    by_cases he : len = 0
    · exact .inl (by simp [he])
    · obtain ⟨b, off, spot⟩ := x
      have hc := hcell 0 (by omega)
      have hspot : spot = none := by simpa [Addr.add] using World.cell?_spot hc
      subst hspot
      refine .inr ⟨b, off, rfl, ?_, fun j hj => ?_⟩
      · have := World.block_lt_of_cell? W _ hc
        simpa [Addr.add] using this
      · rw [hlen] at hj
        have hcj := hcell j (by omega)
        have e : (⟨b, off, none⟩ : Addr).add j = ⟨b, off + j, none⟩ := by unfold Addr.add; split <;> simp_all
        rw [e] at hcj
        rw [hcj]
        simp [show j < zs.length by omega]
end Go.Proofs.YtdeamihpgdblkaaDoor
