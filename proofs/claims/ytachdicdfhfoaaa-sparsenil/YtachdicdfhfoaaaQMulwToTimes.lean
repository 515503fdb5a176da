/-
  QMulwToTimes: Mulw, Times, joined.
-/
import Derived.Test.YtachdicdfhfoaaaQKey10ToCarry
import Derived.Test.YtachdicdfhfoaaaQProd
import Derived.Shelf.Bits.Mul64

/- Mulw -/
namespace Go.Proofs.Ytachdicdfhfoaaa
open Go.RowKit
set_option linter.unusedVariables false

set_option maxHeartbeats 1000000 in
theorem mul64_nat (x y : Nat) (hx : x < 18446744073709551616) (hy : y < 18446744073709551616) (w : World) :
    Calls Try.prog 127 #[.int .u64 x, .int .u64 y] w fun e w' => e = .returned (.tuple #[.int .u64 ((x * y / 18446744073709551616 : Nat) : Int), .int .u64 ((x * y % 18446744073709551616 : Nat) : Int)]) ∧ w' = w := by
  obtain ⟨bd, bt, bw, hhi⟩ := Lib.mul64_hi x y hx hy
  have ba := Lib.half_mul_le (a := x / 4294967296) (b := y / 4294967296) (by omega) (by omega)
  have bb := Lib.half_mul_le (a := x / 4294967296) (b := y % 4294967296) (by omega) (by omega)
  have bc := Lib.half_mul_le (a := x % 4294967296) (b := y / 4294967296) (by omega) (by omega)
  have ba' : x / 4294967296 * (y / 4294967296) < 18446744073709551616 := by omega
  have bb' : x / 4294967296 * (y % 4294967296) < 18446744073709551616 := by omega
  have bc' : x % 4294967296 * (y / 4294967296) < 18446744073709551616 := by omega
  have bh1 : x / 4294967296 * (y / 4294967296) + (x / 4294967296 * (y % 4294967296) + x % 4294967296 * (y % 4294967296) / 4294967296) / 4294967296 < 18446744073709551616 := by omega
  have bh : x / 4294967296 * (y / 4294967296) + (x / 4294967296 * (y % 4294967296) + x % 4294967296 * (y % 4294967296) / 4294967296) / 4294967296 + ((x / 4294967296 * (y % 4294967296) + x % 4294967296 * (y % 4294967296) / 4294967296) % 4294967296 + x % 4294967296 * (y / 4294967296)) / 4294967296 < 18446744073709551616 := by omega
  go_enter Try.func127, Try.ntmps127
  go_wp2
  simp only [Mul64.maskN x hx, Mul64.maskN y hy, Mul64.divN, Mul64.mulN, Mul64.addN, Mul64.wrapN _ bd, Mul64.wrapN _ bb', Mul64.wrapN _ bt, Mul64.maskN _ bt, Mul64.wrapN _ bc', Mul64.wrapN _ bw, Mul64.wrapN _ ba', Mul64.wrapN _ bh1, Mul64.wrapN _ bh, Mul64.wrapM (x * y)]
  rw [hhi]
  go_ret2
  exact ⟨rfl, rfl⟩

theorem mul64_any {x y : Int} (hx : IsW x) (hy : IsW y) :
    ∃ hi lo, IsW hi ∧ IsW lo ∧ lo + wB * hi = x * y ∧
      ∀ w : World, Calls Try.prog 127 #[.int .u64 x, .int .u64 y] w fun e w' => e = .returned (.tuple #[.int .u64 hi, .int .u64 lo]) ∧ w' = w := by
  have hle := word_mul_le hx hy
  unfold IsW wB at hx hy
  obtain ⟨X, rfl⟩ := Int.eq_ofNat_of_zero_le hx.1
  obtain ⟨Y, rfl⟩ := Int.eq_ofNat_of_zero_le hy.1
  rw [← Int.natCast_mul] at hle
  refine ⟨((X * Y / 18446744073709551616 : Nat) : Int), ((X * Y % 18446744073709551616 : Nat) : Int), ?_, ?_, ?_, fun w => mul64_nat X Y (by omega) (by omega) w⟩
  · unfold IsW wB; omega
  · unfold IsW wB; omega
  · rw [← Int.natCast_mul]
    unfold wB; omega
end Go.Proofs.Ytachdicdfhfoaaa

/- Times -/
namespace Go.Proofs.Ytachdicdfhfoaaa
open Go.RowKit
set_option linter.unusedVariables false

theorem drop_set_lt {α : Type} (L : List α) {i n : Nat} (h : i < n) (x : α) : (L.set i x).drop n = L.drop n := by
  rw [List.drop_set, if_pos h]

set_option maxHeartbeats 1600000 in
theorem addTimes_any {g : Nat} {w : World} {u : Value} {zs0 xs : List Int} {r : List Value} {o len cap : Nat} {W : Int} (hz0 : WF zs0) (hrow : Row w g (ws zs0 ++ r)) (hlz : zs0.length ≤ 35184372088832) (hx : Sl g w u xs) (hW : IsW W) (hl : o + xs.length ≤ zs0.length) (hlen : xs.length ≤ len) :
    Calls Try.prog 124 #[.slice (some ⟨g, o, none⟩) len cap, u, .int .u64 W] w fun e w' =>
      ∃ zs c, e = .returned (.int .u64 c) ∧ zs.length = zs0.length ∧ WF zs ∧ IsW c ∧ val zs + pw (o + xs.length) * c = val zs0 + pw o * (val xs * W) ∧ zs.drop (o + xs.length) = zs0.drop (o + xs.length) ∧ Row w' g (ws zs ++ r) ∧ Below g w w' := by
  obtain ⟨hwx, a, capx, rfl, hlc, hcm, hm⟩ := hx
  have HV0 : Hid (val zs0 + pw (o + 0) * 0 = val zs0 + pw o * (val (xs.take 0) * W)) := by unfold Hid; simp [val]
  have HTL : Hid (xs.take xs.length = xs) := by unfold Hid; simp
  obtain ⟨m, hmz⟩ : ∃ m, m = zs0.length := ⟨_, rfl⟩
  obtain ⟨n, hnx⟩ : ∃ n, n = xs.length := ⟨_, rfl⟩
  rw [← hmz] at hl hlz
  rw [← hnx] at hl hlc HTL hlen
  rw [← hmz, ← hnx]
  have HM : Hid (m = zs0.length) := hmz
  have HN : Hid (n = xs.length) := hnx
  clear hmz hnx
  have hW' := hW
  unfold IsW wB at hW'
  go_enter Try.func124, Try.ntmps124
  go_wp2_with fail
  go_loopw [7, 15] (fun c i wr => ∃ (k : Nat) (zs : List Int) (cc : Int), k ≤ n ∧ i = .int .i64 k ∧ c = .int .u64 cc ∧ IsW cc ∧ Hid (zs.length = m) ∧ WF zs ∧ Hid (val zs + pw (o + k) * cc = val zs0 + pw o * (val (xs.take k) * W)) ∧ Hid (zs.drop (o + n) = zs0.drop (o + n)) ∧ Row wr g (ws zs ++ r) ∧ Below g w wr) (fun _ i _ => n - (intOf i).toNat)
  case atStart => exact ⟨0, zs0, 0, Nat.zero_le _, rfl, rfl, by unfold IsW wB; omega, HM.out.symm, hz0, HV0, rfl, hrow, Below.refl _ _⟩
  case round =>
    obtain ⟨k, zs, cc, hk, rfl, rfl, hc, HL, hwz, HV, HD, hr, hb⟩ := hrel
    by_cases hlt : k < n
    · have hk1 : o + k < zs.length := by have := HL.out; omega
      have hk2 : k < xs.length := by have := HN.out; omega
      rcases hm with e | ⟨b, off, rfl, hbg, hcy⟩
      · subst e; simp at hk2
      have c1 : wr.cell? ⟨g, o + k, none⟩ = some (.int .u64 zs[o + k]) := hr.word hk1
      have c2 : wr.cell? ⟨b, off + k, none⟩ = some (.int .u64 xs[k]) := (hb.cell (p := ⟨b, off + k, none⟩) hbg).trans (hcy k hk2)
      have cf : wr.frozen? ⟨g, o + k, none⟩ = false := hr.frozen (o + k)
      obtain ⟨hi, lo, hhi, hlo, hmm, hmul⟩ := mul64_any (hwx.get hk2) hW
      obtain ⟨l1, o1, hl1, ho10, ho11, hs1, hadd1⟩ := add64_run hlo (hwz.get hk1) (Int.le_refl 0) (by omega)
      obtain ⟨l2, o2, hl2, ho20, ho21, hs2, hadd2⟩ := add64_run hl1 hc (Int.le_refl 0) (by omega)
      obtain ⟨hb1, hb2, hsum⟩ := word_step (hwx.get hk2) hW (hwz.get hk1) hc hhi.1 hlo hmm hl1 ho10 hs1 hl2 ho20 hs2
      have HV' : Hid (val (zs.set (o + k) l2) + pw (o + (k + 1)) * (hi + o1 + o2) = val zs0 + pw o * (val (xs.take (k + 1)) * W)) := times_step hk1 rfl hk2 rfl HV.out hsum
      have HD' : Hid ((zs.set (o + k) l2).drop (o + n) = zs0.drop (o + n)) := by unfold Hid; rw [drop_set_lt _ (by omega)]; exact HD.out
      have hwz' : WF (zs.set (o + k) l2) := hwz.set (o + k) hl2
      have HR := hr.setWord hk1 l2
      have HB := hb.setCell (p := ⟨g, o + k, none⟩) (Nat.le_refl _) (.int .u64 l2)
      have hc' : IsW (hi + o1 + o2) := ⟨by have := hhi.1; omega, hb2⟩
      have hi0 := hhi.1
      unfold wB at hb1 hb2
      clear hsum hs1 hs2 hmm hl1 hl2 hlo hhi
      generalize zs[o + k] = x at *
      generalize xs[k] = y at *
      have HL' : Hid ((zs.set (o + k) l2).length = m) := by unfold Hid; rw [List.length_set]; exact HL.out
      generalize zs.set (o + k) l2 = zs' at *
      clear hcy hr hb hwz HV hrow HL HD hc
      go_wp2_with fail
      refine (hmul _).mono ?_
      rintro e w1 ⟨rfl, rfl⟩
      go_wp2
      go_roundw
      case rel => exact ⟨k + 1, zs', hi + o1 + o2, by omega, by go_num, rfl, hc', HL', hwz', HV', HD', HR, HB⟩
      case measure => simp [intOf]; omega
    · obtain rfl : k = n := by omega
      rw [HTL.out] at HV
      go_wp2
      go_ret
      exact ⟨zs, cc, rfl, HL.out, hwz, hc, HV.out, HD.out, hr, hb⟩
end Go.Proofs.Ytachdicdfhfoaaa
