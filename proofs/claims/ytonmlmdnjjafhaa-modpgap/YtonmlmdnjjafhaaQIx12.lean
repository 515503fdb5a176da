/-
  Ix12: the first line whose entry is not 0.
-/
import Derived.Test.YtonmlmdnjjafhaaQSo12
namespace Go.Proofs.Ytonmlmdnjjafhaa
open Go.RowKit
set_option linter.unusedVariables false

abbrev fnNz (cb : Nat) : Value := .func (.func 18) #[] #[.pointer (some ⟨cb, 0, none⟩)]
set_option maxHeartbeats 800000 in
set_option maxRecDepth 100000 in
theorem nz12 {w : World} {cb g n c : Nat} {xs : List Int} {r : List Value} (hb : w.cell? ⟨cb, 0, none⟩ = some (.int .i64 (c : Int))) (hr : Row w g (ws xs ++ r)) (hl : xs.length = n) (hc : c < n) :
    Calls Try.prog 18 #[.slice (some ⟨g, 0, none⟩) n n, .pointer (some ⟨cb, 0, none⟩)] w fun e w' => e = .returned (.bool (xs.getD c 0 != 0)) ∧ w' = w := by
  have k1 := hr.at12 (i := c) (by omega)
  have e1 : xs.getD c 0 = xs[c] := by simp [show c < xs.length by omega]
  rw [e1]
  generalize xs[c] = x at *
  have hc' : (c : Int) < (n : Int) := by omega
  clear e1 hr hl
  go_enter Try.func18, Try.ntmps18
  go_wp2
  go_ret
  exact ⟨rfl, rfl⟩
/-- What IndexFunc answers. -/
def FirstNz (c l : Nat) (ls : List (List Int)) (r : Int) : Prop := (r = -1 ∧ ∀ x ∈ ls, x.getD c 0 = 0) ∨ ∃ k : Nat, r = (k : Int) ∧ k < l ∧ (∀ j, j < k → (rowE ls j).getD c 0 = 0) ∧ (rowE ls k).getD c 0 ≠ 0
set_option maxHeartbeats 800000 in
set_option maxRecDepth 100000 in
theorem index12 {w : World} {cb n c l cap : Nat} {a : Option Addr} {ls : List (List Int)} (hb : w.cell? ⟨cb, 0, none⟩ = some (.int .i64 (c : Int))) (hc : c < n) (hl : ls.length = l) (hl2 : l ≤ 1048576) (hlc : l ≤ cap)
    (ha : 0 < l → ∃ L off, a = some ⟨L, off, none⟩ ∧ ∀ j, j < l → ∃ g, w.cell? ⟨L, off + j, none⟩ = some (rowv n g) ∧ Row w g (ws (rowE ls j)) ∧ (rowE ls j).length = n) :
    Calls Try.prog 17 #[.slice a l cap, fnNz cb] w fun e w' => (∃ r, e = .returned (.int .i64 r) ∧ FirstNz c l ls r) ∧ w' = w := by
  have HA := hid ha
  have HB := hid hb
  have HL := hid hl
  clear ha hb hl
  go_enter Try.func17, Try.ntmps17
  go_wp2_with fail
  go_loop [8] (fun s => ∃ i : Nat, s = .int .i64 (i : Int) ∧ i ≤ l ∧ ∀ j, j < i → (rowE ls j).getD c 0 = 0) (fun s => l - (intOf s).toNat)
  case atStart => exact ⟨0, rfl, Nat.zero_le _, fun j hj => by omega⟩
  case round =>
    obtain ⟨i, rfl, hi, hz⟩ := hrel
    have HZ := hid hz
    clear hz
    by_cases hlt : i < l
    · have hlt' : (i : Int) < (l : Int) := by omega
      obtain ⟨L, off, rfl, hel⟩ := HA.out (by omega)
      obtain ⟨g, k0, hrow, hln⟩ := hel i hlt
      have HS := hid (nz12 (r := []) HB.out (Row.nil12.2 hrow) hln hc)
      have hw := wrapJ hlt hl2
      clear hel hrow hln
      by_cases h0 : (rowE ls i).getD c 0 = 0
      · have e0 : ((rowE ls i).getD c 0 != 0) = false := by simp only [h0]; rfl
        rw [e0] at HS
        have HN : Hid (∀ j, j < i + 1 → (rowE ls j).getD c 0 = 0) := fun j hj => by
          by_cases q : j < i
          · exact HZ.out j q
          · obtain rfl : j = i := by omega
            exact h0
        clear e0 h0
        go_wp2_with fail
        refine HS.out.mono ?_
        rintro e w1 ⟨rfl, rfl⟩
        go_wp2_with fail
        go_round
        case rel => exact ⟨i + 1, rfl, by omega, HN.out⟩
        case measure => simp [intOf]; omega
      · have e0 : ((rowE ls i).getD c 0 != 0) = true := by simpa using h0
        rw [e0] at HS
        have HN : Hid (FirstNz c l ls (i : Int)) := .inr ⟨i, rfl, hlt, HZ.out, h0⟩
        clear e0 h0
        go_wp2_with fail
        refine HS.out.mono ?_
        rintro e w1 ⟨rfl, rfl⟩
        go_wp2
        go_ret
        exact ⟨⟨_, rfl, HN.out⟩, rfl⟩
    · have hlt' : ¬ (i : Int) < (l : Int) := by omega
      have HN : Hid (FirstNz c l ls (-1)) := .inl ⟨rfl, fun x hx => by
        obtain ⟨j, hj, e⟩ := List.mem_iff_getElem.1 hx
        have := HZ.out j (by have := HL.out; omega)
        rw [rowE_at hj, e] at this
        exact this⟩
      go_wp2
      go_ret
      exact ⟨⟨_, rfl, HN.out⟩, rfl⟩
/-- Behind the first lines. -/
theorem slice_top (w : World) (L n cap lo : Nat) (h : lo ≤ n) (h1 : n ≤ cap) : ∃ a2 cap2, (Instr.slice 44 (.slice (some ⟨L, 0, none⟩) n cap) (some (.int .i64 (lo : Int))) none none).run Try.prog w = .ok (.slice a2 (n - lo) cap2) w ∧ n - lo ≤ cap2 ∧ (0 < n - lo → a2 = some ⟨L, lo, none⟩) := by
  have i1 : (0 : Int) ≤ (lo : Int) := by omega
  have i2 : (lo : Int) ≤ (n : Int) := by omega
  have i3 : (n : Int) ≤ (cap : Int) := by omega
  by_cases q : cap = lo
  · obtain rfl : n = lo := by omega
    subst q
    refine ⟨some ⟨L, 0, none⟩, 0, ?_, by omega, fun z => by omega⟩
    go_simp
  · refine ⟨some ⟨L, lo, none⟩, cap - lo, ?_, by omega, fun _ => rfl⟩
    go_simp
end Go.Proofs.Ytonmlmdnjjafhaa
