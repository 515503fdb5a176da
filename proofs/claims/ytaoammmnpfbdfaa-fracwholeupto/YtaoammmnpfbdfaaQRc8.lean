/-
  Rc8: the calls in rational numbers.
-/
import Derived.Test.YtaoammmnpfbdfaaQLaw8
namespace Go.Proofs.Ytaoammmnpfbdfaa
open Go.RowKit
set_option linter.unusedVariables false

theorem den_ne (q : Rat) : (q.den : Int) ≠ 0 := by
  have := q.den_pos
  omega
theorem cross_q {q : Rat} {N D : Int} (hD : D ≠ 0) (e : q = Rat.divInt N D) : q.num * D = N * (q.den : Int) := by
  have h : Rat.divInt q.num (q.den : Int) = Rat.divInt N D := (Rat.num_divInt_den q).trans e
  exact (Rat.divInt_eq_divInt_iff (den_ne q) hD).1 h
theorem zi_zero (w : World) (k : Nat) : Zi w (.agg #[.bool false, .slice none 0 0]) 0 k := (zm_nil w.heap.size w k).zi
theorem nz_mul {a b : Int} (ha : a ≠ 0) (hb : b ≠ 0) : a * b ≠ 0 := Int.mul_ne_zero ha hb
theorem fofq {w : World} {vn vd : Value} {N D : Int} {k : Nat} (hn : Zi w vn N k) (hd : Zi w vd D k) (hk : k ≤ 68719476736) (hD : D ≠ 0) {a : Rat} (ea : a = Rat.divInt N D) :
    Calls Try.prog 9 #[vn, vd] w (GivesF w a k) := by
  rw [ea]
  exact fof_z hn hd hk hD
theorem fmulq {w : World} {a0 a1 a2 a3 b0 b1 b2 b3 : Value} {AN AD BN BD : Int} {k : Nat} (han : Zi w (.agg #[a0, a1]) AN k) (had : Zi w (.agg #[a2, a3]) AD k) (hbn : Zi w (.agg #[b0, b1]) BN k) (hbd : Zi w (.agg #[b2, b3]) BD k) {l : Nat} (hA : AD ≠ 0) (hB : BD ≠ 0) {a b c : Rat} (ea : a = Rat.divInt AN AD) (eb : b = Rat.divInt BN BD) (ec : c = a * b) (hk : k ≤ 17179869184) (hl : k + k ≤ l) :
    Calls Try.prog 12 #[.agg #[a0, a1, a2, a3], .agg #[b0, b1, b2, b3]] w (GivesF w c l) := by
  rw [ec, ← mul_as ea eb]
  exact (fmul_z han had hbn hbd hk (nz_mul hA hB)).mono fun e w' h => h.more hl
theorem faddq {w : World} {a0 a1 a2 a3 b0 b1 b2 b3 : Value} {AN AD BN BD : Int} {k : Nat} (han : Zi w (.agg #[a0, a1]) AN k) (had : Zi w (.agg #[a2, a3]) AD k) (hbn : Zi w (.agg #[b0, b1]) BN k) (hbd : Zi w (.agg #[b2, b3]) BD k) {l : Nat} (hA : AD ≠ 0) (hB : BD ≠ 0) {a b c : Rat} (ea : a = Rat.divInt AN AD) (eb : b = Rat.divInt BN BD) (ec : c = a + b) (hk : k ≤ 17179869184) (hl : k + k + 1 ≤ l) :
    Calls Try.prog 10 #[.agg #[a0, a1, a2, a3], .agg #[b0, b1, b2, b3]] w (GivesF w c l) := by
  rw [ec, ← add_as hA hB ea eb]
  exact (fadd_z han had hbn hbd hk (nz_mul hA hB)).mono fun e w' h => h.more hl
theorem fsubq {w : World} {a0 a1 a2 a3 b0 b1 b2 b3 : Value} {AN AD BN BD : Int} {k : Nat} (han : Zi w (.agg #[a0, a1]) AN k) (had : Zi w (.agg #[a2, a3]) AD k) (hbn : Zi w (.agg #[b0, b1]) BN k) (hbd : Zi w (.agg #[b2, b3]) BD k) {l : Nat} (hA : AD ≠ 0) (hB : BD ≠ 0) {a b c : Rat} (ea : a = Rat.divInt AN AD) (eb : b = Rat.divInt BN BD) (ec : c = a - b) (hk : k ≤ 17179869184) (hl : k + k + 1 ≤ l) :
    Calls Try.prog 11 #[.agg #[a0, a1, a2, a3], .agg #[b0, b1, b2, b3]] w (GivesF w c l) := by
  rw [ec, ← sub_as hA hB ea eb]
  exact (fsub_z han had hbn hbd hk (nz_mul hA hB)).mono fun e w' h => h.more hl
theorem fdivq {w : World} {a0 a1 a2 a3 b0 b1 b2 b3 : Value} {AN AD BN BD : Int} {k : Nat} (han : Zi w (.agg #[a0, a1]) AN k) (had : Zi w (.agg #[a2, a3]) AD k) (hbn : Zi w (.agg #[b0, b1]) BN k) (hbd : Zi w (.agg #[b2, b3]) BD k) {l : Nat} (hA : AD ≠ 0) (hB : BD ≠ 0) (hN : BN ≠ 0) {a b c : Rat} (ea : a = Rat.divInt AN AD) (eb : b = Rat.divInt BN BD) (ec : c = a / b) (hk : k ≤ 17179869184) (hl : k + k ≤ l) :
    Calls Try.prog 13 #[.agg #[a0, a1, a2, a3], .agg #[b0, b1, b2, b3]] w (GivesF w c l) := by
  rw [ec, ← div_as ea eb]
  exact (fdiv_z han had hbn hbd hk hB (nz_mul hA hN)).mono fun e w' h => h.more hl
theorem like8q {w : World} {B0 B1 B2 B3 : Nat} {a0 a1 a2 a3 b0 b1 b2 b3 : Value} {p q : Rat} {k l : Nat} (han : Zm B0 w (.agg #[a0, a1]) p.num k) (had : Zm B1 w (.agg #[a2, a3]) (p.den : Int) k) (hbn : Zm B2 w (.agg #[b0, b1]) q.num l) (hbd : Zm B3 w (.agg #[b2, b3]) (q.den : Int) l) (h : p = q) :
    Calls Try.prog 21 #[.agg #[a0, a1, a2, a3], .agg #[b0, b1, b2, b3]] w fun e w' => e = .returned (.bool true) ∧ Below w.heap.size w w' :=
  like8 han.zc had.zc hbn.zc hbd.zc (by rw [h]) (by rw [h])
end Go.Proofs.Ytaoammmnpfbdfaa
