/-
  QDigsToTouch: Digs, Touch, joined.
-/
import Derived.Test.YtdfnehngffajiabDoorQCmpToNow
import Derived.Test.YtdfnehngffajiabDoorQCarryToMade

/- Digs -/
namespace Go.Proofs.YtdfnehngffajiabDoor
open Go.RowKit
set_option linter.unusedVariables false

/-- m digits of n to the base B, the highest first. -/
def digF (B : Nat) : Nat → Nat → List Nat
  | 0, _ => []
  | m + 1, n => digF B m (n / B) ++ [n % B]
theorem digF_len (B : Nat) : ∀ m n, (digF B m n).length = m
  | 0, _ => rfl
  | m + 1, n => by simp [digF, digF_len B m]
theorem digF_lt {B : Nat} (hB : 0 < B) : ∀ (m n : Nat), ∀ d ∈ digF B m n, d < B
  | 0, _, d, h => by simp [digF] at h
  | m + 1, n, d, h => by
    rcases List.mem_append.1 h with h | h
    · exact digF_lt hB m _ d h
    · have e : d = n % B := by simpa using h
      rw [e]; exact Nat.mod_lt _ hB
theorem digF_split (B a : Nat) : ∀ (b n : Nat), digF B (a + b) n = digF B a (n / B ^ b) ++ digF B b (n % B ^ b)
  | 0, n => by simp [digF]
  | b + 1, n => by
    have e1 : n / B / B ^ b = n / B ^ (b + 1) := by rw [Nat.div_div_eq_div_mul, Nat.pow_succ, Nat.mul_comm]
    have e2 : n % B ^ (b + 1) / B = n / B % B ^ b := by rw [Nat.pow_succ, Nat.mul_comm, Nat.mod_mul_right_div_self]
    have e3 : n % B ^ (b + 1) % B = n % B := by rw [Nat.pow_succ, Nat.mul_comm]; exact Nat.mod_mul_right_mod n B _
    rw [← Nat.add_assoc, digF, digF, digF_split B a b, e1, e2, e3, List.append_assoc]
theorem digF_zero {B : Nat} : ∀ m, digF B m 0 = List.replicate m 0
  | 0 => rfl
  | m + 1 => by rw [digF, Nat.zero_div, Nat.zero_mod, digF_zero m, List.replicate_succ']
theorem digF_pad {B a b n : Nat} (h : n < B ^ b) : digF B (a + b) n = List.replicate a 0 ++ digF B b n := by
  rw [digF_split, Nat.div_eq_of_lt h, Nat.mod_eq_of_lt h, digF_zero]
/-- The number that a list of digits writes, the highest first. -/
def ofD (B : Nat) (ds : List Nat) : Nat := ds.foldl (fun a d => a * B + d) 0
theorem ofD_foldl (B : Nat) : ∀ (ds : List Nat) (a : Nat), ds.foldl (fun a d => a * B + d) a = a * B ^ ds.length + ofD B ds
  | [], a => by simp [ofD]
  | d :: t, a => by
    have h1 := ofD_foldl B t (a * B + d)
    have h2 := ofD_foldl B t (0 * B + d)
    unfold ofD at h1 h2 ⊢
    simp only [List.foldl_cons, List.length_cons] at h1 h2 ⊢
    rw [h1, h2, Nat.pow_succ]
    simp only [Nat.zero_mul, Nat.zero_add, Nat.add_mul]
    rw [Nat.mul_assoc a B, Nat.mul_comm B]
    omega
theorem ofD_append (B : Nat) (a b : List Nat) : ofD B (a ++ b) = ofD B a * B ^ b.length + ofD B b := by
  unfold ofD
  rw [List.foldl_append, ofD_foldl]
  rfl
theorem ofD_nil (B : Nat) : ofD B [] = 0 := rfl
theorem ofD_one (B d : Nat) : ofD B [d] = d := by simp [ofD]
theorem ofD_snoc (B : Nat) (a : List Nat) (d : Nat) : ofD B (a ++ [d]) = ofD B a * B + d := by rw [ofD_append, ofD_one]; simp
theorem ofD_cons (B d : Nat) (t : List Nat) : ofD B (d :: t) = d * B ^ t.length + ofD B t := by
  have := ofD_append B [d] t
  rw [ofD_one] at this
  simpa using this
theorem ofD_lt {B : Nat} (hB : 0 < B) : ∀ (ds : List Nat), (∀ d ∈ ds, d < B) → ofD B ds < B ^ ds.length
  | [], _ => by simp [ofD]
  | d :: t, h => by
    have h1 := ofD_lt hB t (fun x hx => h x (List.mem_cons_of_mem _ hx))
    have h2 := h d (List.mem_cons_self ..)
    rw [ofD_cons, List.length_cons, Nat.pow_succ]
    have h3 : (d + 1) * B ^ t.length ≤ B * B ^ t.length := Nat.mul_le_mul_right _ h2
    rw [Nat.add_mul, Nat.one_mul] at h3
    rw [Nat.mul_comm (B ^ t.length)]
    omega
theorem ofD_digF (B : Nat) : ∀ m n, ofD B (digF B m n) = n % B ^ m
  | 0, n => by simp [digF, ofD, Nat.mod_one]
  | m + 1, n => by
    rw [digF, ofD_snoc, ofD_digF B m, Nat.pow_succ, Nat.mul_comm (B ^ m), Nat.mod_mul, Nat.mul_comm]
    omega
/-- Zeros at the beginning left out. -/
def lead (ds : List Nat) : List Nat := ds.dropWhile (· == 0)
theorem lead_zeros (a : Nat) (ds : List Nat) : lead (List.replicate a 0 ++ ds) = lead ds := by
  induction a with
  | zero => rfl
  | succ a ih => rw [List.replicate_succ, List.cons_append]; unfold lead at ih ⊢; rw [List.dropWhile_cons]; simp
theorem leadD_any {B m k n : Nat} (hm : n < B ^ m) (hk : n < B ^ k) : lead (digF B m n) = lead (digF B k n) := by
  have h1 : digF B (k + m) n = List.replicate k 0 ++ digF B m n := digF_pad hm
  have h2 : digF B (m + k) n = List.replicate m 0 ++ digF B k n := digF_pad hk
  rw [Nat.add_comm] at h2
  rw [← lead_zeros k, ← h1, h2, lead_zeros]
theorem ofD_lead (B : Nat) : ∀ ds : List Nat, ofD B (lead ds) = ofD B ds
  | [] => rfl
  | d :: t => by
    unfold lead
    rw [List.dropWhile_cons]
    by_cases h : d = 0
    · subst h
      have := ofD_lead B t
      unfold lead at this
      simp only [beq_self_eq_true, if_true]
      rw [this, ofD_cons]
      simp
    · have e : (d == 0) = false := by simpa using h
      rw [e]
      rfl
theorem lead_head {ds : List Nat} {d : Nat} {t : List Nat} (h : lead ds = d :: t) : d ≠ 0 := by
  intro e
  have := List.head?_dropWhile_not (· == 0) ds
  unfold lead at h
  rw [h] at this
  simp [e] at this
/-- Digits without a zero ahead are those of their number. -/
theorem digF_ofD {B : Nat} (hB : 0 < B) : ∀ (k : Nat) (ds : List Nat), ds.length = k → (∀ d ∈ ds, d < B) → digF B k (ofD B ds) = ds
  | 0, ds, hl, _ => by rw [List.eq_nil_of_length_eq_zero hl]; rfl
  | k + 1, ds, hl, h => by
    rcases List.eq_nil_or_concat ds with e | ⟨t, d, e⟩
    · subst e; simp at hl
    · rw [List.concat_eq_append] at e
      subst e
      have hd := h d (by simp)
      have ht := digF_ofD hB k t (by simpa using hl) (fun x hx => h x (by simp [hx]))
      rw [digF, ofD_snoc]
      have e1 : (ofD B t * B + d) / B = ofD B t := by rw [Nat.mul_comm, Nat.mul_add_div hB, Nat.div_eq_of_lt hd, Nat.add_zero]
      have e2 : (ofD B t * B + d) % B = d := by rw [Nat.mul_comm, Nat.mul_add_mod, Nat.mod_eq_of_lt hd]
      rw [e1, e2, ht]
/-- The sign of a digit. -/
def sgn (d : Nat) : Int := if d < 10 then 48 + (d : Int) else 87 + (d : Int)
end Go.Proofs.YtdfnehngffajiabDoor

/- Touch -/
namespace Go.Proofs.YtdfnehngffajiabDoor
open Go.RowKit

/-- Only blocks of S have turned; new ones may be there. -/
structure Touch (S : Nat → Prop) (w w' : World) : Prop where
  os : w'.os = w.os
  tape : w'.tape = w.tape
  output : w'.output = w.output
  size : w.heap.size ≤ w'.heap.size
  block : ∀ k, k < w.heap.size → ¬ S k → w'.heap[k]? = w.heap[k]?
theorem Touch.refl (S : Nat → Prop) (w : World) : Touch S w w := ⟨rfl, rfl, rfl, Nat.le_refl _, fun _ _ _ => rfl⟩
theorem Touch.trans {S : Nat → Prop} {a b c : World} (h : Touch S a b) (k : Touch S b c) : Touch S a c :=
  ⟨k.os.trans h.os, k.tape.trans h.tape, k.output.trans h.output, Nat.le_trans h.size k.size, fun i hi hS => (k.block i (Nat.lt_of_lt_of_le hi h.size) hS).trans (h.block i hi hS)⟩
theorem Touch.ofBelow {S : Nat → Prop} {w w' : World} (h : Below w.heap.size w w') : Touch S w w' := ⟨h.os, h.tape, h.output, h.size, fun k hk _ => h.block k hk⟩
theorem Touch.alloc {S : Nat → Prop} {w0 w : World} (h : Touch S w0 w) (o : Obj) : Touch S w0 (w.alloc o) :=
  h.trans (.ofBelow ((Below.refl _ _).alloc (Nat.le_refl _) o))
theorem Touch.drewN {S : Nat → Prop} {w0 w : World} (h : Touch S w0 w) (n : Nat) : Touch S w0 (w.drewN n) := ⟨h.os, h.tape, h.output, h.size, h.block⟩
theorem Touch.setCell {S : Nat → Prop} {w0 w : World} (h : Touch S w0 w) {g : Nat} (hg : w0.heap.size ≤ g ∨ S g) (j : Nat) (x : Value) : Touch S w0 (w.setCell ⟨g, j, none⟩ x) := by
  have b := (Below.refl g w).setCell (p := ⟨g, j, none⟩) (Nat.le_refl _) x
  refine ⟨b.os.trans h.os, b.tape.trans h.tape, b.output.trans h.output, Nat.le_trans h.size b.size, fun k hk hS => ?_⟩
  rw [Below.heap_setCell w _ x k (fun e => by subst e; rcases hg with q | q; (· exact absurd hk (by omega)); exact hS q)]
  exact h.block k hk hS
theorem Touch.grown {S : Nat → Prop} {w0 w w' : World} {row : Option Nat} (h : Touch S w0 w) (hg : w.grownBy w' row) (hr : ∀ k, row = some k → w0.heap.size ≤ k ∨ S k) : Touch S w0 w' :=
  ⟨hg.os.trans h.os, hg.tape.trans h.tape, hg.output.trans h.output, Nat.le_trans h.size hg.size, fun k hk hS => by
    rw [hg.block k (Nat.lt_of_lt_of_le hk h.size) (fun e => by rcases hr k e.symm with q | q; (· omega); exact hS q)]
    exact h.block k hk hS⟩
theorem Touch.cell {S : Nat → Prop} {w w' : World} (h : Touch S w w') {b : Nat} (hb : b < w.heap.size) (hS : ¬ S b) (j : Nat) : w'.cell? ⟨b, j, none⟩ = w.cell? ⟨b, j, none⟩ :=
  World.cell?_of_block (h.block b hb hS)
theorem Touch.row {S : Nat → Prop} {w w' : World} (h : Touch S w w') {g : Nat} {L : List Value} (hr : Row w g L) (hS : ¬ S g) : Row w' g L := (h.block g hr.lt hS).trans hr
end Go.Proofs.YtdfnehngffajiabDoor
