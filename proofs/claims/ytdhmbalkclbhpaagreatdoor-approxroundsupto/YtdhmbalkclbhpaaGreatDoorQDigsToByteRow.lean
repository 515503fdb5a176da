/-
  QDigsToByteRow: Digs, Touch, ByteRow, joined.
-/
import Derived.Test.YtdhmbalkclbhpaaGreatDoorQCmpToNow
import Derived.Test.YtdhmbalkclbhpaaGreatDoorQCarryToMade

/- Digs -/
namespace Go.Proofs.YtdhmbalkclbhpaaGreatDoor
open Go.RowKit
set_option linter.unusedVariables false

/-- m digits of n to the base B, the highest first. -/
def digF (B : Nat) : Nat → Nat → List Nat
  | 0, _ => []
  | m + 1, n => digF B m (n / B) ++ [n % B]
theorem digF_len (B : Nat) : ∀ m n, (digF B m n).length = m
  | 0, _ => rfl
  | m + 1, n => by simp [digF, digF_len B m]
theorem digF_lt {B : Nat} (hB : 0 < B) : ∀ (m n : Nat), ∀ d ∈ digF B m n, d < B
  | 0, _, d, h => by simp [digF] at h
  | m + 1, n, d, h => by
    rcases List.mem_append.1 h with h | h
    · exact digF_lt hB m _ d h
    · have e : d = n % B := by simpa using h
      rw [e]; exact Nat.mod_lt _ hB
theorem digF_split (B a : Nat) : ∀ (b n : Nat), digF B (a + b) n = digF B a (n / B ^ b) ++ digF B b (n % B ^ b)
  | 0, n => by simp [digF]
  | b + 1, n => by
    have e1 : n / B / B ^ b = n / B ^ (b + 1) := by rw [Nat.div_div_eq_div_mul, Nat.pow_succ, Nat.mul_comm]
    have e2 : n % B ^ (b + 1) / B = n / B % B ^ b := by rw [Nat.pow_succ, Nat.mul_comm, Nat.mod_mul_right_div_self]
    have e3 : n % B ^ (b + 1) % B = n % B := by rw [Nat.pow_succ, Nat.mul_comm]; exact Nat.mod_mul_right_mod n B _
    rw [← Nat.add_assoc, digF, digF, digF_split B a b, e1, e2, e3, List.append_assoc]
theorem digF_zero {B : Nat} : ∀ m, digF B m 0 = List.replicate m 0
  | 0 => rfl
  | m + 1 => by rw [digF, Nat.zero_div, Nat.zero_mod, digF_zero m, List.replicate_succ']
theorem digF_pad {B a b n : Nat} (h : n < B ^ b) : digF B (a + b) n = List.replicate a 0 ++ digF B b n := by
  rw [digF_split, Nat.div_eq_of_lt h, Nat.mod_eq_of_lt h, digF_zero]
/-- The number that a list of digits writes, the highest first. -/
def ofD (B : Nat) (ds : List Nat) : Nat := ds.foldl (fun a d => a * B + d) 0
theorem ofD_foldl (B : Nat) : ∀ (ds : List Nat) (a : Nat), ds.foldl (fun a d => a * B + d) a = a * B ^ ds.length + ofD B ds
  | [], a => by simp [ofD]
  | d :: t, a => by
    have h1 := ofD_foldl B t (a * B + d)
    have h2 := ofD_foldl B t (0 * B + d)
    unfold ofD at h1 h2 ⊢
    simp only [List.foldl_cons, List.length_cons] at h1 h2 ⊢
    rw [h1, h2, Nat.pow_succ]
    simp only [Nat.zero_mul, Nat.zero_add, Nat.add_mul]
    rw [Nat.mul_assoc a B, Nat.mul_comm B]
    omega
theorem ofD_append (B : Nat) (a b : List Nat) : ofD B (a ++ b) = ofD B a * B ^ b.length + ofD B b := by
  unfold ofD
  rw [List.foldl_append, ofD_foldl]
  rfl
theorem ofD_nil (B : Nat) : ofD B [] = 0 := rfl
theorem ofD_one (B d : Nat) : ofD B [d] = d := by simp [ofD]
theorem ofD_snoc (B : Nat) (a : List Nat) (d : Nat) : ofD B (a ++ [d]) = ofD B a * B + d := by rw [ofD_append, ofD_one]; simp
theorem ofD_cons (B d : Nat) (t : List Nat) : ofD B (d :: t) = d * B ^ t.length + ofD B t := by
  have := ofD_append B [d] t
  rw [ofD_one] at this
  simpa using this
theorem ofD_lt {B : Nat} (hB : 0 < B) : ∀ (ds : List Nat), (∀ d ∈ ds, d < B) → ofD B ds < B ^ ds.length
  | [], _ => by simp [ofD]
  | d :: t, h => by
    have h1 := ofD_lt hB t (fun x hx => h x (List.mem_cons_of_mem _ hx))
    have h2 := h d (List.mem_cons_self ..)
    rw [ofD_cons, List.length_cons, Nat.pow_succ]
    have h3 : (d + 1) * B ^ t.length ≤ B * B ^ t.length := Nat.mul_le_mul_right _ h2
    rw [Nat.add_mul, Nat.one_mul] at h3
    rw [Nat.mul_comm (B ^ t.length)]
    omega
theorem ofD_digF (B : Nat) : ∀ m n, ofD B (digF B m n) = n % B ^ m
  | 0, n => by simp [digF, ofD, Nat.mod_one]
  | m + 1, n => by
    rw [digF, ofD_snoc, ofD_digF B m, Nat.pow_succ, Nat.mul_comm (B ^ m), Nat.mod_mul, Nat.mul_comm]
    omega
/-- Zeros at the beginning left out. -/
def lead (ds : List Nat) : List Nat := ds.dropWhile (· == 0)
theorem lead_zeros (a : Nat) (ds : List Nat) : lead (List.replicate a 0 ++ ds) = lead ds := by
  induction a with
  | zero => rfl
  | succ a ih => rw [List.replicate_succ, List.cons_append]; unfold lead at ih ⊢; rw [List.dropWhile_cons]; simp
theorem leadD_any {B m k n : Nat} (hm : n < B ^ m) (hk : n < B ^ k) : lead (digF B m n) = lead (digF B k n) := by
  have h1 : digF B (k + m) n = List.replicate k 0 ++ digF B m n := digF_pad hm
  have h2 : digF B (m + k) n = List.replicate m 0 ++ digF B k n := digF_pad hk
  rw [Nat.add_comm] at h2
  rw [← lead_zeros k, ← h1, h2, lead_zeros]
theorem ofD_lead (B : Nat) : ∀ ds : List Nat, ofD B (lead ds) = ofD B ds
  | [] => rfl
  | d :: t => by
    unfold lead
    rw [List.dropWhile_cons]
    by_cases h : d = 0
    · subst h
      have := ofD_lead B t
      unfold lead at this
      simp only [beq_self_eq_true, if_true]
      rw [this, ofD_cons]
      simp
    · have e : (d == 0) = false := by simpa using h
      rw [e]
      rfl
theorem lead_head {ds : List Nat} {d : Nat} {t : List Nat} (h : lead ds = d :: t) : d ≠ 0 := by
  intro e
  have := List.head?_dropWhile_not (· == 0) ds
  unfold lead at h
  rw [h] at this
  simp [e] at this
/-- Digits without a zero ahead are those of their number. -/
theorem digF_ofD {B : Nat} (hB : 0 < B) : ∀ (k : Nat) (ds : List Nat), ds.length = k → (∀ d ∈ ds, d < B) → digF B k (ofD B ds) = ds
  | 0, ds, hl, _ => by rw [List.eq_nil_of_length_eq_zero hl]; rfl
  | k + 1, ds, hl, h => by
    rcases List.eq_nil_or_concat ds with e | ⟨t, d, e⟩
    · subst e; simp at hl
    · rw [List.concat_eq_append] at e
      subst e
      have hd := h d (by simp)
      have ht := digF_ofD hB k t (by simpa using hl) (fun x hx => h x (by simp [hx]))
      rw [digF, ofD_snoc]
      have e1 : (ofD B t * B + d) / B = ofD B t := by rw [Nat.mul_comm, Nat.mul_add_div hB, Nat.div_eq_of_lt hd, Nat.add_zero]
      have e2 : (ofD B t * B + d) % B = d := by rw [Nat.mul_comm, Nat.mul_add_mod, Nat.mod_eq_of_lt hd]
      rw [e1, e2, ht]
/-- The sign of a digit. -/
def sgn (d : Nat) : Int := if d < 10 then 48 + (d : Int) else 87 + (d : Int)
end Go.Proofs.YtdhmbalkclbhpaaGreatDoor

/- Touch -/
namespace Go.Proofs.YtdhmbalkclbhpaaGreatDoor
open Go.RowKit

/-- Only blocks of S have turned; new ones may be there. -/
structure Touch (S : Nat → Prop) (w w' : World) : Prop where
  os : w'.os = w.os
  tape : w'.tape = w.tape
  output : w'.output = w.output
  size : w.heap.size ≤ w'.heap.size
  block : ∀ k, k < w.heap.size → ¬ S k → w'.heap[k]? = w.heap[k]?
theorem Touch.refl (S : Nat → Prop) (w : World) : Touch S w w := ⟨rfl, rfl, rfl, Nat.le_refl _, fun _ _ _ => rfl⟩
theorem Touch.trans {S : Nat → Prop} {a b c : World} (h : Touch S a b) (k : Touch S b c) : Touch S a c :=
  ⟨k.os.trans h.os, k.tape.trans h.tape, k.output.trans h.output, Nat.le_trans h.size k.size, fun i hi hS => (k.block i (Nat.lt_of_lt_of_le hi h.size) hS).trans (h.block i hi hS)⟩
theorem Touch.ofBelow {S : Nat → Prop} {w w' : World} (h : Below w.heap.size w w') : Touch S w w' := ⟨h.os, h.tape, h.output, h.size, fun k hk _ => h.block k hk⟩
theorem Touch.alloc {S : Nat → Prop} {w0 w : World} (h : Touch S w0 w) (o : Obj) : Touch S w0 (w.alloc o) :=
  h.trans (.ofBelow ((Below.refl _ _).alloc (Nat.le_refl _) o))
theorem Touch.drewN {S : Nat → Prop} {w0 w : World} (h : Touch S w0 w) (n : Nat) : Touch S w0 (w.drewN n) := ⟨h.os, h.tape, h.output, h.size, h.block⟩
theorem Touch.setCell {S : Nat → Prop} {w0 w : World} (h : Touch S w0 w) {g : Nat} (hg : w0.heap.size ≤ g ∨ S g) (j : Nat) (x : Value) : Touch S w0 (w.setCell ⟨g, j, none⟩ x) := by
  have b := (Below.refl g w).setCell (p := ⟨g, j, none⟩) (Nat.le_refl _) x
  refine ⟨b.os.trans h.os, b.tape.trans h.tape, b.output.trans h.output, Nat.le_trans h.size b.size, fun k hk hS => ?_⟩
  rw [Below.heap_setCell w _ x k (fun e => by subst e; rcases hg with q | q; (· exact absurd hk (by omega)); exact hS q)]
  exact h.block k hk hS
theorem Touch.grown {S : Nat → Prop} {w0 w w' : World} {row : Option Nat} (h : Touch S w0 w) (hg : w.grownBy w' row) (hr : ∀ k, row = some k → w0.heap.size ≤ k ∨ S k) : Touch S w0 w' :=
  ⟨hg.os.trans h.os, hg.tape.trans h.tape, hg.output.trans h.output, Nat.le_trans h.size hg.size, fun k hk hS => by
    rw [hg.block k (Nat.lt_of_lt_of_le hk h.size) (fun e => by rcases hr k e.symm with q | q; (· omega); exact hS q)]
    exact h.block k hk hS⟩
theorem Touch.cell {S : Nat → Prop} {w w' : World} (h : Touch S w w') {b : Nat} (hb : b < w.heap.size) (hS : ¬ S b) (j : Nat) : w'.cell? ⟨b, j, none⟩ = w.cell? ⟨b, j, none⟩ :=
  World.cell?_of_block (h.block b hb hS)
theorem Touch.row {S : Nat → Prop} {w w' : World} (h : Touch S w w') {g : Nat} {L : List Value} (hr : Row w g L) (hS : ¬ S g) : Row w' g L := (h.block g hr.lt hS).trans hr
end Go.Proofs.YtdhmbalkclbhpaaGreatDoor

/- ByteRow -/
namespace Go.Proofs.YtdhmbalkclbhpaaGreatDoor
open Go.RowKit
set_option linter.unusedVariables false

abbrev bs (L : List Int) : List Value := L.map (Value.int .u8)
/-- Block g holds the bytes L. -/
def RowB (w : World) (g : Nat) (L : List Int) : Prop := w.heap[g]? = some (.cells (bs L).toArray 5 (0, 0))
theorem RowB.lt {w : World} {g : Nat} {L : List Int} (h : RowB w g L) : g < w.heap.size := (Array.getElem?_eq_some_iff.1 h).1
theorem RowB.cell {w : World} {g : Nat} {L : List Int} (h : RowB w g L) {i : Nat} (hi : i < L.length) : w.cell? ⟨g, i, none⟩ = some (.int .u8 L[i]) := by
  unfold RowB at h
  simp [World.cell?, h, hi]
theorem RowB.frozen {w : World} {g : Nat} {L : List Int} (h : RowB w g L) (i : Nat) : w.frozen? ⟨g, i, none⟩ = false := by
  unfold RowB at h
  simp [World.frozen?, h]
theorem RowB.set {w : World} {g : Nat} {L : List Int} (h : RowB w g L) (i : Nat) (x : Int) : RowB (w.setCell ⟨g, i, none⟩ (.int .u8 x)) g (L.set i x) := by
  unfold RowB at h ⊢
  simp [World.setCell, Array.getElem?_modify, h, List.map_set]
theorem RowB.now {w w' : World} {g : Nat} {L : List Int} (h : RowB w g L) (hb : Below w.heap.size w w') : RowB w' g L := (hb.block g h.lt).trans h
theorem RowB.touch {w w' : World} {g : Nat} {L : List Int} {S : Nat → Prop} (h : RowB w g L) (ht : Touch S w w') (hS : ¬ S g) : RowB w' g L := (ht.block g h.lt hS).trans h
theorem Tryz.infoB : (Tryz.prog.info? 5).map (fun i => (i.zero, i.size, i.bytes)) = some (some (.int .u8 0), 1, 1) := by kernel_rfl
theorem madeCells_bytes (m : Nat) : madeCells (Value.int .u8 0).cells m = (bs (List.replicate m 0)).toArray := by
  apply Array.ext
  · simp [size_madeCells, bs]
  · intro i h1 h2
    simp [madeCells, Value.cells, Nat.mod_one, bs]
theorem wpList_make_bytes (w : World) {ops : Array Oper} {rest : List Oper} {o : Oper} {a : Act} {Q : Exit → Act → World → Prop}
    (hg : o.guard = none) (l c : Operand) (hop : o.op = Op.makeSlice 45 l c)
    (L C : Int) (n : Nat) (hl : a.eval l = .int .i64 L) (hc : a.eval c = .int .i64 C) (hL : L = (n : Int)) (hC : C = (n : Int)) (hm : n ≤ 35184372088832)
    (hK : ∀ w', Hid (RowB w' w.heap.size (List.replicate n 0)) → Hid (Below w.heap.size w w') → wpList Tryz.prog ops Q rest (a.put o.dst (.slice (some ⟨w.heap.size, 0, none⟩) n n)) w') :
    wpList Tryz.prog ops Q (o :: rest) a w := by
  refine wpList_plain hg fun K hK' => ?_
  obtain ⟨i, hi, hz, hs, hb⟩ := info_parts Tryz.infoB
  have hrun := run_make (P := Tryz.prog) w 45 5 i (.int .u8 0) Tryz.underlying45 hi hz .i64 .i64 n n (by omega) (by omega) (by rw [hb]; omega) (by omega)
  subst hL
  subst hC
  rw [hs, Nat.mul_one, Int.toNat_natCast, madeCells_bytes] at hrun
  unfold Oper.wp
  simp [execOp, hop, hl, hc, hrun, Result.andThen]
  refine hK' _ _ (hK _ ?_ ((Below.refl _ _).alloc (Nat.le_refl _) _))
  unfold Hid RowB
  simpa [bs] using heap_alloc_new w _
/-- The table of the signs lies in its own block. -/
def Sg (w : World) : Prop := ∀ d : Nat, d < 36 → w.cell? ⟨1, d, none⟩ = some (.int .u8 (sgn d))
theorem Sg.pos {w : World} (h : Sg w) : 1 < w.heap.size := World.block_lt_of_cell? w _ (h 0 (by decide))
theorem Sg.now {w w' : World} (h : Sg w) (hb : Below w.heap.size w w') : Sg w' := fun d hd => (hb.cell (p := ⟨1, d, none⟩) h.pos).trans (h d hd)
theorem Sg.touch {w w' : World} {S : Nat → Prop} (h : Sg w) (ht : Touch S w w') (hS : ¬ S 1) : Sg w' := fun d hd => (ht.cell h.pos hS d).trans (h d hd)
theorem set_last {A X : List Int} {n : Nat} {s : Int} (h : A.length = n + 1) : (A ++ X).set n s = A.take n ++ (s :: X) := by
  have e : A = A.take n ++ A.drop n := (List.take_append_drop n A).symm
  have hd : (A.drop n).length = 1 := by simp [h]
  obtain ⟨y, hy⟩ : ∃ y, A.drop n = [y] := by
    match hA : A.drop n, hd with
    | [y], _ => exact ⟨y, rfl⟩
  have hl : (A.take n).length = n := by simp [h]
  conv => lhs; rw [e, hy, List.append_assoc, List.set_append_right _ _ (by omega), hl, Nat.sub_self]
  rfl
theorem digF_mod (B : Nat) (b n : Nat) : digF B b (n % B ^ b) = digF B b n := by
  have h := digF_split B 0 b n
  simpa [digF] using h.symm
theorem digF_next (B b n : Nat) : digF B (b + 1) n = n / B ^ b % B :: digF B b n := by
  rw [Nat.add_comm, digF_split B 1 b n, digF_mod]
  rfl
/-- A row of which m places from off on are written with the lowest digits of n, the last k places so far. -/
def part (L : List Int) (off m B n k : Nat) : List Int := L.take (off + (m - k)) ++ ((digF B k n).map sgn ++ L.drop (off + m))
theorem part_zero {L : List Int} {off m : Nat} (B n : Nat) : part L off m B n 0 = L := by simp [part, digF]
theorem part_len {L : List Int} {off m B n k : Nat} (h : off + m ≤ L.length) (hk : k ≤ m) : (part L off m B n k).length = L.length := by simp [part, digF_len]; omega
theorem part_step {L : List Int} {off m B n k : Nat} (h : off + m ≤ L.length) (hk : k < m) : (part L off m B n k).set (off + (m - (k + 1))) (sgn (n / B ^ k % B)) = part L off m B n (k + 1) := by
  unfold part
  rw [set_last (n := off + (m - (k + 1))) (by simp; omega), digF_next, List.map_cons, List.take_take, Nat.min_eq_left (by omega)]
  rfl
/-- All of them. -/
def wrote (L : List Int) (off m B n : Nat) : List Int := L.take off ++ ((digF B m n).map sgn ++ L.drop (off + m))
theorem part_all (L : List Int) (off m B n : Nat) : part L off m B n m = wrote L off m B n := by simp [part, wrote]
theorem wrote_len {L : List Int} {off m B n : Nat} (h : off + m ≤ L.length) : (wrote L off m B n).length = L.length := by rw [← part_all, part_len h (Nat.le_refl _)]
/-- Two halves, one behind the other. -/
theorem wrote_two {L : List Int} {off a b B n : Nat} (h : off + (a + b) ≤ L.length) : wrote (wrote L off a B (n / B ^ b)) (off + a) b B (n % B ^ b) = wrote L off (a + b) B n := by
  have l1 : (L.take off).length = off := by simp; omega
  have l2 : ((digF B a (n / B ^ b)).map sgn).length = a := by simp [digF_len]
  unfold wrote
  have e1 : (L.take off ++ ((digF B a (n / B ^ b)).map sgn ++ L.drop (off + a))).take (off + a) = L.take off ++ (digF B a (n / B ^ b)).map sgn := by
    rw [← List.append_assoc, List.take_append_of_le_length (by simp [digF_len]; omega), List.take_of_length_le (by simp [digF_len]; omega)]
  have e2 : (L.take off ++ ((digF B a (n / B ^ b)).map sgn ++ L.drop (off + a))).drop (off + a + b) = L.drop (off + (a + b)) := by
    rw [← List.append_assoc, List.drop_append, List.drop_of_length_le (by simp [digF_len]; omega), List.nil_append, List.length_append, l1, l2, List.drop_drop, show off + a + (off + a + b - (off + a)) = off + (a + b) by omega]
  rw [e1, e2, digF_split, List.map_append, List.append_assoc, List.append_assoc]
end Go.Proofs.YtdhmbalkclbhpaaGreatDoor
