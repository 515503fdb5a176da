/-
  QByteRowToBits: ByteRow, Bits, joined.
-/
import Derived.Test.YtdfnehngffajiabDoorQDigsToTouch
import Derived.Test.YtdfnehngffajiabDoorQWords
import Derived.Laws.MathBits
import Derived.Lib.TrailingZeros

/- ByteRow -/
namespace Go.Proofs.YtdfnehngffajiabDoor
open Go.RowKit
set_option linter.unusedVariables false

abbrev bs (L : List Int) : List Value := L.map (Value.int .u8)
/-- Block g holds the bytes L. -/
def RowB (w : World) (g : Nat) (L : List Int) : Prop := w.heap[g]? = some (.cells (bs L).toArray 5 (0, 0))
theorem RowB.lt {w : World} {g : Nat} {L : List Int} (h : RowB w g L) : g < w.heap.size := (Array.getElem?_eq_some_iff.1 h).1
theorem RowB.cell {w : World} {g : Nat} {L : List Int} (h : RowB w g L) {i : Nat} (hi : i < L.length) : w.cell? ⟨g, i, none⟩ = some (.int .u8 L[i]) := by
  unfold RowB at h
  simp [World.cell?, h, hi]
theorem RowB.frozen {w : World} {g : Nat} {L : List Int} (h : RowB w g L) (i : Nat) : w.frozen? ⟨g, i, none⟩ = false := by
  unfold RowB at h
  simp [World.frozen?, h]
theorem RowB.set {w : World} {g : Nat} {L : List Int} (h : RowB w g L) (i : Nat) (x : Int) : RowB (w.setCell ⟨g, i, none⟩ (.int .u8 x)) g (L.set i x) := by
  unfold RowB at h ⊢
  simp [World.setCell, Array.getElem?_modify, h, List.map_set]
theorem RowB.now {w w' : World} {g : Nat} {L : List Int} (h : RowB w g L) (hb : Below w.heap.size w w') : RowB w' g L := (hb.block g h.lt).trans h
theorem RowB.touch {w w' : World} {g : Nat} {L : List Int} {S : Nat → Prop} (h : RowB w g L) (ht : Touch S w w') (hS : ¬ S g) : RowB w' g L := (ht.block g h.lt hS).trans h
theorem Tryd.infoB : (Tryd.prog.info? 5).map (fun i => (i.zero, i.size, i.bytes)) = some (some (.int .u8 0), 1, 1) := by kernel_rfl
theorem madeCells_bytes (m : Nat) : madeCells (Value.int .u8 0).cells m = (bs (List.replicate m 0)).toArray := by
  apply Array.ext
  · simp [size_madeCells, bs]
  · intro i h1 h2
    simp [madeCells, Value.cells, Nat.mod_one, bs]
theorem wpList_make_bytes (w : World) {ops : Array Oper} {rest : List Oper} {o : Oper} {a : Act} {Q : Exit → Act → World → Prop}
    (hg : o.guard = none) (l c : Operand) (hop : o.op = Op.makeSlice 39 l c)
    (L C : Int) (n : Nat) (hl : a.eval l = .int .i64 L) (hc : a.eval c = .int .i64 C) (hL : L = (n : Int)) (hC : C = (n : Int)) (hm : n ≤ 35184372088832)
    (hK : ∀ w', Hid (RowB w' w.heap.size (List.replicate n 0)) → Hid (Below w.heap.size w w') → wpList Tryd.prog ops Q rest (a.put o.dst (.slice (some ⟨w.heap.size, 0, none⟩) n n)) w') :
    wpList Tryd.prog ops Q (o :: rest) a w := by
  refine wpList_plain hg fun K hK' => ?_
  obtain ⟨i, hi, hz, hs, hb⟩ := info_parts Tryd.infoB
  have hrun := run_make (P := Tryd.prog) w 39 5 i (.int .u8 0) Tryd.underlying39 hi hz .i64 .i64 n n (by omega) (by omega) (by rw [hb]; omega) (by omega)
  subst hL
  subst hC
  rw [hs, Nat.mul_one, Int.toNat_natCast, madeCells_bytes] at hrun
  unfold Oper.wp
  simp [execOp, hop, hl, hc, hrun, Result.andThen]
  refine hK' _ _ (hK _ ?_ ((Below.refl _ _).alloc (Nat.le_refl _) _))
  unfold Hid RowB
  simpa [bs] using heap_alloc_new w _
/-- The table of the signs lies in its own block. -/
def Sg (w : World) : Prop := ∀ d : Nat, d < 36 → w.cell? ⟨1, d, none⟩ = some (.int .u8 (sgn d))
theorem Sg.pos {w : World} (h : Sg w) : 1 < w.heap.size := World.block_lt_of_cell? w _ (h 0 (by decide))
theorem Sg.now {w w' : World} (h : Sg w) (hb : Below w.heap.size w w') : Sg w' := fun d hd => (hb.cell (p := ⟨1, d, none⟩) h.pos).trans (h d hd)
theorem Sg.touch {w w' : World} {S : Nat → Prop} (h : Sg w) (ht : Touch S w w') (hS : ¬ S 1) : Sg w' := fun d hd => (ht.cell h.pos hS d).trans (h d hd)
theorem set_last {A X : List Int} {n : Nat} {s : Int} (h : A.length = n + 1) : (A ++ X).set n s = A.take n ++ (s :: X) := by
  have e : A = A.take n ++ A.drop n := (List.take_append_drop n A).symm
  have hd : (A.drop n).length = 1 := by simp [h]
  obtain ⟨y, hy⟩ : ∃ y, A.drop n = [y] := by
    match hA : A.drop n, hd with
    | [y], _ => exact ⟨y, rfl⟩
  have hl : (A.take n).length = n := by simp [h]
  conv => lhs; rw [e, hy, List.append_assoc, List.set_append_right _ _ (by omega), hl, Nat.sub_self]
  rfl
theorem digF_mod (B : Nat) (b n : Nat) : digF B b (n % B ^ b) = digF B b n := by
  have h := digF_split B 0 b n
  simpa [digF] using h.symm
theorem digF_next (B b n : Nat) : digF B (b + 1) n = n / B ^ b % B :: digF B b n := by
  rw [Nat.add_comm, digF_split B 1 b n, digF_mod]
  rfl
/-- A row of which m places from off on are written with the lowest digits of n, the last k places so far. -/
def part (L : List Int) (off m B n k : Nat) : List Int := L.take (off + (m - k)) ++ ((digF B k n).map sgn ++ L.drop (off + m))
theorem part_zero {L : List Int} {off m : Nat} (B n : Nat) : part L off m B n 0 = L := by simp [part, digF]
theorem part_len {L : List Int} {off m B n k : Nat} (h : off + m ≤ L.length) (hk : k ≤ m) : (part L off m B n k).length = L.length := by simp [part, digF_len]; omega
theorem part_step {L : List Int} {off m B n k : Nat} (h : off + m ≤ L.length) (hk : k < m) : (part L off m B n k).set (off + (m - (k + 1))) (sgn (n / B ^ k % B)) = part L off m B n (k + 1) := by
  unfold part
  rw [set_last (n := off + (m - (k + 1))) (by simp; omega), digF_next, List.map_cons, List.take_take, Nat.min_eq_left (by omega)]
  rfl
/-- All of them. -/
def wrote (L : List Int) (off m B n : Nat) : List Int := L.take off ++ ((digF B m n).map sgn ++ L.drop (off + m))
theorem part_all (L : List Int) (off m B n : Nat) : part L off m B n m = wrote L off m B n := by simp [part, wrote]
theorem wrote_len {L : List Int} {off m B n : Nat} (h : off + m ≤ L.length) : (wrote L off m B n).length = L.length := by rw [← part_all, part_len h (Nat.le_refl _)]
/-- Two halves, one behind the other. -/
theorem wrote_two {L : List Int} {off a b B n : Nat} (h : off + (a + b) ≤ L.length) : wrote (wrote L off a B (n / B ^ b)) (off + a) b B (n % B ^ b) = wrote L off (a + b) B n := by
  have l1 : (L.take off).length = off := by simp; omega
  have l2 : ((digF B a (n / B ^ b)).map sgn).length = a := by simp [digF_len]
  unfold wrote
  have e1 : (L.take off ++ ((digF B a (n / B ^ b)).map sgn ++ L.drop (off + a))).take (off + a) = L.take off ++ (digF B a (n / B ^ b)).map sgn := by
    rw [← List.append_assoc, List.take_append_of_le_length (by simp [digF_len]; omega), List.take_of_length_le (by simp [digF_len]; omega)]
  have e2 : (L.take off ++ ((digF B a (n / B ^ b)).map sgn ++ L.drop (off + a))).drop (off + a + b) = L.drop (off + (a + b)) := by
    rw [← List.append_assoc, List.drop_append, List.drop_of_length_le (by simp [digF_len]; omega), List.nil_append, List.length_append, l1, l2, List.drop_drop, show off + a + (off + a + b - (off + a)) = off + (a + b) by omega]
  rw [e1, e2, digF_split, List.map_append, List.append_assoc, List.append_assoc]
end Go.Proofs.YtdfnehngffajiabDoor

/- Bits -/
namespace Go.Proofs.YtdfnehngffajiabDoor

/-- The number that a list of words is. -/
def vn : List Int → Nat
  | [] => 0
  | x :: r => x.toNat + 2 ^ 64 * vn r
theorem val_vn : ∀ {xs : List Int}, WF xs → val xs = (vn xs : Int)
  | [], _ => rfl
  | x :: r, h => by
    have h1 := h.head
    unfold IsW wB at h1
    rw [val, vn, val_vn h.tail]
    unfold wB
    omega
theorem vn_eq {xs ys : List Int} (hx : WF xs) (hy : WF ys) : vn xs = vn ys ↔ val xs = val ys := by
  rw [val_vn hx, val_vn hy]; omega
theorem toNat_lt {x : Int} (h : IsW x) : x.toNat < 2 ^ 64 := by unfold IsW wB at h; omega
theorem vn_lt : ∀ {xs : List Int}, WF xs → vn xs < 2 ^ (64 * xs.length)
  | [], _ => by simp [vn]
  | x :: r, h => by
    have h1 := toNat_lt h.head
    have h2 := vn_lt h.tail
    rw [vn, List.length_cons, show 64 * (r.length + 1) = 64 + 64 * r.length by omega, Nat.pow_add]
    have := Nat.mul_le_mul_left (2 ^ 64) (Nat.succ_le_of_lt h2)
    rw [Nat.mul_succ] at this
    omega
theorem vn_append : ∀ (xs ys : List Int), vn (xs ++ ys) = vn xs + 2 ^ (64 * xs.length) * vn ys
  | [], ys => by simp [vn]
  | x :: r, ys => by
    rw [List.cons_append, vn, vn, vn_append r ys, List.length_cons, show 64 * (r.length + 1) = 64 + 64 * r.length by omega, Nat.pow_add, Nat.mul_add, Nat.mul_assoc]
    omega
theorem vn_zeros {xs : List Int} (h : ∀ x ∈ xs, x = 0) : vn xs = 0 := by
  induction xs with
  | nil => rfl
  | cons x r ih => rw [vn, h x (by simp), ih (fun y hy => h y (by simp [hy]))]; simp
/-- A binary digit, by its word. -/
theorem vn_bit : ∀ {xs : List Int}, WF xs → ∀ t, (vn xs).testBit t = ((xs.getD (t / 64) 0).toNat).testBit (t % 64)
  | [], _, t => by simp [vn]
  | x :: r, h, t => by
    have h1 := toNat_lt h.head
    rw [vn, Nat.add_comm, Nat.testBit_two_pow_mul_add _ h1]
    by_cases ht : t < 64
    · rw [if_pos ht, Nat.div_eq_of_lt ht, Nat.mod_eq_of_lt ht]; simp
    · rw [if_neg ht, vn_bit h.tail]
      have e1 : t / 64 = (t - 64) / 64 + 1 := by omega
      have e2 : t % 64 = (t - 64) % 64 := by omega
      rw [e1, e2]; simp
theorem bit_of (v t : Nat) : v.testBit t = decide (v / 2 ^ t % 2 = 1) := Nat.testBit_eq_decide_div_mod_eq
theorem bit_val (v t : Nat) : v / 2 ^ t % 2 = if v.testBit t then 1 else 0 := by
  rw [bit_of]
  by_cases h : v / 2 ^ t % 2 = 1
  · simp [h]
  · simp [h]; omega
/-- The length by the top word. -/
theorem bitLen_top {lo top s : Nat} (h : lo < 2 ^ s) (ht : top ≠ 0) : bitLen (lo + 2 ^ s * top) = s + bitLen top := by
  have hp : 0 < 2 ^ s := Nat.two_pow_pos s
  have e : (lo + 2 ^ s * top) / 2 ^ s = top := by
    rw [Nat.add_mul_div_left _ _ hp, Nat.div_eq_of_lt h]; omega
  rw [bitLen_shift _ s (by rw [e]; exact ht), e]
theorem lst_split {xs : List Int} {n : Nat} (hn : wid xs = n + 1) (h : n < xs.length) : lst xs = xs.take n ++ [xs[n]] := by
  unfold lst; rw [hn, List.take_succ_eq_append_getElem h]
theorem wid_top : ∀ {xs : List Int} {n : Nat}, wid xs = n + 1 → ∃ h : n < xs.length, xs[n] ≠ 0
  | [], n, h => by simp [wid] at h
  | x :: r, n, h => by
    unfold wid at h
    split at h
    · split at h
      · cases h
      · have : n = 0 := by omega
        subst this
        exact ⟨by simp, by simpa⟩
    · rename_i hr
      obtain ⟨m, hm⟩ : ∃ m, wid r = m + 1 := ⟨wid r - 1, by omega⟩
      obtain ⟨h1, h2⟩ := wid_top hm
      have : n = m + 1 := by omega
      subst this
      exact ⟨by simpa using h1, by simpa using h2⟩
theorem vn_lst {xs : List Int} (h : WF xs) : vn (lst xs) = vn xs := (vn_eq (canon_lst h).1 h).2 (val_lst xs)
theorem bitLen_words {xs : List Int} (hw : WF xs) {n : Nat} (hn : wid xs = n + 1) (h : n < xs.length) : bitLen (vn xs) = 64 * n + bitLen xs[n].toNat := by
  obtain ⟨_, hne⟩ := wid_top hn
  rw [← vn_lst hw, lst_split hn h, vn_append]
  have hl : (xs.take n).length = n := by simp; omega
  have h1 := vn_lt (hw.take n)
  rw [hl] at h1 ⊢
  have e : vn [xs[n]] = xs[n].toNat := by simp [vn]
  rw [e]
  refine bitLen_top h1 ?_
  have := (hw.get h).1
  omega
theorem wid_zero_vn {xs : List Int} (hw : WF xs) (h : wid xs = 0) : vn xs = 0 := by
  have := wid_zero_val xs h
  rw [val_vn hw] at this; omega
/-- v is 2^t times an odd number. -/
def Odd2 (v t : Nat) : Prop := ∃ m, v = 2 ^ t * (2 * m + 1)
theorem odd2_words {xs : List Int} {i t : Nat} (hz : ∀ j (h : j < xs.length), j < i → xs[j] = 0) (hi : i < xs.length) (ht : t < 64) (ho : Odd2 xs[i].toNat t) : Odd2 (vn xs) (64 * i + t) := by
  obtain ⟨m, hm⟩ := ho
  have e : xs = xs.take i ++ (xs[i] :: xs.drop (i + 1)) := by rw [← List.drop_eq_getElem_cons hi, List.take_append_drop]
  have hl : (xs.take i).length = i := by simp; omega
  have h0 : vn (xs.take i) = 0 := vn_zeros (fun x hx => by
    obtain ⟨j, hj, rfl⟩ := List.getElem_of_mem hx
    simp only [List.length_take] at hj
    simpa using hz j (by omega) (by omega))
  rw [e, vn_append, h0, hl, vn, hm]
  generalize vn (xs.drop (i + 1)) = R
  refine ⟨m + 2 ^ (64 - t - 1) * R, ?_⟩
  rw [Nat.pow_add]
  have e2 : 2 ^ 64 = 2 ^ t * (2 * 2 ^ (64 - t - 1)) := by rw [← Nat.pow_succ', ← Nat.pow_add]; congr 1; omega
  rw [e2, Nat.zero_add, Nat.mul_assoc (2 ^ (64 * i))]
  congr 1
  rw [Nat.mul_assoc, ← Nat.mul_add]
  congr 1
  rw [Nat.mul_add, Nat.mul_assoc]
  omega
theorem odd2_pos {v t : Nat} (h : Odd2 v t) : v ≠ 0 := by
  obtain ⟨m, rfl⟩ := h
  have := Nat.two_pow_pos t
  intro e
  rcases Nat.mul_eq_zero.1 e with q | q <;> omega
theorem odd2_bit {v t : Nat} (h : Odd2 v t) : v.testBit t = true ∧ ∀ j, j < t → v.testBit j = false := by
  obtain ⟨m, rfl⟩ := h
  constructor
  · rw [Nat.testBit_two_pow_mul]; simp [Nat.testBit_zero]
  · intro j hj
    rw [Nat.testBit_two_pow_mul]; simp; omega
end Go.Proofs.YtdfnehngffajiabDoor
