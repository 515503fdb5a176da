/-
  lex/Rp25: picked from nat/Carry nat/Made nat/Now radix/Digs radix/ByteRow nat/Bits nat/Shift divnat/DivMod radix/Bunch radix/TrimL radix/ValueOf radix/Cut4 ref4/RGP4 nat/DWords nat/SlInts nat/RowsI nat/Split nat/Join ref4/RP4 ref4/Byr4 ref4/RText4 ref4/Itr4 ref4/Onto4 ref4/JoinJ4 ref4/RRead4 ref4/RDec4 ref4/RGroupR4.
-/
import Derived.Test.YtdfnehngffajiaaDoorBase
import Derived.Laws.Externs
import Derived.Deep.RegionHeld3
import Derived.Laws.CopyOwn
import Derived.Laws.MathBits
import Derived.ArgAppend
import Derived.OwnWalk
import Derived.Deep.AppendLies
import Derived.Laws.Strings3
import Derived.Lib.OthersKept
import Derived.Deep.LoopGhost
import Derived.Lib.Strings
import Derived.WalkKit
namespace Go.Proofs.YtdfnehngffajiaaDoor
open Go.RowKit
set_option linter.unusedVariables false
namespace R4
/-- Block g holds the cells L, none of them frozen. -/
def Row (w : World) (g : Nat) (L : List Value) : Prop := w.heap[g]? = some (.cells L.toArray 79 (0, 0))
theorem Row.lt {w : World} {g : Nat} {L : List Value} (h : Row w g L) : g < w.heap.size := (Array.getElem?_eq_some_iff.1 h).1
theorem Row.cell {w : World} {g : Nat} {L : List Value} (h : Row w g L) {i : Nat} (hi : i < L.length) : w.cell? ⟨g, i, none⟩ = some L[i] := by
  unfold Row at h
  simp [World.cell?, h, hi]
theorem Row.frozen {w : World} {g : Nat} {L : List Value} (h : Row w g L) (i : Nat) : w.frozen? ⟨g, i, none⟩ = false := by
  unfold Row at h
  simp [World.frozen?, h]
theorem Row.set {w : World} {g : Nat} {L : List Value} (h : Row w g L) (i : Nat) (u : Value) : Row (w.setCell ⟨g, i, none⟩ u) g (L.set i u) := by
  unfold Row at h ⊢
  simp [World.setCell, Array.getElem?_modify, h]
theorem Row.alloc {w : World} {g : Nat} {L : List Value} (h : Row w g L) (o : Obj) : Row (w.alloc o) g L := (Below.heap_alloc w o g h.lt).trans h
/-- The words as cells. -/
def ws (xs : List Int) : List Value := xs.map (Value.int .u64)
theorem length_ws (xs : List Int) : (ws xs).length = xs.length := by simp [ws]
theorem Row.word {w : World} {g : Nat} {xs : List Int} {r : List Value} (h : Row w g (ws xs ++ r)) {i : Nat} (hi : i < xs.length) : w.cell? ⟨g, i, none⟩ = some (.int .u64 xs[i]) := by
  rw [h.cell (i := i) (by simp [length_ws]; omega)]
  simp [ws, hi]
/-- A row's head as a slice. -/
theorem Row.sl {w : World} {g : Nat} {xs : List Int} {r : List Value} (h : Row w g (ws xs ++ r)) (hw : WF xs) {cap : Nat} (hc : xs.length ≤ cap) (hm : cap ≤ 35184372088832) {B : Nat} (hB : g < B) :
    Sl B w (.slice (some ⟨g, 0, none⟩) xs.length cap) xs :=
  ⟨hw, _, cap, rfl, hc, by omega, .inr ⟨g, 0, rfl, hB, fun j hj => by rw [Nat.zero_add]; exact h.word hj⟩⟩
theorem Tryd.infoW : (Tryd.prog.info? 79).map (fun i => (i.zero, i.size, i.bytes)) = some (some (.int .u64 0), 1, 8) := by kernel_rfl
theorem madeCells_words (m : Nat) : madeCells (Value.int .u64 0).cells m = (ws (List.replicate m 0)).toArray := by
  apply Array.ext
  · simp [size_madeCells, ws]
  · intro i h1 h2
    simp [madeCells, ws, Value.cells, Nat.mod_one]
theorem wpList_make_words (w : World) {ops : Array Oper} {rest : List Oper} {o : Oper} {a : Act} {Q : Exit → Act → World → Prop}
    (hg : o.guard = none) (l c : Operand) (hop : o.op = Op.makeSlice 48 l c)
    (L C : Int) (n m : Nat) (hl : a.eval l = .int .i64 L) (hc : a.eval c = .int .i64 C) (hL : L = (n : Int)) (hC : C = (m : Int)) (hnm : n ≤ m) (hm : m ≤ 35184372088832)
    (hK : ∀ w', Row w' w.heap.size (ws (List.replicate m 0)) → Below w.heap.size w w' → Hid (w'.heap.size = w.heap.size + 1) → wpList Tryd.prog ops Q rest (a.put o.dst (.slice (some ⟨w.heap.size, 0, none⟩) n m)) w') :
    wpList Tryd.prog ops Q (o :: rest) a w := by
  refine wpList_plain hg fun K hK' => ?_
  obtain ⟨i, hi, hz, hs, hb⟩ := info_parts Tryd.infoW
  have hrun := run_make (P := Tryd.prog) w 48 79 i (.int .u64 0) Tryd.underlying48 hi hz .i64 .i64 n m (by omega) (by omega) (by rw [hb]; omega) (by omega)
  subst hL
  subst hC
  rw [hs, Nat.mul_one, Int.toNat_natCast, Int.toNat_natCast, madeCells_words] at hrun
  unfold Oper.wp
  simp [execOp, hop, hl, hc, hrun, Result.andThen]
  refine hK' _ _ (hK _ ?_ ((Below.refl _ _).alloc (Nat.le_refl _) _) ?_)
  · unfold Row; exact heap_alloc_new w _
  · unfold Hid; simp
theorem below_step {w0 w w' : World} (h : Below w0.heap.size w0 w) (k : Below w.heap.size w w') : Below w0.heap.size w0 w' := h.trans (k.mono h.size)
/-- The number that a list of digits writes, the highest first. -/
def ofD (B : Nat) (ds : List Nat) : Nat := ds.foldl (fun a d => a * B + d) 0
theorem ofD_foldl (B : Nat) : ∀ (ds : List Nat) (a : Nat), ds.foldl (fun a d => a * B + d) a = a * B ^ ds.length + ofD B ds
  | [], a => by simp [ofD]
  | d :: t, a => by
    have h1 := ofD_foldl B t (a * B + d)
    have h2 := ofD_foldl B t (0 * B + d)
    unfold ofD at h1 h2 ⊢
    simp only [List.foldl_cons, List.length_cons] at h1 h2 ⊢
    rw [h1, h2, Nat.pow_succ]
    simp only [Nat.zero_mul, Nat.zero_add, Nat.add_mul]
    rw [Nat.mul_assoc a B, Nat.mul_comm B]
    omega
theorem ofD_append (B : Nat) (a b : List Nat) : ofD B (a ++ b) = ofD B a * B ^ b.length + ofD B b := by
  unfold ofD
  rw [List.foldl_append, ofD_foldl]
  rfl
theorem ofD_one (B d : Nat) : ofD B [d] = d := by simp [ofD]
theorem ofD_snoc (B : Nat) (a : List Nat) (d : Nat) : ofD B (a ++ [d]) = ofD B a * B + d := by rw [ofD_append, ofD_one]; simp
/-- The sign of a digit. -/
def sgn (d : Nat) : Int := if d < 10 then 48 + (d : Int) else 87 + (d : Int)
abbrev bs (L : List Int) : List Value := L.map (Value.int .u8)
theorem Tryd.infoB : (Tryd.prog.info? 5).map (fun i => (i.zero, i.size, i.bytes)) = some (some (.int .u8 0), 1, 1) := by kernel_rfl
/-- The number that a list of words is. -/
def vn : List Int → Nat
  | [] => 0
  | x :: r => x.toNat + 2 ^ 64 * vn r
theorem val_vn : ∀ {xs : List Int}, WF xs → val xs = (vn xs : Int)
  | [], _ => rfl
  | x :: r, h => by
    have h1 := h.head
    unfold IsW wB at h1
    rw [val, vn, val_vn h.tail]
    unfold wB
    omega
theorem toNat_lt {x : Int} (h : IsW x) : x.toNat < 2 ^ 64 := by unfold IsW wB at h; omega
theorem pw_pow : ∀ k, pw k = 2 ^ (64 * k)
  | 0 => by simp [pw]
  | k + 1 => by rw [pw, pw_pow k, show 64 * (k + 1) = 64 + 64 * k by omega, Int.pow_add]; rfl
theorem pw_add (a b : Nat) : pw (a + b) = pw a * pw b := by rw [pw_pow, pw_pow, pw_pow, Nat.mul_add, Int.pow_add]
/-- A slice that a call made itself: nil, or at the head of a row from block B on, its spare room in that row. -/
def Own (B : Nat) (w : World) (v : Value) (zs : List Int) : Prop :=
  WF zs ∧ ((v = .slice none 0 0 ∧ zs = []) ∨ ∃ g r, B ≤ g ∧ zs.length + r.length ≤ 35184372088832 ∧ v = .slice (some ⟨g, 0, none⟩) zs.length (zs.length + r.length) ∧ Row w g (ws zs ++ r))
theorem Own.form {B : Nat} {w : World} {v : Value} {zs : List Int} (h : Own B w v zs) : ∃ a cap, v = .slice a zs.length cap := by
  obtain ⟨_, ⟨h1, h2⟩ | ⟨g, r, _, _, h1, _⟩⟩ := h
  · subst h2; exact ⟨none, 0, h1⟩
  · exact ⟨_, _, h1⟩
theorem Own.sl {B : Nat} {w : World} {v : Value} {zs : List Int} (h : Own B w v zs) : Sl w.heap.size w v zs := by
  obtain ⟨hw, ⟨h1, h2⟩ | ⟨g, r, h1, h2, h3, h4⟩⟩ := h
  · subst h1 h2; exact Sl.nilAt w
  · subst h3
    exact h4.sl hw (by omega) h2 h4.lt
theorem Own.block {B : Nat} {w : World} {v : Value} {zs : List Int} (h : Own B w v zs) : ∀ k, v.ownBlock = some k → B ≤ k ∧ k < w.heap.size := by
  intro k hk
  obtain ⟨_, ⟨rfl, _⟩ | ⟨g, r, h1, h2, rfl, h4⟩⟩ := h
  · cases hk
  · simp [Value.ownBlock] at hk
    subst hk
    exact ⟨h1, h4.lt⟩
theorem head_add (g j : Nat) : (⟨g, 0, none⟩ : Addr).add j = ⟨g, j, none⟩ := by unfold Addr.add; split <;> simp_all
theorem mk_size (l : List UInt8) : (⟨l.toArray⟩ : ByteArray).size = l.length := by simp [ByteArray.size]
/-- The value of a sign, 99 of what is none. -/
def dv (c : Nat) : Nat := if 48 ≤ c ∧ c ≤ 57 then c - 48 else if 97 ≤ c ∧ c ≤ 122 then c - 87 else if 65 ≤ c ∧ c ≤ 90 then c - 55 else 99
def lw (c : Nat) : Nat := if 65 ≤ c ∧ c ≤ 90 then c + 32 else c
theorem dv_of {d c : Nat} (hd : d < 36) (h : sgn d = (lw c : Int)) : dv c = d := by
  unfold sgn lw at h
  unfold dv
  split at h <;> split at h <;> (repeat' split) <;> omega
theorem sgn_dv {c : Nat} (h : dv c < 36) : sgn (dv c) = (lw c : Int) := by
  unfold dv at h ⊢
  unfold sgn lw
  (repeat' split at h) <;> (repeat' split) <;> omega
/-- The digits that a text's bytes write. -/
def dsL (l : List UInt8) : List Nat := l.map fun b => dv b.toNat
def Good (B : Nat) (l : List UInt8) : Prop := ∀ b ∈ l, dv b.toNat < B
def dig (c : UInt8) : Bool := decide (48 ≤ c.toNat) && decide (c.toNat ≤ 57)
theorem dig_iff {c : UInt8} : dig c = true ↔ 48 ≤ c.toNat ∧ c.toNat ≤ 57 := by simp [dig]
/-- A byte in its place. -/
def OkAt (L : List UInt8) (i : Nat) : Prop := ∃ h : i < L.length, dig L[i] = true ∨ (L[i] = 95 ∧ 0 < i ∧ ∃ h2 : i + 1 < L.length, L[i - 1] ≠ 95 ∧ L[i + 1] ≠ 95)
def RefOk (L : List UInt8) : Prop := ∀ i, i < L.length → OkAt L i
/-- 2^16. -/
def dwB : Int := 65536
/-- A word. -/
def IsD (x : Int) : Prop := 0 ≤ x ∧ x < dwB
/-- A list of words. -/
def DF (xs : List Int) : Prop := ∀ x ∈ xs, IsD x
/-- The number that a list of words is. -/
def dval : List Int → Int
  | [] => 0
  | x :: r => x + dwB * dval r
/-- How many words are left without zero words at the high end. -/
def dwid : List Int → Nat
  | [] => 0
  | x :: r => if dwid r = 0 then (if x = 0 then 0 else 1) else dwid r + 1
/-- The place value of word i. -/
def dpw : Nat → Int
  | 0 => 1
  | n + 1 => dwB * dpw n
/-- In least form. -/
def DCanon (xs : List Int) : Prop := DF xs ∧ dwid xs = xs.length
theorem DF.nil : DF [] := fun x h => by cases h
theorem DF.cons {x : Int} {r : List Int} (hx : IsD x) (hr : DF r) : DF (x :: r) := by
  intro y hy; rcases List.mem_cons.1 hy with rfl | h
  · exact hx
  · exact hr y h
theorem DF.head {x : Int} {r : List Int} (h : DF (x :: r)) : IsD x := h x (by simp)
theorem DF.tail {x : Int} {r : List Int} (h : DF (x :: r)) : DF r := fun y hy => h y (by simp [hy])
theorem DF.take {xs : List Int} (h : DF xs) (n : Nat) : DF (xs.take n) := fun x hx => h x (List.mem_of_mem_take hx)
theorem DF.append {xs ys : List Int} (h : DF xs) (k : DF ys) : DF (xs ++ ys) := by
  intro x hx; rcases List.mem_append.1 hx with q | q
  · exact h x q
  · exact k x q
theorem DF.get {xs : List Int} (h : DF xs) {i : Nat} (hi : i < xs.length) : IsD xs[i] := h _ (List.getElem_mem hi)
theorem DF.set {xs : List Int} (h : DF xs) (i : Nat) {x : Int} (hx : IsD x) : DF (xs.set i x) := by
  intro y hy
  rcases List.mem_or_eq_of_mem_set hy with q | rfl
  · exact h y q
  · exact hx
theorem dval_nonneg : ∀ {xs : List Int}, DF xs → 0 ≤ dval xs
  | [], _ => by simp [dval]
  | x :: r, h => by
    have h1 := h.head; have h2 := dval_nonneg h.tail
    unfold IsD dwB at h1; unfold dval dwB; omega
theorem dwid_le : ∀ xs : List Int, dwid xs ≤ xs.length
  | [] => by simp [dwid]
  | x :: r => by
    have := dwid_le r
    unfold dwid; split
    · split <;> simp
    · simp; omega
theorem dwid_zero_val : ∀ xs : List Int, dwid xs = 0 → dval xs = 0
  | [], _ => rfl
  | x :: r, h => by
    unfold dwid at h
    split at h
    · rename_i h0
      have := dwid_zero_val r h0
      split at h
      · rename_i hx; simp [dval, hx, this]
      · cases h
    · cases h
/-- What is left of a list without zero words at the high end. -/
def dlst (xs : List Int) : List Int := xs.take (dwid xs)
theorem dlength_lst (xs : List Int) : (dlst xs).length = dwid xs := by unfold dlst; have := dwid_le xs; simp; omega
theorem dlst_cons (x : Int) (r : List Int) : dlst (x :: r) = if dwid r = 0 then (if x = 0 then [] else [x]) else x :: dlst r := by
  have e : dwid (x :: r) = if dwid r = 0 then (if x = 0 then 0 else 1) else dwid r + 1 := by rw [dwid]
  unfold dlst
  rw [e]
  split
  · split <;> simp
  · simp
theorem dval_lst : ∀ xs : List Int, dval (dlst xs) = dval xs
  | [] => rfl
  | x :: r => by
    rw [dlst_cons]
    split
    · rename_i h0
      have := dwid_zero_val r h0
      split
      · rename_i hx; simp [dval, hx, this]
      · simp [dval, this]
    · simp [dval, dval_lst r]
theorem dwid_lst : ∀ xs : List Int, dwid (dlst xs) = dwid xs
  | [] => rfl
  | x :: r => by
    rw [dlst_cons, dwid]
    split
    · split
      · rfl
      · rename_i hx; simp [dwid, hx]
    · rename_i h0
      rw [dwid, dwid_lst r, if_neg h0]
theorem dcanon_lst {xs : List Int} (h : DF xs) : DCanon (dlst xs) := ⟨h.take _, by rw [dwid_lst, dlength_lst]⟩
/-- The width is found from the top: zeros above n, and the word below n not 0. -/
theorem dwid_is : ∀ {xs : List Int} {n : Nat}, n ≤ xs.length → (∀ j (h : j < xs.length), n ≤ j → xs[j] = 0) → (0 < n → ∀ h' : n - 1 < xs.length, xs[n - 1] ≠ 0) → dwid xs = n
  | [], n, hn, _, _ => by simp at hn; simp [dwid, hn]
  | x :: r, 0, _, hz, _ => by
    have h0 : dwid r = 0 := dwid_is (Nat.zero_le _) (fun j h _ => by have := hz (j + 1) (by simpa using h) (by omega); simpa using this) (fun h => by omega)
    have hx : x = 0 := hz 0 (by simp) (by omega)
    simp [dwid, h0, hx]
  | x :: r, 1, _, hz, ht => by
    have h0 : dwid r = 0 := dwid_is (Nat.zero_le _) (fun j h _ => by have := hz (j + 1) (by simpa using h) (by omega); simpa using this) (fun h => by omega)
    have hx : x ≠ 0 := by simpa using ht (by omega) (by simp)
    simp [dwid, h0, hx]
  | x :: r, n + 2, hn, hz, ht => by
    have h0 : dwid r = n + 1 := by
      refine dwid_is (by simpa using hn) (fun j h hj => ?_) (fun _ h' => ?_)
      · have := hz (j + 1) (by simpa using h) (by omega); simpa using this
      · have := ht (by omega) (by simpa using h'); simpa using this
    simp [dwid, h0]
theorem dpw_pos : ∀ n, 0 < dpw n
  | 0 => by simp [dpw]
  | n + 1 => by have := dpw_pos n; unfold dpw dwB; omega
theorem dval_append : ∀ (xs ys : List Int), dval (xs ++ ys) = dval xs + dpw xs.length * dval ys
  | [], ys => by simp [dval, dpw]
  | x :: r, ys => by
    simp only [List.cons_append, List.length_cons, dval, dpw, dval_append r ys]
    rw [Int.mul_add, Int.mul_assoc]; omega
theorem dlst_get {xs : List Int} {j : Nat} (h : j < dwid xs) : (dlst xs)[j]'(by rw [dlength_lst]; exact h) = xs[j]'(by have := dwid_le xs; omega) := by simp [dlst]
theorem dwid_top : ∀ {xs : List Int} {n : Nat}, dwid xs = n + 1 → ∃ h : n < xs.length, xs[n] ≠ 0
  | [], n, h => by simp [dwid] at h
  | x :: r, n, h => by
    unfold dwid at h
    split at h
    · split at h
      · cases h
      · have : n = 0 := by omega
        subst this
        exact ⟨by simp, by simpa⟩
    · rename_i hr
      obtain ⟨m, hm⟩ : ∃ m, dwid r = m + 1 := ⟨dwid r - 1, by omega⟩
      obtain ⟨h1, h2⟩ := dwid_top hm
      have : n = m + 1 := by omega
      subst this
      exact ⟨by simpa using h1, by simpa using h2⟩
/-- A slice of numbers. -/
def SlI (B : Nat) (w : World) (v : Value) (ps : List Int) : Prop :=
  (∀ p ∈ ps, -9223372036854775808 ≤ p ∧ p ≤ 9223372036854775807) ∧ ∃ a cap, v = .slice a ps.length cap ∧ ps.length ≤ cap ∧ cap ≤ 35184372088832 ∧
    (ps = [] ∨ ∃ b off, a = some ⟨b, off, none⟩ ∧ b < B ∧ ∀ j (h : j < ps.length), w.cell? ⟨b, off + j, none⟩ = some (.int .i64 ps[j]))
theorem SlI.now {w w' : World} {v : Value} {xs : List Int} (h : SlI w.heap.size w v xs) (hb : Below w.heap.size w w') : SlI w'.heap.size w' v xs := by
  obtain ⟨h1, a, cap, h2, h3, h4, h5⟩ := h
  refine ⟨h1, a, cap, h2, h3, h4, ?_⟩
  rcases h5 with h5 | ⟨b, off, h6, h7, h8⟩
  · exact .inl h5
  · exact .inr ⟨b, off, h6, Nat.lt_of_lt_of_le h7 hb.size, fun j hj => (hb.cell (p := ⟨b, off + j, none⟩) h7).trans (h8 j hj)⟩
/-- Block g holds the cells L, none of them frozen. -/
def RowI (w : World) (g : Nat) (L : List Value) : Prop := w.heap[g]? = some (.cells L.toArray 3 (0, 0))
theorem RowI.lt {w : World} {g : Nat} {L : List Value} (h : RowI w g L) : g < w.heap.size := (Array.getElem?_eq_some_iff.1 h).1
theorem RowI.cell {w : World} {g : Nat} {L : List Value} (h : RowI w g L) {i : Nat} (hi : i < L.length) : w.cell? ⟨g, i, none⟩ = some L[i] := by
  unfold RowI at h
  simp [World.cell?, h, hi]
theorem RowI.frozen {w : World} {g : Nat} {L : List Value} (h : RowI w g L) (i : Nat) : w.frozen? ⟨g, i, none⟩ = false := by
  unfold RowI at h
  simp [World.frozen?, h]
theorem RowI.set {w : World} {g : Nat} {L : List Value} (h : RowI w g L) (i : Nat) (u : Value) : RowI (w.setCell ⟨g, i, none⟩ u) g (L.set i u) := by
  unfold RowI at h ⊢
  simp [World.setCell, Array.getElem?_modify, h]
theorem RowI.alloc {w : World} {g : Nat} {L : List Value} (h : RowI w g L) (o : Obj) : RowI (w.alloc o) g L := (Below.heap_alloc w o g h.lt).trans h
/-- The ints as cells. -/
def wi (xs : List Int) : List Value := xs.map (Value.int .i64)
theorem length_wi (xs : List Int) : (wi xs).length = xs.length := by simp [wi]
theorem wi_set (xs : List Int) (r : List Value) (i : Nat) (h : i < xs.length) (z : Int) : (wi xs ++ r).set i (.int .i64 z) = wi (xs.set i z) ++ r := by
  rw [List.set_append_left _ _ (by rw [length_wi]; exact h), wi, wi, List.map_set]
theorem RowI.num {w : World} {g : Nat} {xs : List Int} {r : List Value} (h : RowI w g (wi xs ++ r)) {i : Nat} (hi : i < xs.length) : w.cell? ⟨g, i, none⟩ = some (.int .i64 xs[i]) := by
  rw [h.cell (i := i) (by simp [length_wi]; omega)]
  simp [wi, hi]
theorem RowI.setNum {w : World} {g : Nat} {xs : List Int} {r : List Value} (h : RowI w g (wi xs ++ r)) {i : Nat} (hi : i < xs.length) (z : Int) : RowI (w.setCell ⟨g, i, none⟩ (.int .i64 z)) g (wi (xs.set i z) ++ r) := by
  rw [← wi_set xs r i hi]; exact h.set i _
theorem Tryd.infoI : (Tryd.prog.info? 3).map (fun i => (i.zero, i.size, i.bytes)) = some (some (.int .i64 0), 1, 8) := by kernel_rfl
/-- A row's head as a slice of ints. -/
theorem RowI.sl {w : World} {g : Nat} {xs : List Int} {r : List Value} (h : RowI w g (wi xs ++ r)) (hw : ∀ p ∈ xs, -9223372036854775808 ≤ p ∧ p ≤ 9223372036854775807) {cap : Nat} (hc : xs.length ≤ cap) (hm : cap ≤ 35184372088832) {B : Nat} (hB : g < B) :
    SlI B w (.slice (some ⟨g, 0, none⟩) xs.length cap) xs :=
  ⟨hw, _, cap, rfl, hc, hm, .inr ⟨g, 0, rfl, hB, fun j hj => by rw [Nat.zero_add]; exact h.num hj⟩⟩
theorem wpList_append_more (w : World) {ops : Array Oper} {rest : List Oper} {o : Oper} {a : Act} {Q : Exit → Act → World → Prop}
    (hg : o.guard = none) (s x : Operand) (hop : o.op = Op.call { callee := Callee.builtin Builtin.append, args := #[s, x], argTypes := #[48, 48] })
    (g n cap : Nat) (zs : List Int) (r : List Value) (c : Int) (hrow : Row w g (ws zs ++ r)) (hn : zs.length = n) (hr : 0 < r.length) (hcap : cap = n + r.length) (hs : a.eval s = .slice (some ⟨g, 0, none⟩) n cap)
    (ad : Addr) (hx : a.eval x = .slice (some ad) 1 1) (hc : w.cell? ad = some (.int .u64 c))
    (hK : ∀ w', Row w' g (ws (zs ++ [c]) ++ r.tail) → Below g w w' → wpList Tryd.prog ops Q rest (a.put o.dst (.slice (some ⟨g, 0, none⟩) (n + 1) cap)) w') :
    wpList Tryd.prog ops Q (o :: rest) a w := by
  obtain ⟨i, hi, hz, hsz, hb⟩ := info_parts Tryd.infoW
  subst hn
  have hlw : (ws zs).length = zs.length := by simp [ws]
  have hrun := run_append_room (P := Tryd.prog) w 48 o.type 79 i Tryd.underlying48 hi g zs.length cap (ws zs ++ r).toArray hrow ad 1 1 [.int .u64 c] (by simp [hsz])
    (by intro j u hj; match j, hj with | 0, hj => simp at hj; subst hj; simpa [Addr.add] using hc) (by intro u hu; simp at hu; subst hu; rfl) (by omega) (by simp [hsz, hlw]; omega)
  have e : (ws zs ++ r).take (zs.length * i.size) ++ [Value.int .u64 c] ++ (ws zs ++ r).drop (zs.length * i.size + 1) = ws (zs ++ [c]) ++ r.tail := by
    rw [hsz, Nat.mul_one, List.take_append_of_le_length (by omega), List.take_of_length_le (by omega), List.drop_append, List.drop_of_length_le (by omega), hlw, show zs.length + 1 - zs.length = 1 by omega]
    simp [ws]
  rw [List.toList_toArray, show [Value.int .u64 c].length = 1 from rfl, e] at hrun
  refine wpList_plain hg fun K hK' => ?_
  unfold Oper.wp
  simp [execOp, hop, resolve, invoke, builtin, hs, hx, hrun, Result.andThen]
  refine hK' _ _ (hK _ ?_ (below_setRow (Below.refl _ _) (Nat.le_refl _) _))
  unfold Row
  exact setRow_heap w g _ _ _ _ hrow
theorem dpw_four : ∀ k, dpw (4 * k) = pw k
  | 0 => rfl
  | k + 1 => by
    rw [show 4 * (k + 1) = 4 * k + 1 + 1 + 1 + 1 by omega, dpw, dpw, dpw, dpw, dpw_four k, pw]
    unfold dwB wB; omega
theorem split_step {zs : List Int} {n : Nat} {y T : Int} (hn : zs.length = n) (hd : DF zs) (hv : dval zs + dpw n * y = T) : DF (zs ++ [y % 65536]) ∧ dval (zs ++ [y % 65536]) + dpw (n + 1) * (y / 65536) = T := by
  refine ⟨hd.append (DF.cons (by unfold IsD dwB; omega) DF.nil), ?_⟩
  rw [dval_append, hn, dpw, ← hv]
  have h := Int.mul_ediv_add_emod y 65536
  have e : dpw n * y = dpw n * (y % 65536) + dwB * dpw n * (y / 65536) := by
    conv => lhs; rw [← h]
    rw [Int.mul_add, Int.mul_comm dwB, Int.mul_assoc, Int.add_comm]; rfl
  simp [dval]
  omega
theorem chunk3 {l : List Int} (h : DF l) (hl : l.length ≤ 3) : 0 ≤ dval l ∧ dval l ≤ 281474976710655 := by
  refine ⟨dval_nonneg h, ?_⟩
  match l, h, hl with
  | [], _, _ => simp [dval]
  | [a], h, _ => have h1 := h a (by simp); unfold IsD dwB at h1; simp [dval]; omega
  | [a, b], h, _ => have h1 := h a (by simp); have h2 := h b (by simp); unfold IsD dwB at h1 h2; simp [dval, dwB]; omega
  | [a, b, c], h, _ => have h1 := h a (by simp); have h2 := h b (by simp); have h3 := h c (by simp); unfold IsD dwB at h1 h2 h3; simp [dval, dwB]; omega
theorem DF.drop {xs : List Int} (h : DF xs) (n : Nat) : DF (xs.drop n) := fun x hx => h x (List.mem_of_mem_drop hx)
theorem chunk_next {D : List Int} (hD : DF D) {p n : Nat} : dval ((D.drop p).take (n + 1)) = D.getD p 0 + 65536 * dval ((D.drop (p + 1)).take n) ∧ 0 ≤ D.getD p 0 ∧ D.getD p 0 ≤ 65535 := by
  by_cases h : p < D.length
  · have hx := hD.get h
    unfold IsD dwB at hx
    rw [List.drop_eq_getElem_cons h, List.take_succ_cons, dval]
    have e : D.getD p 0 = D[p] := by simp [h]
    rw [e]
    exact ⟨rfl, by omega, by omega⟩
  · have e : D.getD p 0 = 0 := by simp [show D.length ≤ p by omega]
    rw [e, List.drop_of_length_le (by omega), List.drop_of_length_le (by omega)]
    simp [dval]
theorem join_step {D zs : List Int} {t : Nat} (hD : DF D) (hz : WF zs) (hl : zs.length = t) (ht : 4 * t < D.length) (hv : val zs = dval (D.take (4 * t))) {y : Int} (hy : y = dval ((D.drop (4 * t)).take 4)) :
    WF (zs ++ [y]) ∧ val (zs ++ [y]) = dval (D.take (4 * (t + 1))) := by
  obtain ⟨hc0, hc1, hc2⟩ := chunk_next hD (p := 4 * t) (n := 3)
  have hc : dval ((D.drop (4 * t)).take 4) = D.getD (4 * t) 0 + 65536 * dval ((D.drop (4 * t + 1)).take 3) := hc0
  have h3 := chunk3 ((hD.drop (4 * t + 1)).take 3) (by simp; omega)
  have hyw : IsW y := by unfold IsW wB; rw [hy]; omega
  refine ⟨hz.append (WF.cons hyw WF.nil), ?_⟩
  rw [val_append, hl, hv, show 4 * (t + 1) = 4 * t + 4 by omega, List.take_add, dval_append, List.length_take, Nat.min_eq_left (by omega), dpw_four, ← hy]
  simp [val]
theorem pw_mono {a b : Nat} (h : a ≤ b) : pw a ≤ pw b := by
  obtain ⟨c, rfl⟩ : ∃ c, b = a + c := ⟨b - a, by omega⟩
  rw [pw_add]
  have h1 := pw_pos a
  have h2 := pw_pos c
  have := Int.mul_le_mul_of_nonneg_left (show (1 : Int) ≤ pw c by omega) (Int.le_of_lt h1)
  omega
theorem canon_of_pw {zs : List Int} (hz : WF zs) {t : Nat} (hl : zs.length = t + 1) (h : pw t ≤ val zs) : Canon zs := by
  refine ⟨hz, ?_⟩
  have hle := wid_le zs
  by_cases e : wid zs = zs.length
  · exact e
  · exfalso
    have h1 := val_lt_pw (canon_lst hz).1
    rw [val_lst, length_lst] at h1
    have h2 := pw_mono (show wid zs ≤ t by omega)
    omega
theorem dcanon_ge {D : List Int} (h : DCanon D) {n : Nat} (hn : D.length = n + 1) : dpw n ≤ dval D := by
  obtain ⟨h1, h2⟩ := dwid_top (show dwid D = n + 1 by rw [h.2]; exact hn)
  have e : D = D.take n ++ [D[n]] := by rw [← List.take_succ_eq_append_getElem h1, ← hn, List.take_length]
  have hx := h.1.get h1
  have hp := dpw_pos n
  have h0 := dval_nonneg (h.1.take n)
  have hv : dval D = dval (D.take n) + dpw n * D[n] := by
    have q := dval_append (D.take n) [D[n]]
    rw [← e, List.length_take, Nat.min_eq_left (by omega)] at q
    rw [q]; simp [dval]
  have := Int.mul_le_mul_of_nonneg_left (show (1 : Int) ≤ D[n] by have := hx.1; omega) (Int.le_of_lt hp)
  rw [hv]; omega
theorem dpw_mono {a b : Nat} (h : a ≤ b) : dpw a ≤ dpw b := by
  induction h with
  | refl => exact Int.le_refl _
  | step _ ih => rw [dpw]; have := dpw_pos a; unfold dwB; omega
theorem join_canon {D zs : List Int} {t : Nat} (hD : DCanon D) (hz : WF zs) (hl : zs.length = t) (h1 : D.length ≤ 4 * t) (h2 : t = 0 ∨ 4 * (t - 1) < D.length) (hv : val zs = dval D) : Canon zs := by
  cases t with
  | zero => have : zs = [] := List.eq_nil_of_length_eq_zero hl; subst this; exact ⟨WF.nil, rfl⟩
  | succ t =>
    obtain ⟨n, hn⟩ : ∃ n, D.length = n + 1 := ⟨D.length - 1, by omega⟩
    refine canon_of_pw hz hl ?_
    rw [hv, ← dpw_four]
    exact Int.le_trans (dpw_mono (by omega)) (dcanon_ge hD hn)
/-- The bytes of the reference's table of signs. -/
def sigT : ByteArray := ⟨#[48, 49, 50, 51, 52, 53, 54, 55, 56, 57, 97, 98, 99, 100, 101, 102, 103, 104, 105, 106, 107, 108, 109, 110, 111, 112, 113, 114, 115, 116, 117, 118, 119, 120, 121, 122]⟩
theorem sigT_size : sigT.size = 36 := rfl
theorem sigT_at : ∀ d : Nat, d < 36 → ∀ h : d < sigT.size, ((sigT[d]'h).toNat : Int) = sgn d := by
  have key : ∀ d : Fin 36, ((sigT[d.1]'(by have := d.2; rw [sigT_size]; omega)).toNat : Int) = sgn d.1 := by decide
  intro d hd h
  exact key ⟨d, hd⟩
/-- The slice value v gathers the bytes L; its row lies from block B on. -/
def Byr (B : Nat) (w : World) (v : Value) (L : List Int) : Prop := w.ownsRow B 5 1 v L.length (bs L)
theorem Byr.nil (B : Nat) (w : World) : Byr B w (.slice none 0 0) [] := World.ownsRow_nil _ _ _ _
theorem Byr.keep {B : Nat} {w w' : World} {v : Value} {L : List Int} (h : Byr B w v L) (hb : ∀ g, B ≤ g → g < w.heap.size → w'.heap[g]? = w.heap[g]?) : Byr B w' v L := by
  obtain ⟨q1, q2 | ⟨g, cap, cur, q2, q3, q4, q5⟩⟩ := h
  · exact ⟨q1, .inl q2⟩
  · exact ⟨q1, .inr ⟨g, cap, cur, q2, q3, (hb g q3 (Array.getElem?_eq_some_iff.1 q4).1).trans q4, q5⟩⟩
theorem Byr.now {B : Nat} {w w' : World} {v : Value} {L : List Int} (h : Byr B w v L) (hb : Below w.heap.size w w') : Byr B w' v L := h.keep fun g _ hg => hb.block g hg
theorem Byr.form {B : Nat} {w : World} {v : Value} {L : List Int} (h : Byr B w v L) : ∃ a cap, v = .slice a L.length cap := by
  obtain ⟨q1, ⟨q2, q3⟩ | ⟨g, cap, cur, q2, _⟩⟩ := h
  · exact ⟨none, 0, by rw [q2, q3]⟩
  · exact ⟨_, cap, q2⟩
theorem Byr.cells {B : Nat} {w : World} {a : Option Addr} {n cap : Nat} {L : List Int} (h : Byr B w (.slice a n cap) L) (hn : 0 < L.length) : ∃ g, a = some ⟨g, 0, none⟩ ∧ n = L.length ∧ B ≤ g ∧ g < w.heap.size ∧ ∀ i, i < L.length → w.cell? ⟨g, i, none⟩ = some (.int .u8 (L.getD i 0)) := by
  have h' := h
  obtain ⟨q1, ⟨q2, q3⟩ | ⟨g, cap', cur, q2, q3, q4, q5⟩⟩ := h
  · omega
  · simp only [Value.slice.injEq] at q2
    obtain ⟨rfl, rfl, rfl⟩ := q2
    refine ⟨g, rfl, rfl, q3, (Array.getElem?_eq_some_iff.1 q4).1, fun i hi => ?_⟩
    have := World.ownsRow.cells h' (g := g) rfl i (.int .u8 L[i]) (by simp [bs, hi])
    rw [head_add] at this
    rw [this]
    simp [hi]
theorem wpList_append_byr (w : World) {ops : Array Oper} {rest : List Oper} {o : Oper} {a : Act} {Q : Exit → Act → World → Prop}
    (hgd : o.guard = none) (s x : Operand) (hop : o.op = .call { callee := .builtin .append, args := #[s, x], argTypes := #[61, 61] })
    (B : Nat) (v : Value) (L : List Int) (c : Int) (hs : a.eval s = v) (hB : Byr B w v L) (g : Nat) (hx : a.eval x = .slice (some ⟨g, 0, none⟩) 1 1) (hc : w.cell? ⟨g, 0, none⟩ = some (.int .u8 c)) (hlen : L.length ≤ 1000000000) (hBs : B ≤ w.heap.size)
    (hK : ∀ m a' cap' w', Hid (m = L.length + 1) → Hid (Byr B w' (.slice a' m cap') (L ++ [c])) → Hid (Below B w w') → wpList Tryd.prog ops Q rest (a.put o.dst (.slice a' m cap')) w') :
    wpList Tryd.prog ops Q (o :: rest) a w := by
  obtain ⟨i, hi, hz, hsz, hby⟩ := info_parts Tryd.infoB
  refine wpList_append_lies w hgd s x 61 hop B 5 i (.int .u8 0) 1 1 Tryd.underlying61 hi hz hsz hby rfl (by omega) v L.length (bs L) hs hB ⟨g, 0, none⟩ 1 1 [.int .u8 c] hx rfl ?_ ?_ (by omega) (by unfold maxLen; omega) (by omega) hBs w.heap.size rfl ?_
  · intro j u' hj
    match j, hj with
    | 0, hj => simp at hj; subst hj; rw [head_add]; exact hc
  · intro u' hu'
    simp at hu'
    subst hu'
    rfl
  · intro g' cap' w' k1 k2 k3 k4
    refine hK _ _ _ w' rfl ?_ ?_
    · unfold Hid Byr
      have e : bs (L ++ [c]) = bs L ++ [.int .u8 c] := by simp [bs]
      rw [e, List.length_append, List.length_singleton]
      exact k1
    · refine ⟨k2.os, k2.tape, k2.output, k2.size, fun k hk => k2.block k (by omega) (fun e => ?_)⟩
      obtain ⟨_, ⟨q, _⟩ | ⟨g1, cap1, cur, q, q3, _⟩⟩ := hB
      · rw [q] at e; cases e
      · rw [q] at e
        obtain rfl : k = g1 := by simpa [Value.ownBlock] using e
        omega
theorem alo4 (w : World) (o : Obj) : Below w.heap.size w (w.alloc o) ∧ (w.alloc o).heap.size = w.heap.size + 1 := ⟨(Below.refl _ _).alloc (Nat.le_refl _) _, by simp⟩
def Itr (B : Nat) (w : World) (v : Value) (ds : List Int) : Prop := w.ownsRow B 3 1 v ds.length (wi ds)
theorem Itr.nil (B : Nat) (w : World) : Itr B w (.slice none 0 0) [] := World.ownsRow_nil _ _ _ _
theorem Itr.now {B : Nat} {w w' : World} {v : Value} {ds : List Int} (h : Itr B w v ds) (hb : Below w.heap.size w w') : Itr B w' v ds := by
  obtain ⟨q1, q2 | ⟨g, cap, cur, q2, q3, q4, q5⟩⟩ := h
  · exact ⟨q1, .inl q2⟩
  · exact ⟨q1, .inr ⟨g, cap, cur, q2, q3, (hb.block g (Array.getElem?_eq_some_iff.1 q4).1).trans q4, q5⟩⟩
theorem Itr.form {B : Nat} {w : World} {v : Value} {ds : List Int} (h : Itr B w v ds) : ∃ a cap, v = .slice a ds.length cap := by
  obtain ⟨q1, ⟨q2, q3⟩ | ⟨g, cap, cur, q2, _⟩⟩ := h
  · exact ⟨none, 0, by rw [q2, q3]⟩
  · exact ⟨_, cap, q2⟩
theorem Itr.row {B : Nat} {w : World} {v : Value} {ds : List Int} (h : Itr B w v ds) (hn : 0 < ds.length) : ∃ g cap rest, v = .slice (some ⟨g, 0, none⟩) ds.length cap ∧ B ≤ g ∧ g < w.heap.size ∧ RowI w g (wi ds ++ rest) ∧ ds.length + rest.length = cap ∧ cap ≤ maxLen := by
  obtain ⟨q1, ⟨q2, q3⟩ | ⟨g, cap, cur, q2, q3, q4, q5, q6, q7, q8⟩⟩ := h
  · omega
  · rw [Nat.mul_one] at q7 q8
    refine ⟨g, cap, cur.toList.drop ds.length, q2, q3, (Array.getElem?_eq_some_iff.1 q4).1, ?_, ?_, q6⟩
    · unfold RowI
      rw [← q8, List.take_append_drop]
      simpa using q4
    · have e : cur.toList.length = cap := by simp [q7]
      rw [List.length_drop, e]
      omega
theorem Itr.of {B : Nat} {w : World} {g cap : Nat} {ds : List Int} {rest : List Value} (hB : B ≤ g) (hr : RowI w g (wi ds ++ rest)) (hc : ds.length + rest.length = cap) (hm : cap ≤ maxLen) : Itr B w (.slice (some ⟨g, 0, none⟩) ds.length cap) ds := by
  refine ⟨by simp [wi], .inr ⟨g, cap, (wi ds ++ rest).toArray, rfl, hB, hr, by omega, hm, ?_, ?_⟩⟩
  · simp [wi]; omega
  · simp [wi]
theorem wpList_append_itr (w : World) {ops : Array Oper} {rest : List Oper} {o : Oper} {a : Act} {Q : Exit → Act → World → Prop}
    (hgd : o.guard = none) (s x : Operand) (hop : o.op = .call { callee := .builtin .append, args := #[s, x], argTypes := #[70, 70] })
    (B : Nat) (v : Value) (L : List Int) (c : Int) (hs : a.eval s = v) (hB : Itr B w v L) (g : Nat) (hx : a.eval x = .slice (some ⟨g, 0, none⟩) 1 1) (hc : w.cell? ⟨g, 0, none⟩ = some (.int .i64 c)) (hlen : L.length ≤ 1000000000) (hBs : B ≤ w.heap.size)
    (hK : ∀ a' cap' w', Hid (Itr B w' (.slice a' (L.length + 1) cap') (L ++ [c])) → Hid (Below B w w') → wpList Tryd.prog ops Q rest (a.put o.dst (.slice a' (L.length + 1) cap')) w') :
    wpList Tryd.prog ops Q (o :: rest) a w := by
  obtain ⟨i, hi, hz, hsz, hby⟩ := info_parts Tryd.infoI
  refine wpList_append_lies w hgd s x 70 hop B 3 i (.int .i64 0) 1 8 Tryd.underlying70 hi hz hsz hby rfl (by omega) v L.length (wi L) hs hB ⟨g, 0, none⟩ 1 1 [.int .i64 c] hx rfl ?_ ?_ (by omega) (by unfold maxLen; omega) (by omega) hBs w.heap.size rfl ?_
  · intro j u' hj
    match j, hj with
    | 0, hj => simp at hj; subst hj; rw [head_add]; exact hc
  · intro u' hu'
    simp at hu'
    subst hu'
    rfl
  · intro g' cap' w' k1 k2 k3 k4
    refine hK _ _ w' ?_ ?_
    · unfold Hid Itr
      have e : wi (L ++ [c]) = wi L ++ [.int .i64 c] := by simp [wi]
      rw [e, List.length_append, List.length_singleton]
      exact k1
    · refine ⟨k2.os, k2.tape, k2.output, k2.size, fun k hk => k2.block k (by omega) (fun e => ?_)⟩
      obtain ⟨_, ⟨q, _⟩ | ⟨g1, cap1, cur, q, q3, _⟩⟩ := hB
      · rw [q] at e; cases e
      · rw [q] at e
        obtain rfl : k = g1 := by simpa [Value.ownBlock] using e
        omega
theorem dval_take4 {ds : List Int} {i : Nat} (h : i < ds.length) : dval (ds.take (i + 1)) = dval (ds.take i) + dpw i * ds[i] := by
  rw [List.take_succ_eq_append_getElem h, dval_append]
  simp [dval, Nat.min_eq_left (Nat.le_of_lt h)]
/-- One digit of onto. -/
theorem onto_step {es ds : List Int} {i : Nat} {B v0 c x : Int} (hi : i < ds.length) (hx : ds[i] = x) (hl : es.length = i) (hd : DF es) (he : dval es + dpw i * c = B * dval (ds.take i) + v0) :
    DF (es ++ [(x * B + c) % 65536]) ∧ dval (es ++ [(x * B + c) % 65536]) + dpw (i + 1) * ((x * B + c) / 65536) = B * dval (ds.take (i + 1)) + v0 := by
  refine split_step hl hd ?_
  rw [dval_take4 hi, hx]
  generalize dval (ds.take i) = T at *
  generalize dpw i = P at *
  generalize dval es = E at *
  grind
theorem set_mid {es ds : List Int} {i : Nat} {z : Int} (hl : es.length = i) (hi : i < ds.length) : (es ++ ds.drop i).set i z = es ++ [z] ++ ds.drop (i + 1) := by
  have e := List.drop_eq_getElem_cons hi
  rw [List.set_append_right _ _ (by omega), hl, Nat.sub_self, e, List.set_cons_zero, List.append_assoc]
  rfl
/-- value: of a digit sign. -/
def ValH (w : World) (c : Nat) (gk : Nat) (s3 : Value) (wx : World) : Prop := ∃ i : Nat, gk = 36 - i ∧ s3 = .int .i64 (i : Int) ∧ i ≤ 36 ∧ (∀ e, e < i → sgn e ≠ (c : Int)) ∧ wx = w
set_option maxRecDepth 100000 in
set_option maxHeartbeats 1600000 in
theorem value_any {c : Nat} (hc : c < 256) (w : World) : Calls Tryd.prog 41 #[.int .u8 (c : Int)] w fun e w' => e = .returned (.int .i64 (dv c : Int)) ∧ w' = w := by
  by_cases hu : 65 ≤ c ∧ c ≤ 90
  · have e : dv c = c - 55 := by unfold dv; rw [if_neg (by omega), if_neg (by omega), if_pos hu]
    rw [e]
    obtain ⟨h1, h2⟩ := hu
    have h1' : (65 : Int) ≤ (c : Int) := by omega
    have h2' : (c : Int) ≤ 90 := by omega
    have w1 : IntKind.u8.wrap ((c : Int) - 65) = (c : Int) - 65 := by rw [IntKind.wrap_u8]; omega
    have w2 : IntKind.i64.wrap ((c : Int) - 65) = (c : Int) - 65 := by rw [wrap_is] <;> omega
    have w3 : IntKind.i64.wrap ((c : Int) - 65 + 10) = ((c - 55 : Nat) : Int) := by rw [wrap_is] <;> omega
    clear e
    go_enter Tryd.func41, Tryd.ntmps41
    go_wp2
    go_ret
    exact ⟨rfl, rfl⟩
  · have H0 : Hid (ValH w c 36 (.int .i64 0) w) := ⟨0, rfl, rfl, by omega, fun e h => absurd h (Nat.not_lt_zero _), rfl⟩
    have HLW : Hid (lw c = c) := by unfold Hid lw; rw [if_neg hu]
    by_cases h65 : 65 ≤ c
    · have h1' : (65 : Int) ≤ (c : Int) := by omega
      have h2' : ¬ (c : Int) ≤ 90 := by omega
      clear hu h65
      go_enter Tryd.func41, Tryd.ntmps41
      go_wp2_with fail
      go_loopg [3] 36 (fun gk s3 wx => ValH w c gk s3 wx)
      case atStart => exact H0.out
      case round =>
        clear H0
        obtain ⟨i, hgk, rfl, hi, hall, hwx⟩ := hrel
        rw [hwx]
        have HG := hid hgk
        have HA := hid hall
        clear hgk hall hwx
        by_cases hlt : i < 36
        · have hlt' : (i : Int) < 36 := by omega
          have hq := sigT_at i hlt (by rw [sigT_size]; exact hlt)
          unfold sigT at hq
          have hw3 : IntKind.i64.wrap ((i : Int) + 1) = ((i + 1 : Nat) : Int) := by rw [wrap_is] <;> omega
          by_cases hs : sgn i = (c : Int)
          · have hb : (sgn i == (c : Int)) = true := by simp [hs]
            have HD : Hid (dv c = i) := dv_of hlt (by rw [HLW.out]; exact hs)
            clear hs HG HA
            generalize sgn i = sv at *
            go_wp2
            go_ret
            exact ⟨by rw [HD.out]; rfl, rfl⟩
          · have hb : (sgn i == (c : Int)) = false := by simp [hs]
            have HN1 : Hid (ValH w c (36 - (i + 1)) (.int .i64 ((i + 1 : Nat) : Int)) w) := ⟨i + 1, rfl, rfl, by omega, fun e he => by
              by_cases q : e = i
              · rw [q]; exact hs
              · exact HA.out e (by omega), rfl⟩
            have HMM : Hid (36 - (i + 1) < gk) := by unfold Hid; rw [HG.out]; omega
            clear hs HG HA
            generalize sgn i = sv at *
            go_wp2_with fail
            go_roundg (36 - (i + 1))
            case rel => exact HN1.out
            case measure => exact HMM.out
        · have hlt' : ¬ (i : Int) < 36 := by omega
          have HD : Hid (dv c = 99) := by
            unfold Hid
            have h1 : ¬ dv c < 36 := fun h => HA.out (dv c) (by omega) (by rw [sgn_dv h, HLW.out])
            unfold dv at h1 ⊢
            split <;> (try split) <;> (try split) <;> simp_all <;> omega
          clear HG HA
          go_wp2
          go_ret
          exact ⟨by rw [HD.out]; rfl, rfl⟩
    · have h1' : ¬ (65 : Int) ≤ (c : Int) := by omega
      clear hu h65
      go_enter Tryd.func41, Tryd.ntmps41
      go_wp2_with fail
      go_loopg [3] 36 (fun gk s3 wx => ValH w c gk s3 wx)
      case atStart => exact H0.out
      case round =>
        clear H0
        obtain ⟨i, hgk, rfl, hi, hall, hwx⟩ := hrel
        rw [hwx]
        have HG := hid hgk
        have HA := hid hall
        clear hgk hall hwx
        by_cases hlt : i < 36
        · have hlt' : (i : Int) < 36 := by omega
          have hq := sigT_at i hlt (by rw [sigT_size]; exact hlt)
          unfold sigT at hq
          have hw3 : IntKind.i64.wrap ((i : Int) + 1) = ((i + 1 : Nat) : Int) := by rw [wrap_is] <;> omega
          by_cases hs : sgn i = (c : Int)
          · have hb : (sgn i == (c : Int)) = true := by simp [hs]
            have HD : Hid (dv c = i) := dv_of hlt (by rw [HLW.out]; exact hs)
            clear hs HG HA
            generalize sgn i = sv at *
            go_wp2
            go_ret
            exact ⟨by rw [HD.out]; rfl, rfl⟩
          · have hb : (sgn i == (c : Int)) = false := by simp [hs]
            have HN1 : Hid (ValH w c (36 - (i + 1)) (.int .i64 ((i + 1 : Nat) : Int)) w) := ⟨i + 1, rfl, rfl, by omega, fun e he => by
              by_cases q : e = i
              · rw [q]; exact hs
              · exact HA.out e (by omega), rfl⟩
            have HMM : Hid (36 - (i + 1) < gk) := by unfold Hid; rw [HG.out]; omega
            clear hs HG HA
            generalize sgn i = sv at *
            go_wp2_with fail
            go_roundg (36 - (i + 1))
            case rel => exact HN1.out
            case measure => exact HMM.out
        · have hlt' : ¬ (i : Int) < 36 := by omega
          have HD : Hid (dv c = 99) := by
            unfold Hid
            have h1 : ¬ dv c < 36 := fun h => HA.out (dv c) (by omega) (by rw [sgn_dv h, HLW.out])
            unfold dv at h1 ⊢
            split <;> (try split) <;> (try split) <;> simp_all <;> omega
          clear HG HA
          go_wp2
          go_ret
          exact ⟨by rw [HD.out]; rfl, rfl⟩
def OntH (w : World) (Bk : Nat) (a : Option Addr) (n cap : Nat) (ds : List Int) (b : Nat) (v0 : Int) (gk : Nat) (s2 s7 : Value) (wx : World) : Prop :=
  ∃ (i : Nat) (c : Int) (es : List Int), gk = n - i ∧ s2 = .int .i64 c ∧ s7 = .int .i64 (i : Int) ∧ i ≤ n ∧ 0 ≤ c ∧ c < (b : Int) ∧ es.length = i ∧ DF es ∧ dval es + dpw i * c = (b : Int) * dval (ds.take i) + v0 ∧ Itr Bk wx (.slice a n cap) (es ++ ds.drop i) ∧ Below Bk w wx
def Ontoed (w : World) (Bk : Nat) (ds : List Int) (b : Nat) (v0 : Int) (e : Ending) (w' : World) : Prop :=
  ∃ a n cap ds', e = .returned (.slice a n cap) ∧ Itr Bk w' (.slice a n cap) ds' ∧ ds'.length = n ∧ DF ds' ∧ dval ds' = (b : Int) * dval ds + v0 ∧ ds'.length ≤ ds.length + 1 ∧ Below Bk w w'
set_option maxRecDepth 100000 in
set_option maxHeartbeats 1600000 in
theorem onto_any {w : World} {Bk n cap b : Nat} {a : Option Addr} {ds : List Int} {v0 : Int} (h : Itr Bk w (.slice a n cap) ds) (hn : ds.length = n) (hd : DF ds) (hb : 2 ≤ b) (hb2 : b ≤ 36) (h0 : 0 ≤ v0) (h1 : v0 < (b : Int)) (hl : n ≤ 100000000) (hB : Bk ≤ w.heap.size) :
    Calls Tryd.prog 42 #[.slice a n cap, .int .i64 (b : Int), .int .i64 v0] w (Ontoed w Bk ds b v0) := by
  have HN := hid hn
  have HD := hid hd
  have HB := hid hB
  have H0 : Hid (OntH w Bk a n cap ds b v0 n (.int .i64 v0) (.int .i64 0) w) := ⟨0, v0, [], by omega, rfl, rfl, Nat.zero_le _, h0, h1, rfl, DF.nil, by simp [dval, dpw], by simpa using h, Below.refl _ _⟩
  clear h hn hd hB
  go_enter Tryd.func42, Tryd.ntmps42
  go_wp2_with fail
  go_loopg [2, 7] n (fun gk s2 s7 wx => OntH w Bk a n cap ds b v0 gk s2 s7 wx)
  case atStart => exact H0.out
  case round =>
    clear H0 h0 h1
    obtain ⟨i, c, es, hgk, rfl, rfl, hi, hc0, hc1, hel, hed, hev, hit, hbl⟩ := hrel
    have HG := hid hgk
    have HBL := hid hbl
    have HED := hid hed
    have HEV := hid hev
    have HEL := hid hel
    clear hgk hbl hed hev hel
    by_cases hlt : i < n
    · have hlt' : (i : Int) < (n : Int) := by omega
      have hid_ : i < ds.length := by rw [HN.out]; exact hlt
      have hLl : (es ++ ds.drop i).length = n := by rw [List.length_append, HEL.out, List.length_drop, HN.out]; omega
      obtain ⟨g, cap', rest, he, hg, hgl, hrow, hcp, hcm⟩ := hit.row (by rw [hLl]; omega)
      simp only [Value.slice.injEq] at he
      obtain ⟨rfl, -, rfl⟩ := he
      have c0 := hrow.num (i := i) (by rw [hLl]; omega)
      have e0 : (es ++ ds.drop i)[i]'(by rw [hLl]; omega) = ds[i] := by
        rw [List.getElem_append_right (by rw [HEL.out]; exact Nat.le_refl _)]
        simp [HEL.out]
      rw [e0] at c0
      have f0 := hrow.frozen i
      have hx := HD.out.get hid_
      have HST := hid (onto_step (x := ds[i]) hid_ rfl HEL.out HED.out HEV.out)
      have HSN : Hid (∀ z, Itr Bk (wr.setCell ⟨g, i, none⟩ (.int .i64 z)) (.slice (some ⟨g, 0, none⟩) n cap) ((es ++ [z]) ++ ds.drop (i + 1))) := fun z => by
        have q := hrow.setNum (i := i) (by rw [hLl]; omega) z
        rw [set_mid HEL.out hid_] at q
        have hl2 : (es ++ [z] ++ ds.drop (i + 1)).length = n := by rw [List.length_append, List.length_append, HEL.out, List.length_drop, HN.out]; simp; omega
        have r := Itr.of (cap := cap) hg q (by rw [hl2]; rw [hLl] at hcp; exact hcp) hcm
        rw [hl2] at r
        exact r
      generalize ds[i] = x at *
      unfold IsD dwB at hx
      obtain ⟨hx0, hx1⟩ := hx
      have hxb0 : 0 ≤ x * (b : Int) := Int.mul_nonneg hx0 (by omega)
      have hxb1 : x * (b : Int) ≤ 65535 * (b : Int) := Int.mul_le_mul_of_nonneg_right (by omega) (by omega)
      have hw1 : IntKind.i64.wrap (x * (b : Int)) = x * (b : Int) := by rw [wrap_is] <;> omega
      have hw2 : IntKind.i64.wrap (x * (b : Int) + c) = x * (b : Int) + c := by rw [wrap_is] <;> omega
      have E1 : Hid (wrap64 (x * (b : Int) + c) = x * (b : Int) + c) := by unfold Hid wrap64; omega
      have E0 : Hid (wrap64 (x * (b : Int)) = x * (b : Int)) := by unfold Hid wrap64; omega
      have hw3 : IntKind.i64.wrap ((i : Int) + 1) = ((i + 1 : Nat) : Int) := by rw [wrap_is] <;> omega
      have HSB : Hid (0 ≤ (x * (b : Int) + c) / 65536 ∧ (x * (b : Int) + c) / 65536 < (b : Int)) := ⟨by omega, by omega⟩
      have HN1 : Hid (OntH w Bk (some ⟨g, 0, none⟩) n cap ds b v0 (n - (i + 1)) (.int .i64 ((x * (b : Int) + c) / 65536)) (.int .i64 ((i + 1 : Nat) : Int)) (wr.setCell ⟨g, i, none⟩ (.int .i64 ((x * (b : Int) + c) % 65536)))) :=
        ⟨i + 1, _, _, rfl, rfl, rfl, by omega, HSB.out.1, HSB.out.2, by rw [List.length_append, HEL.out]; rfl, HST.out.1, HST.out.2, HSN.out _, HBL.out.setCell (p := ⟨g, i, none⟩) hg _⟩
      have HMM : Hid (n - (i + 1) < gk) := by unfold Hid; rw [HG.out]; omega
      have hs0 : 0 ≤ x * (b : Int) + c := by omega
      have hs1 : x * (b : Int) + c ≤ 9223372036854775807 := by omega
      obtain ⟨sv, hsv⟩ : ∃ sv, x * (b : Int) + c = sv := ⟨_, rfl⟩
      rw [hsv] at hw2 E1 HN1 hs0 hs1
      have HSV := hid hsv
      have hq1 : sv.tdiv 65536 = sv / 65536 := Int.tdiv_eq_ediv_of_nonneg hs0
      have hq2 : sv.tmod 65536 = sv % 65536 := Int.tmod_eq_emod_of_nonneg hs0
      have hwq : IntKind.i64.wrap (sv / 65536) = sv / 65536 := by rw [wrap_is] <;> omega
      have hwr : IntKind.i64.wrap (sv % 65536) = sv % 65536 := by rw [wrap_is] <;> omega
      have E2 : Hid (wrap64 (sv.tdiv 65536) = sv / 65536) := by unfold Hid; rw [hq1]; unfold wrap64; omega
      have E3 : Hid ((i : Int) + 1 = ((i + 1 : Nat) : Int)) := by unfold Hid; omega
      have E4 : Hid (sv.tmod 65536 = sv % 65536) := hq2
      clear hrow hLl e0 hid_ HST HSN HEL HED HEV HG HSB hcp hcm hit HBL hxb0 hxb1 hsv hc0 hc1 hx0 hx1
      go_wp2_with fail
      go_roundg (n - (i + 1))
      case rel =>
        rw [HSV.out, E1.out, E2.out, E3.out, E4.out]
        exact HN1.out
      case measure => exact HMM.out
    · have hlt' : ¬ (i : Int) < (n : Int) := by omega
      obtain rfl : i = n := by omega
      rw [List.drop_of_length_le (by rw [HN.out]; exact Nat.le_refl _), List.append_nil] at hit
      have HIT := hid hit
      have HEV2 : Hid (dval es + dpw i * c = (b : Int) * dval ds + v0) := by
        have q := HEV.out
        rw [List.take_of_length_le (by rw [HN.out]; exact Nat.le_refl _)] at q
        exact q
      clear hit HEV HG
      by_cases hcz : 0 < c
      · have HCC : Hid (∀ z : Int, (wr.alloc (.cells #[.int .i64 z] 3)).cell? ⟨wr.heap.size, 0, none⟩ = some (.int .i64 z)) := fun z => by simp
        have HI4 : Hid (∀ z : Int, Itr Bk (wr.alloc (.cells #[.int .i64 z] 3)) (.slice a i cap) es) := fun z => HIT.out.now (alo4 wr _).1
        have HBQ : Hid (∀ z : Int, Bk ≤ (wr.alloc (.cells #[.int .i64 z] 3)).heap.size) := fun z => Nat.le_trans (Nat.le_trans HB.out HBL.out.size) (alo4 wr _).1.size
        have HLL : Hid (es.length ≤ 1000000000) := by unfold Hid; rw [HEL.out]; omega
        have HBW : Hid (∀ (z : Int) w', Below Bk (wr.alloc (.cells #[.int .i64 z] 3)) w' → Below Bk w w') := fun z w' h => (HBL.out.alloc (Nat.le_trans HB.out HBL.out.size) _).trans h
        clear HBL HIT
        go_wp2_with (at_builtin; refine wpList_append_itr _ rfl (.tmp 32) (.tmp 34) rfl Bk _ es c rfl (HI4.out _) wr.heap.size rfl (HCC.out _) HLL.out (HBQ.out _) ?_)
        intro a5 cap5 w5 hi5 hb5
        have FIN : Hid (Ontoed w Bk ds b v0 (.returned (.slice a5 (es.length + 1) cap5)) w5) := ⟨a5, _, cap5, es ++ [c], rfl, hi5.out, by simp, HED.out.append (DF.cons ⟨by omega, by unfold dwB; omega⟩ DF.nil), by
          rw [dval_append, HEL.out, ← HEV2.out]
          simp [dval], by rw [List.length_append, HEL.out, HN.out]; exact Nat.le_refl _, HBW.out _ _ hb5.out⟩
        clear hi5 hb5 HCC HI4 HBQ HLL HBW
        obtain ⟨m5, hm5⟩ : ∃ m5, es.length + 1 = m5 := ⟨_, rfl⟩
        rw [hm5] at FIN ⊢
        clear hm5
        go_wp2
        go_ret
        exact FIN.out
      · have hc' : c = 0 := by omega
        have FIN : Hid (Ontoed w Bk ds b v0 (.returned (.slice a i cap)) wr) := ⟨a, i, cap, es, rfl, HIT.out, HEL.out, HED.out, by rw [← HEV2.out, hc']; simp, by rw [HEL.out, HN.out]; omega, HBL.out⟩
        clear HIT HBL HED HEV2 hc'
        go_wp2
        go_ret
        exact FIN.out
/-- A slice of numbers, whatever its room. -/
def SlJ (B : Nat) (w : World) (v : Value) (ps : List Int) : Prop :=
  (∀ p ∈ ps, -9223372036854775808 ≤ p ∧ p ≤ 9223372036854775807) ∧ ps.length ≤ 35184372088832 ∧ ∃ a cap, v = .slice a ps.length cap ∧ ps.length ≤ cap ∧
    (ps = [] ∨ ∃ b off, a = some ⟨b, off, none⟩ ∧ b < B ∧ ∀ j (h : j < ps.length), w.cell? ⟨b, off + j, none⟩ = some (.int .i64 ps[j]))
set_option maxHeartbeats 400000 in
theorem trim_j {B : Nat} {w : World} {v : Value} {xs : List Int} (h : SlJ B w v xs) :
    Calls Tryd.prog 51 #[v] w fun e w' => ∃ r, e = .returned r ∧ SlJ B w r (dlst xs) ∧ w' = w := by
  have hs := h
  obtain ⟨hw, hcm, a, cap, rfl, hlc, hm⟩ := h
  have HW : Hid (∀ n : Nat, n ≤ xs.length → (∀ j (h : j < xs.length), n ≤ j → xs[j] = 0) → (0 < n → ∀ h' : n - 1 < xs.length, xs[n - 1] ≠ 0) → dwid xs = n) := fun n h1 h2 h3 => dwid_is h1 h2 h3
  have HF : Hid (∀ n, dwid xs = n → SlJ B w (.slice a n cap) (dlst xs)) := fun n hn => by
    subst hn
    have l := dwid_le xs
    refine ⟨fun p hp => hw p (List.mem_of_mem_take hp), by rw [dlength_lst]; omega, a, cap, by rw [dlength_lst], by rw [dlength_lst]; omega, ?_⟩
    rcases hm with rfl | ⟨b, off, h1, h2, h3⟩
    · exact .inl rfl
    · refine .inr ⟨b, off, h1, h2, fun j hj => ?_⟩
      rw [dlength_lst] at hj
      rw [h3 j (by omega), dlst_get hj]
  have HM := hid hm
  clear hs
  go_enter Tryd.func51, Tryd.ntmps51
  go_wp2
  go_loop [3] (fun i => ∃ n : Nat, n ≤ xs.length ∧ i = .int .i64 n ∧ ∀ j (h : j < xs.length), n ≤ j → xs[j] = 0) (fun i => (intOf i).toNat)
  case atStart => exact ⟨xs.length, Nat.le_refl _, rfl, fun j h h' => by omega⟩
  case round =>
    obtain ⟨n, hn, rfl, hz⟩ := hrel
    have HZ := hid hz
    clear hz hm
    by_cases h0 : n = 0
    · subst h0
      go_wp2
      go_ret
      exact ⟨_, rfl, HF.out 0 (HW.out 0 (by omega) HZ.out (by omega)), rfl⟩
    · obtain ⟨k, rfl⟩ : ∃ k, n = k + 1 := ⟨n - 1, by omega⟩
      rcases HM.out with rfl | ⟨b, off, rfl, hb, hc⟩
      · simp at hn
      · have hk : k < xs.length := by omega
        have hck := hc k hk
        obtain ⟨x, hx⟩ : ∃ x, x = xs[k] := ⟨_, rfl⟩
        rw [← hx] at hck
        have HX : Hid (x = xs[k]) := hx
        clear hx hc h0
        by_cases hx0 : x = 0
        · have ht : (x == 0) = true := by simp [hx0]
          go_wp2
          go_round
          case rel =>
            refine ⟨k, by omega, rfl, fun j h hj => ?_⟩
            by_cases e : j = k
            · subst e; rw [← HX.out]; exact hx0
            · exact HZ.out j h (by omega)
          case measure => simp [intOf]
        · have ht : (x == 0) = false := by simp [hx0]
          go_wp2
          go_ret
          exact ⟨_, rfl, HF.out (k + 1) (HW.out (k + 1) hn HZ.out (fun _ h' => by have := HX.out; simp at h' ⊢; rw [← this]; exact hx0)), rfl⟩
set_option maxHeartbeats 3200000 in
theorem join_j {w : World} {v : Value} {ds : List Int} (h : SlJ w.heap.size w v ds) (hd : DF ds) :
    Calls Tryd.prog 43 #[v] w fun e w' => ∃ zs r, e = .returned r ∧ Own w.heap.size w' r zs ∧ Canon zs ∧ val zs = dval ds ∧ Below w.heap.size w w' := by
  have HT := hid (trim_j h)
  have HDC := hid (dcanon_lst hd)
  have HDV := hid (dval_lst ds)
  clear h hd
  generalize dlst ds = D at *
  go_enter Tryd.func43, Tryd.ntmps43
  go_wp2_with fail
  refine HT.out.mono ?_
  rintro e w1 ⟨rv, rfl, hs, rfl⟩
  clear HT
  obtain ⟨hw, hcm, a, cap, rfl, hlc, hm⟩ := hs
  have HM := hid hm
  clear hm hw
  go_wp2_with (at_make; refine wpList_make_words _ rfl _ _ rfl _ _ 0 (D.length / 4 + 1) rfl rfl rfl (by omega) (by omega) (by omega) ?_)
  intro w2 hrow hb2 hsz2
  have hhs : w1.heap.size < w2.heap.size := by have := hsz2.out; omega
  clear hsz2
  go_wp2_with fail
  go_loopw [3, 4] (fun l i wr => ∃ (t : Nat) (zs : List Int) (r : List Value), Hid (t = 0 ∨ 4 * (t - 1) < D.length) ∧ t ≤ D.length ∧ i = .int .i64 ((4 * t : Nat) : Int) ∧ l = .slice (some ⟨w1.heap.size, 0, none⟩) t (D.length / 4 + 1) ∧ Hid (zs.length = t) ∧ Hid (r.length + t = D.length / 4 + 1) ∧ Hid (WF zs) ∧ Hid (val zs = dval (D.take (4 * t))) ∧
      Row wr w1.heap.size (ws zs ++ r) ∧ Below w1.heap.size w1 wr ∧ w1.heap.size < wr.heap.size) (fun _ i _ => D.length - (intOf i).toNat)
  case atStart => exact ⟨0, [], ws (List.replicate (D.length / 4 + 1) 0), .inl rfl, Nat.zero_le _, rfl, rfl, rfl, (by unfold Hid; simp [length_ws]), WF.nil, rfl, (by simpa [ws] using hrow), hb2, hhs⟩
  case round =>
    clear hrow hb2 hhs
    obtain ⟨t, zs, r, HT4, htl, rfl, rfl, HL, HR, HWZ, HV, hr, hb, hhs⟩ := hrel
    by_cases hlt : 4 * t < D.length
    · rcases HM.out with e | ⟨b, off, rfl, hbg, hc⟩
      · subst e; simp at hlt
      have HC : Hid (∀ p, p < D.length → wr.cell? ⟨b, off + p, none⟩ = some (.int .i64 (D.getD p 0))) := fun p hp => by
        rw [show D.getD p 0 = D[p] by simp [hp]]
        exact (hb.cell (p := ⟨b, off + p, none⟩) hbg).trans (hc p hp)
      clear hc
      have hlti : ((4 * t : Nat) : Int) < (D.length : Int) := by omega
      go_wp2_with fail
      go_loop [5, 6] (fun y i => ∃ (j : Nat) (yy : Int), j ≤ 4 ∧ i = .int .i64 ((j : Int) - 1) ∧ y = .int .u64 yy ∧ Hid (yy = dval ((D.drop (4 * t + j)).take (4 - j)))) (fun _ i => (intOf i + 1).toNat)
      case atStart => exact ⟨4, 0, Nat.le_refl _, rfl, rfl, (by unfold Hid; simp [dval])⟩
      case round =>
        obtain ⟨j, yy, hj, rfl, rfl, HY⟩ := hrel
        by_cases hj0 : j = 0
        · subst hj0
          have hrp : 0 < r.length := by have := HR.out; omega
          have hst := hid (join_step HDC.out.1 HWZ.out HL.out hlt HV.out (y := yy) (by rw [HY.out]; simp))
          go_wp2_with (at_builtin; refine wpList_append_more _ rfl (.tmp 41) (.tmp 43) rfl w1.heap.size t (D.length / 4 + 1) zs r yy (hr.alloc _) HL.out hrp (by have := HR.out; omega) rfl ⟨wr.heap.size, 0, none⟩ rfl (by simp) ?_)
          intro w5 hr5 hb5
          have hb15 := hid ((hb.alloc (Nat.le_of_lt hhs) _).trans hb5)
          have hhs5 : w1.heap.size < w5.heap.size := by have := hb5.size; simp at this; omega
          have HL5 : Hid ((zs ++ [yy]).length = t + 1) := by unfold Hid; simp; exact HL.out
          have HR5 : Hid (r.tail.length + (t + 1) = D.length / 4 + 1) := by unfold Hid; simp; have := HR.out; omega
          clear hb5 hr hb HL HR HV HC HY
          go_wp2
          go_roundw
          case rel => exact ⟨t + 1, _, r.tail, .inr (by simpa using hlt), by omega, by go_num, rfl, HL5, HR5, hst.out.1, hst.out.2, hr5, hb15.out, hhs5⟩
          case measure => simp [intOf]; omega
        · obtain ⟨q, rfl⟩ : ∃ q, j = q + 1 := ⟨j - 1, by omega⟩
          have hcn := chunk_next HDC.out.1 (p := 4 * t + q) (n := 4 - (q + 1))
          have h3 := chunk3 ((HDC.out.1.drop (4 * t + (q + 1))).take (4 - (q + 1))) (by simp; omega)
          rw [← HY.out] at h3
          rw [show 4 * t + q + 1 = 4 * t + (q + 1) by omega, ← HY.out, show 4 - (q + 1) + 1 = 4 - q by omega] at hcn
          obtain ⟨hc1, hd0, hd1⟩ := hcn
          have HC1 := hid hc1
          have hz : ¬ 4 * t + q < D.length → D.getD (4 * t + q) 0 = 0 := fun h => by simp [show D.length ≤ 4 * t + q by omega]
          have hcell := HC.out (4 * t + q)
          generalize D.getD (4 * t + q) 0 = d at *
          obtain ⟨hy0, hy1⟩ := h3
          clear hc1 hj0
          by_cases hin : 4 * t + q < D.length
          · have hcl := hcell hin
            clear hcell hz
            have hi1 : ((4 * t : Nat) : Int) + (q : Int) < (D.length : Int) := by omega
            go_wp2
            go_round
            case rel => exact ⟨q, _, by omega, rfl, rfl, (by unfold Hid; rw [HC1.out]; omega)⟩
            case measure => simp [intOf]
          · have hz0 := hid (hz hin)
            clear hcell hz
            have hi1 : ¬ ((4 * t : Nat) : Int) + (q : Int) < (D.length : Int) := by omega
            go_wp2
            go_round
            case rel => exact ⟨q, _, by omega, rfl, rfl, (by unfold Hid; rw [HC1.out, hz0.out]; omega)⟩
            case measure => simp [intOf]
    · have hnlt : ¬ ((4 * t : Nat) : Int) < (D.length : Int) := by omega
      go_wp2
      go_ret
      have hv : val zs = dval D := by rw [HV.out, List.take_of_length_le (by omega)]
      refine ⟨zs, _, rfl, ⟨HWZ.out, .inr ⟨w1.heap.size, r, Nat.le_refl _, ?_, ?_, hr⟩⟩, join_canon HDC.out HWZ.out HL.out (by omega) HT4.out hv, by rw [hv, HDV.out], hb⟩
      · have h1 := HL.out; have h2 := HR.out; omega
      · have h1 := HL.out
        have h2 := HR.out
        show Value.slice _ t (D.length / 4 + 1) = _
        rw [h1, show t + r.length = D.length / 4 + 1 by omega]
/-- What the reference's Read answers, in a base that is one. -/
def RRPost (w : World) (B : Nat) (l : List UInt8) (e : Ending) (w' : World) : Prop :=
  ((l ≠ [] ∧ Good B l) ∧ ∃ zs a c, e = .returned (.tuple #[.slice a zs.length c, .int .i64 0]) ∧ Sl w'.heap.size w' (.slice a zs.length c) zs ∧ Canon zs ∧ vn zs = ofD B (dsL l) ∧ Below w.heap.size w w') ∨
  (¬ (l ≠ [] ∧ Good B l) ∧ e = .returned (.tuple #[.slice none 0 0, .int .i64 7]) ∧ Below w.heap.size w w')
def RdH (w : World) (B : Nat) (l : List UInt8) (n gk : Nat) (s6 s7 : Value) (wx : World) : Prop :=
  ∃ (k : Nat) (a : Option Addr) (m cap : Nat) (ds : List Int), gk = n - k ∧ s6 = .slice a m cap ∧ s7 = .int .i64 (k : Int) ∧ k ≤ n ∧ Itr w.heap.size wx (.slice a m cap) ds ∧ ds.length = m ∧ m ≤ k ∧ DF ds ∧ dval ds = ((ofD B ((dsL l).take k) : Nat) : Int) ∧ (∀ j (h : j < l.length), j < k → dv l[j].toNat < B) ∧ Below w.heap.size w wx
theorem ofD_take {B : Nat} {l : List UInt8} {k : Nat} (h : k < l.length) : ofD B ((dsL l).take (k + 1)) = ofD B ((dsL l).take k) * B + dv l[k].toNat := by
  have hl : k < (dsL l).length := by simp [dsL]; exact h
  have e : (dsL l)[k] = dv l[k].toNat := by simp [dsL]
  rw [List.take_succ_eq_append_getElem hl, ofD_snoc, e]
set_option maxRecDepth 100000 in
set_option maxHeartbeats 3200000 in
theorem rread_any {w : World} {B : Nat} {l : List UInt8} (hB : 2 ≤ B) (hB2 : B ≤ 36) (hl : l.length ≤ 100000000) :
    Calls Tryd.prog 32 #[.string ⟨l.toArray⟩, .int .i64 (B : Int)] w (RRPost w B l) := by
  have b1 : ¬ (B : Int) < 2 := by omega
  have b2 : ¬ (36 : Int) < (B : Int) := by omega
  by_cases hl0 : l = []
  · subst hl0
    go_enter Tryd.func32, Tryd.ntmps32
    go_wp2
    go_ret2
    exact .inr ⟨fun q => q.1 rfl, rfl, Below.refl _ _⟩
  · obtain ⟨s, hs⟩ : ∃ s, s = (⟨l.toArray⟩ : ByteArray) := ⟨_, rfl⟩
    obtain ⟨n, hn⟩ : ∃ n, l.length = n := ⟨_, rfl⟩
    have hsz : s.size = n := by rw [hs, mk_size, hn]
    have HBT : Hid (∀ i (h : i < l.length) (h' : i < s.size), s[i]'h' = l[i]) := by unfold Hid; subst hs; intro i h h'; rfl
    have hem : s.toList.isEmpty = false := by
      have e : s.toList = l := by rw [hs, Lib.toList_data]
      rw [e]; simpa using hl0
    have HNE := hid hl0
    have HN := hid hn
    rw [hn] at hl
    rw [← hs]
    clear hs hn hl0
    have H0 : Hid (RdH w B l n n (.slice none 0 0) (.int .i64 0) w) := ⟨0, none, 0, 0, [], by omega, rfl, rfl, Nat.zero_le _, Itr.nil _ _, rfl, Nat.le_refl _, DF.nil, by simp [ofD, dval], fun j _ h => absurd h (Nat.not_lt_zero _), Below.refl _ _⟩
    go_enter Tryd.func32, Tryd.ntmps32
    go_wp2_with fail
    go_loopg [6, 7] n (fun gk s6 s7 wx => RdH w B l n gk s6 s7 wx)
    case atStart => exact H0.out
    case round =>
      clear H0
      obtain ⟨k, a, m, cap, ds, hgk, rfl, rfl, hk, hit, hml, hmk, hdf, hdv, hgd, hbl⟩ := hrel
      have HG := hid hgk
      have HIT := hid hit
      have HML := hid hml
      have HDF := hid hdf
      have HDV := hid hdv
      have HGD := hid hgd
      have HBL := hid hbl
      clear hgk hit hml hdf hdv hgd hbl
      by_cases hlt : k < n
      · have hlt' : (k : Int) < (n : Int) := by omega
        have hks : k < s.size := by omega
        have hkl : k < l.length := by rw [HN.out]; exact hlt
        have hw3 : IntKind.i64.wrap ((k : Int) + 1) = ((k + 1 : Nat) : Int) := by rw [wrap_is] <;> omega
        have HCH : Hid (s[k]'hks = l[k]) := HBT.out k hkl hks
        obtain ⟨c, hc⟩ : ∃ c, l[k] = c := ⟨_, rfl⟩
        have HC := hid hc
        rw [hc] at HCH
        have HOT := hid (ofD_take (B := B) hkl)
        rw [hc] at HOT
        have HVA : Hid (Calls Tryd.prog 41 #[.int .u8 ((s[k]'hks).toNat : Int)] wr fun e w' => e = .returned (.int .i64 (dv c.toNat : Int)) ∧ w' = wr) := by
          unfold Hid
          rw [HCH.out]
          exact value_any c.toNat_lt wr
        clear hc HCH
        obtain ⟨v, hv⟩ : ∃ v, dv c.toNat = v := ⟨_, rfl⟩
        rw [hv] at HVA HOT
        have HV := hid hv
        clear hv
        go_wp2_with fail
        refine HVA.out.mono ?_
        rintro e w2 ⟨rfl, q⟩
        rw [q]
        clear q HVA
        by_cases hvb : v < B
        · have hvb' : ¬ (B : Int) ≤ (v : Int) := by omega
          have HON := hid (onto_any (v0 := (v : Int)) HIT.out HML.out HDF.out hB hB2 (by omega) (by omega) (by omega) HBL.out.size)
          have HNX : Hid (∀ e w', Ontoed wr w.heap.size ds B (v : Int) e w' → ∃ a' m' cap', e = .returned (.slice a' m' cap') ∧ RdH w B l n (n - (k + 1)) (.slice a' m' cap') (.int .i64 ((k + 1 : Nat) : Int)) w') := fun e w' h => by
            obtain ⟨a', m', cap', ds', h1, h2, h3, h4, h5, h6, h7⟩ := h
            refine ⟨a', m', cap', h1, k + 1, a', m', cap', ds', rfl, rfl, rfl, by omega, h2, h3, by have := HML.out; omega, h4, ?_, fun j hj hjk => ?_, HBL.out.trans h7⟩
            · rw [h5, HDV.out, HOT.out]
              push_cast
              rw [Int.mul_comm]
            · by_cases e : j = k
              · subst e
                rw [HC.out, HV.out]
                exact hvb
              · exact HGD.out j hj (by omega)
          have HMM : Hid (n - (k + 1) < gk) := by unfold Hid; rw [HG.out]; omega
          clear HIT HML HDF HDV HGD HBL HOT HC HV HG hvb
          go_wp2_with fail
          refine HON.out.mono ?_
          intro e w4 h4
          obtain ⟨a', m', cap', rfl, hn4⟩ := HNX.out e w4 h4
          have HN4 := hid hn4
          clear h4 hn4 HNX HON
          go_wp2_with fail
          go_roundg (n - (k + 1))
          case rel => exact HN4.out
          case measure => exact HMM.out
        · have hvb' : (B : Int) ≤ (v : Int) := by omega
          have HNG : Hid (¬ (l ≠ [] ∧ Good B l)) := fun q => by
            have := q.2 l[k] (List.getElem_mem hkl)
            rw [HC.out, HV.out] at this
            exact hvb this
          clear HIT HML HDF HDV HGD HOT HC HV HG hvb
          go_wp2
          go_ret2
          exact .inr ⟨HNG.out, rfl, HBL.out⟩
      · have hlt' : ¬ (k : Int) < (n : Int) := by omega
        obtain rfl : k = n := by omega
        have HGO : Hid (Good B l) := fun b hb => by
          obtain ⟨j, hj, rfl⟩ := List.getElem_of_mem hb
          exact HGD.out j hj (by rw [HN.out] at hj; exact hj)
        have hdl : (dsL l).take k = dsL l := List.take_of_length_le (by rw [show (dsL l).length = l.length by simp [dsL], HN.out]; exact Nat.le_refl _)
        rw [hdl] at HDV
        have HSL : Hid (SlJ wr.heap.size wr (.slice a m cap) ds) := by
          refine ⟨fun p hp => by have := HDF.out p hp; unfold IsD dwB at this; omega, by have := HML.out; omega, ?_⟩
          by_cases hm0 : 0 < ds.length
          · obtain ⟨g, cap', rest, he, hg, hgl, hrow, hcp, hcm⟩ := HIT.out.row hm0
            exact ⟨_, cap', he, by omega, .inr ⟨g, 0, rfl, hgl, fun j hj => by rw [Nat.zero_add]; exact hrow.num hj⟩⟩
          · have hd0 : ds = [] := List.eq_nil_of_length_eq_zero (by omega)
            exact ⟨a, cap, by rw [HML.out], by omega, .inl hd0⟩
        have HJ := hid (join_j HSL.out HDF.out)
        have HVN : Hid (∀ zs : List Int, WF zs → val zs = dval ds → vn zs = ofD B (dsL l)) := fun zs hz hv => by
          have e := val_vn hz
          rw [hv, HDV.out] at e
          exact_mod_cast e.symm
        clear HSL HIT HML HDV HGD HG hdl
        go_wp2_with fail
        refine HJ.out.mono ?_
        rintro e w3 ⟨zs, r, rfl, ho, hcn, hvl, hb3⟩
        have FIN : Hid (∃ a' c', r = .slice a' zs.length c' ∧ Sl w3.heap.size w3 (.slice a' zs.length c') zs) := by
          have q := ho.sl
          obtain ⟨h1, a', c', e', h2⟩ := id q
          exact ⟨a', c', e', by rw [← e']; exact q⟩
        obtain ⟨a', c', hr, hsl⟩ := FIN.out
        rw [hr]
        have HS := hid hsl
        have HCN := hid hcn
        have HVL := hid (HVN.out zs hcn.1 hvl)
        have HB3 := hid (below_step HBL.out hb3)
        clear FIN hr hsl hcn hvl hb3 ho HJ HVN HBL HDF
        go_wp2
        go_ret2
        exact .inl ⟨⟨HNE.out, HGO.out⟩, zs, a', c', rfl, HS.out, HCN.out, HVL.out, HB3.out⟩
theorem str_of_bytes (L : List UInt8) : strOfNums (L.map fun b => (b.toNat : Int)) = ⟨L.toArray⟩ := by
  unfold strOfNums
  rw [List.map_map]
  have e : (L.map ((fun n : Int => UInt8.ofNat n.toNat) ∘ fun b : UInt8 => (b.toNat : Int))) = L := by
    conv => rhs; rw [← List.map_id L]
    apply List.map_congr_left
    intro b _
    simp
  rw [e]
def RGRPost (w : World) (L : List UInt8) (e : Ending) (w' : World) : Prop :=
  (RefOk L ∧ RRPost w 10 (L.filter dig) e w') ∨ (¬ RefOk L ∧ e = .returned (.tuple #[.slice none 0 0, .int .i64 7]) ∧ Below w.heap.size w w')
def RGRH (w : World) (L : List UInt8) (n gk : Nat) (s4 s5 : Value) (wx : World) : Prop :=
  ∃ k : Nat, gk = n - k ∧ s5 = .int .i64 (k : Int) ∧ k ≤ n ∧ (∀ j, j < k → OkAt L j) ∧ Byr w.heap.size wx s4 (((L.take k).filter dig).map fun b => (b.toNat : Int)) ∧ Below w.heap.size w wx
theorem rrPost_step {w w1 : World} {B : Nat} {l : List UInt8} {e : Ending} {w' : World} (b : Below w.heap.size w w1) (h : RRPost w1 B l e w') : RRPost w B l e w' := by
  rcases h with ⟨g, zs, a, c, h1, h2, h3, h4, h5⟩ | ⟨g, h1, h2⟩
  · exact .inl ⟨g, zs, a, c, h1, h2, h3, h4, below_step b h5⟩
  · exact .inr ⟨g, h1, below_step b h2⟩
theorem filt_next {L : List UInt8} {k : Nat} (h : k < L.length) : (L.take (k + 1)).filter dig = (L.take k).filter dig ++ (if dig L[k] = true then [L[k]] else []) := by
  rw [List.take_succ_eq_append_getElem h, List.filter_append]
  congr 1
  simp only [List.filter_cons, List.filter_nil]
theorem convert_nil (w : World) : (convert 61 9 (.slice none 0 0)).run Tryd.prog w = .ok (.string ⟨#[]⟩) w := by
  rw [run_convert_bytes_string w 61 9 5 _ 0 0 Tryd.underlying61 Tryd.underlying5 Tryd.underlying9]
  rfl
set_option maxRecDepth 100000 in
set_option maxHeartbeats 12800000 in
theorem rreadGrouped_any {w : World} {L : List UInt8} (hl : L.length ≤ 1048576) :
    Calls Tryd.prog 23 #[.string ⟨L.toArray⟩] w (RGRPost w L) := by
  obtain ⟨s, hs⟩ : ∃ s, s = (⟨L.toArray⟩ : ByteArray) := ⟨_, rfl⟩
  obtain ⟨n, hn⟩ : ∃ n, L.length = n := ⟨_, rfl⟩
  have hsz : s.size = n := by rw [hs, mk_size, hn]
  have HBT : Hid (∀ i (h : i < L.length) (h' : i < s.size), s[i]'h' = L[i]) := by unfold Hid; subst hs; intro i h h'; rfl
  have HN := hid hn
  rw [hn] at hl
  rw [← hs]
  clear hs hn
  have H0 : Hid (RGRH w L n n (.slice none 0 0) (.int .i64 0) w) := ⟨0, by omega, rfl, Nat.zero_le _, fun j h => absurd h (Nat.not_lt_zero _), by simpa using Byr.nil w.heap.size w, Below.refl _ _⟩
  go_enter Tryd.func23, Tryd.ntmps23
  go_wp2_with fail
  go_loopg [4, 5] n (fun gk s4 s5 wx => RGRH w L n gk s4 s5 wx)
  case atStart => exact H0.out
  case round =>
    clear H0
    obtain ⟨k, hgk, rfl, hk, hok, hby, hbl⟩ := hrel
    have HG := hid hgk
    have HOK := hid hok
    have HBY := hid hby
    have HBL := hid hbl
    clear hgk hok hby hbl
    by_cases hlt : k < n
    · have hlt' : (k : Int) < (n : Int) := by omega
      have hks : k < s.size := by omega
      have hkl : k < L.length := by rw [HN.out]; exact hlt
      have hw3 : IntKind.i64.wrap ((k : Int) + 1) = ((k + 1 : Nat) : Int) := by rw [wrap_is] <;> omega
      have HCH : Hid (s[k]'hks = L[k]) := HBT.out k hkl hks
      have HMM : Hid (n - (k + 1) < gk) := by unfold Hid; rw [HG.out]; omega
      have HCC : Hid (∀ (c : Int), (wr.alloc (.cells #[.int .u8 c] 5)).cell? ⟨wr.heap.size, 0, none⟩ = some (.int .u8 c)) := fun c => by simp
      have HB4 : Hid (∀ (c : Int), Byr w.heap.size (wr.alloc (.cells #[.int .u8 c] 5)) u4 (((L.take k).filter dig).map fun b => (b.toNat : Int))) := fun c => HBY.out.now (alo4 wr _).1
      have HBQ : Hid (∀ (c : Int), w.heap.size ≤ (wr.alloc (.cells #[.int .u8 c] 5)).heap.size) := fun c => Nat.le_trans HBL.out.size (alo4 wr _).1.size
      have HBW : Hid (∀ (c : Int) w', Below w.heap.size (wr.alloc (.cells #[.int .u8 c] 5)) w' → Below w.heap.size w w') := fun c w' h => (HBL.out.alloc HBL.out.size _).trans h
      have HLL : Hid ((((L.take k).filter dig).map fun b => (b.toNat : Int)).length ≤ 1000000000) := by unfold Hid; rw [List.length_map]; have h1 := List.length_filter_le dig (L.take k); rw [List.length_take] at h1; omega
      -- what comes of it: told ahead of the cases
      have HNXD : Hid (dig (s[k]'hks) = true → ∀ v w', Byr w.heap.size w' v ((((L.take k).filter dig).map fun b => (b.toNat : Int)) ++ [((s[k]'hks).toNat : Int)]) → Below w.heap.size w w' → RGRH w L n (n - (k + 1)) v (.int .i64 ((k + 1 : Nat) : Int)) w') := fun hd v w' h1 h2 => by
        rw [HCH.out] at hd h1
        refine ⟨k + 1, rfl, rfl, by omega, fun j hj => ?_, ?_, h2⟩
        · by_cases e : j = k
          · subst e; exact ⟨hkl, .inl hd⟩
          · exact HOK.out j (by omega)
        · rw [filt_next hkl, if_pos hd, List.map_append]
          exact h1
      have HNXM : Hid (OkAt L k → dig (s[k]'hks) = false → RGRH w L n (n - (k + 1)) u4 (.int .i64 ((k + 1 : Nat) : Int)) wr) := fun ho hd => by
        rw [HCH.out] at hd
        refine ⟨k + 1, rfl, rfl, by omega, fun j hj => ?_, ?_, HBL.out⟩
        · by_cases e : j = k
          · subst e; exact ho
          · exact HOK.out j (by omega)
        · rw [filt_next hkl, if_neg (by simp [hd]), List.append_nil]
          exact HBY.out
      have HBAD : Hid (¬ OkAt L k → RGRPost w L (.returned (.tuple #[.slice none 0 0, .int .i64 7])) wr) := fun ho => .inr ⟨fun q => ho (q k hkl), rfl, HBL.out⟩
      have HAT : Hid (OkAt L k ↔ (dig (s[k]'hks) = true ∨ (s[k]'hks = 95 ∧ 0 < k ∧ ∃ h2 : k + 1 < s.size, s[k - 1]'(by omega) ≠ 95 ∧ s[k + 1]'h2 ≠ 95))) := by
        unfold Hid OkAt
        constructor
        · rintro ⟨_, q | ⟨q1, q2, q3, q4, q5⟩⟩
          · exact .inl (by rw [HCH.out]; exact q)
          · exact .inr ⟨by rw [HCH.out]; exact q1, q2, by rw [hsz, ← HN.out]; exact q3, by rw [HBT.out (k - 1) (by omega) (by omega)]; exact q4, by rw [HBT.out (k + 1) q3 (by rw [hsz, ← HN.out]; exact q3)]; exact q5⟩
        · rintro (q | ⟨q1, q2, q3, q4, q5⟩)
          · exact ⟨hkl, .inl (by rw [← HCH.out]; exact q)⟩
          · have q3' : k + 1 < L.length := by rw [HN.out, ← hsz]; exact q3
            exact ⟨hkl, .inr ⟨by rw [← HCH.out]; exact q1, q2, q3', by rw [← HBT.out (k - 1) (by omega) (by omega)]; exact q4, by rw [← HBT.out (k + 1) q3' q3]; exact q5⟩⟩
      clear HBY HBL HOK HCH HG
      by_cases hk0 : k = 0
      · have hk0' : ¬ (0 : Int) < (k : Int) := by omega
        have HNB : Hid (¬ 0 < k) := by unfold Hid; omega
        clear hk0
        by_cases h48 : 48 ≤ (s[k]'hks).toNat
        · have h48' : (48 : Int) ≤ ((s[k]'hks).toNat : Int) := by omega
          by_cases h57 : (s[k]'hks).toNat ≤ 57
          · have h57' : ((s[k]'hks).toNat : Int) ≤ 57 := by omega
            have HDG : Hid (dig (s[k]'hks) = true) := dig_iff.2 ⟨h48, h57⟩
            clear h48 h57
            replace HNXD := hid (HNXD.out HDG.out)
            clear HNXM HBAD HAT
            go_wp2_with (at_builtin; refine wpList_append_byr _ rfl (.tmp 60) (.tmp 64) rfl w.heap.size _ (((L.take k).filter dig).map fun b => (b.toNat : Int)) _ rfl (HB4.out _) wr.heap.size rfl (HCC.out _) HLL.out (HBQ.out _) ?_)
            intro m6 a6 cap6 w6 hm6 hby6 hbw6
            have HN1 := hid (HNXD.out _ _ hby6.out (HBW.out _ _ hbw6.out))
            clear hm6 hby6 hbw6 HNXD HCC HB4 HBQ HBW HLL
            go_wp2_with fail
            go_roundg (n - (k + 1))
            case rel => exact HN1.out
            case measure => exact HMM.out
          · have h57' : ¬ ((s[k]'hks).toNat : Int) ≤ 57 := by omega
            have HDG : Hid (dig (s[k]'hks) = false) := by unfold Hid dig; simp; omega
            by_cases h95 : (s[k]'hks).toNat = 95
            · have h95' : (((s[k]'hks).toNat : Int) != 95) = false := by simp; omega
              have HNOT : Hid (¬ (dig (s[k]'hks) = true ∨ (s[k]'hks = 95 ∧ 0 < k ∧ ∃ h2 : k + 1 < s.size, s[k - 1]'(by omega) ≠ 95 ∧ s[k + 1]'h2 ≠ 95))) := by
                rintro (q | ⟨q1, q2, q3, q4, q5⟩)
                · rw [HDG.out] at q; cases q
                · exact HNB.out q2
              clear h48 h57 h95
              replace HBAD := hid (HBAD.out (fun q => HNOT.out (HAT.out.1 q)))
              clear HNXD HNXM HAT HCC HB4 HBQ HBW HLL
              go_wp2
              go_ret2
              exact HBAD.out
            · have h95' : (((s[k]'hks).toNat : Int) != 95) = true := by simp; omega
              have HNOT : Hid (¬ (dig (s[k]'hks) = true ∨ (s[k]'hks = 95 ∧ 0 < k ∧ ∃ h2 : k + 1 < s.size, s[k - 1]'(by omega) ≠ 95 ∧ s[k + 1]'h2 ≠ 95))) := by
                rintro (q | q)
                · rw [HDG.out] at q; cases q
                · exact h95 (by rw [q.1]; rfl)
              clear h48 h57 h95
              replace HBAD := hid (HBAD.out (fun q => HNOT.out (HAT.out.1 q)))
              clear HNXD HNXM HAT HCC HB4 HBQ HBW HLL
              go_wp2
              go_ret2
              exact HBAD.out
        · have h48' : ¬ (48 : Int) ≤ ((s[k]'hks).toNat : Int) := by omega
          have HDG : Hid (dig (s[k]'hks) = false) := by unfold Hid dig; simp; omega
          have h95' : (((s[k]'hks).toNat : Int) != 95) = true := by simp; omega
          have HNOT : Hid (¬ (dig (s[k]'hks) = true ∨ (s[k]'hks = 95 ∧ 0 < k ∧ ∃ h2 : k + 1 < s.size, s[k - 1]'(by omega) ≠ 95 ∧ s[k + 1]'h2 ≠ 95))) := by
            rintro (q | q)
            · rw [HDG.out] at q; cases q
            · have := congrArg UInt8.toNat q.1
              simp at this
              omega
          clear h48
          replace HBAD := hid (HBAD.out (fun q => HNOT.out (HAT.out.1 q)))
          clear HNXD HNXM HAT HCC HB4 HBQ HBW HLL
          go_wp2
          go_ret2
          exact HBAD.out
      · have hk0' : (0 : Int) < (k : Int) := by omega
        have HK0 : Hid (0 < k) := by unfold Hid; omega
        have hw4 : IntKind.i64.wrap ((k : Int) - 1) = ((k - 1 : Nat) : Int) := by rw [wrap_is] <;> omega
        have hkm : k - 1 < s.size := by omega
        have hkm' : ((k - 1 : Nat) : Int) < (n : Int) := by omega
        by_cases hk2 : k + 1 < n
        · have hk2' : ((k + 1 : Nat) : Int) < (n : Int) := by omega
          have hk2s : k + 1 < s.size := by omega
          by_cases hp : (s[k - 1]'hkm).toNat = 95
          · have hp' : (((s[k - 1]'hkm).toNat : Int) != 95) = false := by simp; omega
            have HNB : Hid (¬ s[k - 1]'hkm ≠ 95) := fun q => q (UInt8.toNat_inj.1 hp)
            clear hk0 hp
            by_cases h48 : 48 ≤ (s[k]'hks).toNat
            · have h48' : (48 : Int) ≤ ((s[k]'hks).toNat : Int) := by omega
              by_cases h57 : (s[k]'hks).toNat ≤ 57
              · have h57' : ((s[k]'hks).toNat : Int) ≤ 57 := by omega
                have HDG : Hid (dig (s[k]'hks) = true) := dig_iff.2 ⟨h48, h57⟩
                clear h48 h57
                replace HNXD := hid (HNXD.out HDG.out)
                clear HNXM HBAD HAT
                go_wp2_with (at_builtin; refine wpList_append_byr _ rfl (.tmp 60) (.tmp 64) rfl w.heap.size _ (((L.take k).filter dig).map fun b => (b.toNat : Int)) _ rfl (HB4.out _) wr.heap.size rfl (HCC.out _) HLL.out (HBQ.out _) ?_)
                intro m6 a6 cap6 w6 hm6 hby6 hbw6
                have HN1 := hid (HNXD.out _ _ hby6.out (HBW.out _ _ hbw6.out))
                clear hm6 hby6 hbw6 HNXD HCC HB4 HBQ HBW HLL
                go_wp2_with fail
                go_roundg (n - (k + 1))
                case rel => exact HN1.out
                case measure => exact HMM.out
              · have h57' : ¬ ((s[k]'hks).toNat : Int) ≤ 57 := by omega
                have HDG : Hid (dig (s[k]'hks) = false) := by unfold Hid dig; simp; omega
                by_cases h95 : (s[k]'hks).toNat = 95
                · have h95' : (((s[k]'hks).toNat : Int) != 95) = false := by simp; omega
                  have HNOT : Hid (¬ (dig (s[k]'hks) = true ∨ (s[k]'hks = 95 ∧ 0 < k ∧ ∃ h2 : k + 1 < s.size, s[k - 1]'(by omega) ≠ 95 ∧ s[k + 1]'h2 ≠ 95))) := by
                    rintro (q | ⟨q1, q2, q3, q4, q5⟩)
                    · rw [HDG.out] at q; cases q
                    · exact HNB.out q4
                  clear h48 h57 h95
                  replace HBAD := hid (HBAD.out (fun q => HNOT.out (HAT.out.1 q)))
                  clear HNXD HNXM HAT HCC HB4 HBQ HBW HLL
                  go_wp2
                  go_ret2
                  exact HBAD.out
                · have h95' : (((s[k]'hks).toNat : Int) != 95) = true := by simp; omega
                  have HNOT : Hid (¬ (dig (s[k]'hks) = true ∨ (s[k]'hks = 95 ∧ 0 < k ∧ ∃ h2 : k + 1 < s.size, s[k - 1]'(by omega) ≠ 95 ∧ s[k + 1]'h2 ≠ 95))) := by
                    rintro (q | q)
                    · rw [HDG.out] at q; cases q
                    · exact h95 (by rw [q.1]; rfl)
                  clear h48 h57 h95
                  replace HBAD := hid (HBAD.out (fun q => HNOT.out (HAT.out.1 q)))
                  clear HNXD HNXM HAT HCC HB4 HBQ HBW HLL
                  go_wp2
                  go_ret2
                  exact HBAD.out
            · have h48' : ¬ (48 : Int) ≤ ((s[k]'hks).toNat : Int) := by omega
              have HDG : Hid (dig (s[k]'hks) = false) := by unfold Hid dig; simp; omega
              have h95' : (((s[k]'hks).toNat : Int) != 95) = true := by simp; omega
              have HNOT : Hid (¬ (dig (s[k]'hks) = true ∨ (s[k]'hks = 95 ∧ 0 < k ∧ ∃ h2 : k + 1 < s.size, s[k - 1]'(by omega) ≠ 95 ∧ s[k + 1]'h2 ≠ 95))) := by
                rintro (q | q)
                · rw [HDG.out] at q; cases q
                · have := congrArg UInt8.toNat q.1
                  simp at this
                  omega
              clear h48
              replace HBAD := hid (HBAD.out (fun q => HNOT.out (HAT.out.1 q)))
              clear HNXD HNXM HAT HCC HB4 HBQ HBW HLL
              go_wp2
              go_ret2
              exact HBAD.out
          · have hp' : (((s[k - 1]'hkm).toNat : Int) != 95) = true := by simp; omega
            have HPN : Hid (s[k - 1]'hkm ≠ 95) := fun q => hp (by rw [q]; rfl)
            by_cases hq : (s[k + 1]'hk2s).toNat = 95
            · have hq' : (((s[k + 1]'hk2s).toNat : Int) != 95) = false := by simp; omega
              have HNB : Hid (¬ s[k + 1]'hk2s ≠ 95) := fun q => q (UInt8.toNat_inj.1 hq)
              clear hk0 hp hq
              by_cases h48 : 48 ≤ (s[k]'hks).toNat
              · have h48' : (48 : Int) ≤ ((s[k]'hks).toNat : Int) := by omega
                by_cases h57 : (s[k]'hks).toNat ≤ 57
                · have h57' : ((s[k]'hks).toNat : Int) ≤ 57 := by omega
                  have HDG : Hid (dig (s[k]'hks) = true) := dig_iff.2 ⟨h48, h57⟩
                  clear h48 h57
                  replace HNXD := hid (HNXD.out HDG.out)
                  clear HNXM HBAD HAT
                  go_wp2_with (at_builtin; refine wpList_append_byr _ rfl (.tmp 60) (.tmp 64) rfl w.heap.size _ (((L.take k).filter dig).map fun b => (b.toNat : Int)) _ rfl (HB4.out _) wr.heap.size rfl (HCC.out _) HLL.out (HBQ.out _) ?_)
                  intro m6 a6 cap6 w6 hm6 hby6 hbw6
                  have HN1 := hid (HNXD.out _ _ hby6.out (HBW.out _ _ hbw6.out))
                  clear hm6 hby6 hbw6 HNXD HCC HB4 HBQ HBW HLL
                  go_wp2_with fail
                  go_roundg (n - (k + 1))
                  case rel => exact HN1.out
                  case measure => exact HMM.out
                · have h57' : ¬ ((s[k]'hks).toNat : Int) ≤ 57 := by omega
                  have HDG : Hid (dig (s[k]'hks) = false) := by unfold Hid dig; simp; omega
                  by_cases h95 : (s[k]'hks).toNat = 95
                  · have h95' : (((s[k]'hks).toNat : Int) != 95) = false := by simp; omega
                    have HNOT : Hid (¬ (dig (s[k]'hks) = true ∨ (s[k]'hks = 95 ∧ 0 < k ∧ ∃ h2 : k + 1 < s.size, s[k - 1]'(by omega) ≠ 95 ∧ s[k + 1]'h2 ≠ 95))) := by
                      rintro (q | ⟨q1, q2, q3, q4, q5⟩)
                      · rw [HDG.out] at q; cases q
                      · exact HNB.out q5
                    clear h48 h57 h95
                    replace HBAD := hid (HBAD.out (fun q => HNOT.out (HAT.out.1 q)))
                    clear HNXD HNXM HAT HCC HB4 HBQ HBW HLL
                    go_wp2
                    go_ret2
                    exact HBAD.out
                  · have h95' : (((s[k]'hks).toNat : Int) != 95) = true := by simp; omega
                    have HNOT : Hid (¬ (dig (s[k]'hks) = true ∨ (s[k]'hks = 95 ∧ 0 < k ∧ ∃ h2 : k + 1 < s.size, s[k - 1]'(by omega) ≠ 95 ∧ s[k + 1]'h2 ≠ 95))) := by
                      rintro (q | q)
                      · rw [HDG.out] at q; cases q
                      · exact h95 (by rw [q.1]; rfl)
                    clear h48 h57 h95
                    replace HBAD := hid (HBAD.out (fun q => HNOT.out (HAT.out.1 q)))
                    clear HNXD HNXM HAT HCC HB4 HBQ HBW HLL
                    go_wp2
                    go_ret2
                    exact HBAD.out
              · have h48' : ¬ (48 : Int) ≤ ((s[k]'hks).toNat : Int) := by omega
                have HDG : Hid (dig (s[k]'hks) = false) := by unfold Hid dig; simp; omega
                have h95' : (((s[k]'hks).toNat : Int) != 95) = true := by simp; omega
                have HNOT : Hid (¬ (dig (s[k]'hks) = true ∨ (s[k]'hks = 95 ∧ 0 < k ∧ ∃ h2 : k + 1 < s.size, s[k - 1]'(by omega) ≠ 95 ∧ s[k + 1]'h2 ≠ 95))) := by
                  rintro (q | q)
                  · rw [HDG.out] at q; cases q
                  · have := congrArg UInt8.toNat q.1
                    simp at this
                    omega
                clear h48
                replace HBAD := hid (HBAD.out (fun q => HNOT.out (HAT.out.1 q)))
                clear HNXD HNXM HAT HCC HB4 HBQ HBW HLL
                go_wp2
                go_ret2
                exact HBAD.out
            · have hq' : (((s[k + 1]'hk2s).toNat : Int) != 95) = true := by simp; omega
              have HQN : Hid (s[k + 1]'hk2s ≠ 95) := fun q => hq (by rw [q]; rfl)
              clear hk0 hp hq
              by_cases h48 : 48 ≤ (s[k]'hks).toNat
              · have h48' : (48 : Int) ≤ ((s[k]'hks).toNat : Int) := by omega
                by_cases h57 : (s[k]'hks).toNat ≤ 57
                · have h57' : ((s[k]'hks).toNat : Int) ≤ 57 := by omega
                  have HDG : Hid (dig (s[k]'hks) = true) := dig_iff.2 ⟨h48, h57⟩
                  clear h48 h57
                  replace HNXD := hid (HNXD.out HDG.out)
                  clear HNXM HBAD HAT
                  go_wp2_with (at_builtin; refine wpList_append_byr _ rfl (.tmp 60) (.tmp 64) rfl w.heap.size _ (((L.take k).filter dig).map fun b => (b.toNat : Int)) _ rfl (HB4.out _) wr.heap.size rfl (HCC.out _) HLL.out (HBQ.out _) ?_)
                  intro m6 a6 cap6 w6 hm6 hby6 hbw6
                  have HN1 := hid (HNXD.out _ _ hby6.out (HBW.out _ _ hbw6.out))
                  clear hm6 hby6 hbw6 HNXD HCC HB4 HBQ HBW HLL
                  go_wp2_with fail
                  go_roundg (n - (k + 1))
                  case rel => exact HN1.out
                  case measure => exact HMM.out
                · have h57' : ¬ ((s[k]'hks).toNat : Int) ≤ 57 := by omega
                  have HDG : Hid (dig (s[k]'hks) = false) := by unfold Hid dig; simp; omega
                  by_cases h95 : (s[k]'hks).toNat = 95
                  · have h95' : (((s[k]'hks).toNat : Int) != 95) = false := by simp; omega
                    have HYES : Hid (dig (s[k]'hks) = true ∨ (s[k]'hks = 95 ∧ 0 < k ∧ ∃ h2 : k + 1 < s.size, s[k - 1]'(by omega) ≠ 95 ∧ s[k + 1]'h2 ≠ 95)) := .inr ⟨UInt8.toNat_inj.1 h95, HK0.out, hk2s, HPN.out, HQN.out⟩
                    clear h48 h57 h95
                    have HN1 := hid (HNXM.out (HAT.out.2 HYES.out) HDG.out)
                    clear HNXD HNXM HBAD HAT HCC HB4 HBQ HBW HLL
                    go_wp2_with fail
                    go_roundg (n - (k + 1))
                    case rel => exact HN1.out
                    case measure => exact HMM.out
                  · have h95' : (((s[k]'hks).toNat : Int) != 95) = true := by simp; omega
                    have HNOT : Hid (¬ (dig (s[k]'hks) = true ∨ (s[k]'hks = 95 ∧ 0 < k ∧ ∃ h2 : k + 1 < s.size, s[k - 1]'(by omega) ≠ 95 ∧ s[k + 1]'h2 ≠ 95))) := by
                      rintro (q | q)
                      · rw [HDG.out] at q; cases q
                      · exact h95 (by rw [q.1]; rfl)
                    clear h48 h57 h95
                    replace HBAD := hid (HBAD.out (fun q => HNOT.out (HAT.out.1 q)))
                    clear HNXD HNXM HAT HCC HB4 HBQ HBW HLL
                    go_wp2
                    go_ret2
                    exact HBAD.out
              · have h48' : ¬ (48 : Int) ≤ ((s[k]'hks).toNat : Int) := by omega
                have HDG : Hid (dig (s[k]'hks) = false) := by unfold Hid dig; simp; omega
                have h95' : (((s[k]'hks).toNat : Int) != 95) = true := by simp; omega
                have HNOT : Hid (¬ (dig (s[k]'hks) = true ∨ (s[k]'hks = 95 ∧ 0 < k ∧ ∃ h2 : k + 1 < s.size, s[k - 1]'(by omega) ≠ 95 ∧ s[k + 1]'h2 ≠ 95))) := by
                  rintro (q | q)
                  · rw [HDG.out] at q; cases q
                  · have := congrArg UInt8.toNat q.1
                    simp at this
                    omega
                clear h48
                replace HBAD := hid (HBAD.out (fun q => HNOT.out (HAT.out.1 q)))
                clear HNXD HNXM HAT HCC HB4 HBQ HBW HLL
                go_wp2
                go_ret2
                exact HBAD.out
        · have hk2' : ¬ ((k + 1 : Nat) : Int) < (n : Int) := by omega
          have HNB : Hid (¬ k + 1 < s.size) := by unfold Hid; omega
          clear hk0
          by_cases h48 : 48 ≤ (s[k]'hks).toNat
          · have h48' : (48 : Int) ≤ ((s[k]'hks).toNat : Int) := by omega
            by_cases h57 : (s[k]'hks).toNat ≤ 57
            · have h57' : ((s[k]'hks).toNat : Int) ≤ 57 := by omega
              have HDG : Hid (dig (s[k]'hks) = true) := dig_iff.2 ⟨h48, h57⟩
              clear h48 h57
              replace HNXD := hid (HNXD.out HDG.out)
              clear HNXM HBAD HAT
              go_wp2_with (at_builtin; refine wpList_append_byr _ rfl (.tmp 60) (.tmp 64) rfl w.heap.size _ (((L.take k).filter dig).map fun b => (b.toNat : Int)) _ rfl (HB4.out _) wr.heap.size rfl (HCC.out _) HLL.out (HBQ.out _) ?_)
              intro m6 a6 cap6 w6 hm6 hby6 hbw6
              have HN1 := hid (HNXD.out _ _ hby6.out (HBW.out _ _ hbw6.out))
              clear hm6 hby6 hbw6 HNXD HCC HB4 HBQ HBW HLL
              go_wp2_with fail
              go_roundg (n - (k + 1))
              case rel => exact HN1.out
              case measure => exact HMM.out
            · have h57' : ¬ ((s[k]'hks).toNat : Int) ≤ 57 := by omega
              have HDG : Hid (dig (s[k]'hks) = false) := by unfold Hid dig; simp; omega
              by_cases h95 : (s[k]'hks).toNat = 95
              · have h95' : (((s[k]'hks).toNat : Int) != 95) = false := by simp; omega
                have HNOT : Hid (¬ (dig (s[k]'hks) = true ∨ (s[k]'hks = 95 ∧ 0 < k ∧ ∃ h2 : k + 1 < s.size, s[k - 1]'(by omega) ≠ 95 ∧ s[k + 1]'h2 ≠ 95))) := by
                  rintro (q | ⟨q1, q2, q3, q4, q5⟩)
                  · rw [HDG.out] at q; cases q
                  · exact HNB.out q3
                clear h48 h57 h95
                replace HBAD := hid (HBAD.out (fun q => HNOT.out (HAT.out.1 q)))
                clear HNXD HNXM HAT HCC HB4 HBQ HBW HLL
                go_wp2
                go_ret2
                exact HBAD.out
              · have h95' : (((s[k]'hks).toNat : Int) != 95) = true := by simp; omega
                have HNOT : Hid (¬ (dig (s[k]'hks) = true ∨ (s[k]'hks = 95 ∧ 0 < k ∧ ∃ h2 : k + 1 < s.size, s[k - 1]'(by omega) ≠ 95 ∧ s[k + 1]'h2 ≠ 95))) := by
                  rintro (q | q)
                  · rw [HDG.out] at q; cases q
                  · exact h95 (by rw [q.1]; rfl)
                clear h48 h57 h95
                replace HBAD := hid (HBAD.out (fun q => HNOT.out (HAT.out.1 q)))
                clear HNXD HNXM HAT HCC HB4 HBQ HBW HLL
                go_wp2
                go_ret2
                exact HBAD.out
          · have h48' : ¬ (48 : Int) ≤ ((s[k]'hks).toNat : Int) := by omega
            have HDG : Hid (dig (s[k]'hks) = false) := by unfold Hid dig; simp; omega
            have h95' : (((s[k]'hks).toNat : Int) != 95) = true := by simp; omega
            have HNOT : Hid (¬ (dig (s[k]'hks) = true ∨ (s[k]'hks = 95 ∧ 0 < k ∧ ∃ h2 : k + 1 < s.size, s[k - 1]'(by omega) ≠ 95 ∧ s[k + 1]'h2 ≠ 95))) := by
              rintro (q | q)
              · rw [HDG.out] at q; cases q
              · have := congrArg UInt8.toNat q.1
                simp at this
                omega
            clear h48
            replace HBAD := hid (HBAD.out (fun q => HNOT.out (HAT.out.1 q)))
            clear HNXD HNXM HAT HCC HB4 HBQ HBW HLL
            go_wp2
            go_ret2
            exact HBAD.out
    · have hlt' : ¬ (k : Int) < (n : Int) := by omega
      obtain rfl : k = n := by omega
      have HRO : Hid (RefOk L) := fun i hi => HOK.out i (by rw [HN.out] at hi; exact hi)
      rw [List.take_of_length_le (by rw [HN.out]; exact Nat.le_refl _)] at HBY
      have HRD := hid (rread_any (w := wr) (B := 10) (l := L.filter dig) (by omega) (by omega) (by have := List.length_filter_le dig L; rw [HN.out] at this; omega))
      obtain ⟨D, hD⟩ : ∃ D, L.filter dig = D := ⟨_, rfl⟩
      rw [hD] at HBY HRD
      have HD := hid hD
      clear hD HOK HG
      have HFIN : Hid (∀ e w', RRPost wr 10 D e w' → RGRPost w L e w') := fun e w' h => .inl ⟨HRO.out, by rw [HD.out]; exact rrPost_step HBL.out h⟩
      have hcv : ∃ a m cap, u4 = .slice a m cap ∧ (convert 61 9 (.slice a m cap)).run Tryd.prog wr = .ok (.string ⟨D.toArray⟩) wr := by
        by_cases h0 : D = []
        · subst h0
          obtain ⟨q1, ⟨q2, q3⟩ | ⟨g, cap, cur, q2, _⟩⟩ := HBY.out
          · exact ⟨none, 0, 0, q2, convert_nil wr⟩
          · have q := run_convert_bytes_arg (P := Tryd.prog) wr 61 5 Tryd.underlying61 Tryd.underlying5 g 0 0 cap [] rfl (fun i hi => by omega) 9 Tryd.underlying9
            exact ⟨_, _, _, q2, q⟩
        · obtain ⟨a9, cap9, e9⟩ := HBY.out.form
          subst e9
          have hpos : 0 < (D.map fun b => (b.toNat : Int)).length := by rw [List.length_map]; exact List.length_pos_iff.2 h0
          obtain ⟨g9, rfl, -, -, -, hc9⟩ := HBY.out.cells hpos
          have q := run_convert_bytes_arg (P := Tryd.prog) wr 61 5 Tryd.underlying61 Tryd.underlying5 g9 0 _ cap9 (D.map fun b => (b.toNat : Int)) rfl (fun i hi => by rw [Nat.zero_add]; exact hc9 i hi) 9 Tryd.underlying9
          rw [str_of_bytes] at q
          exact ⟨_, _, _, rfl, q⟩
      obtain ⟨a9, m9, cap9, rfl, hcv⟩ := hcv
      clear HBY HRO HD
      obtain ⟨t, ht⟩ : ∃ t, (⟨D.toArray⟩ : ByteArray) = t := ⟨_, rfl⟩
      rw [ht] at hcv HRD
      clear ht
      go_wp2_with fail
      refine HRD.out.mono ?_
      rintro e w1 h
      have h' := HFIN.out e w1 h
      clear HRD HFIN hcv
      rcases h with ⟨g, zs, a, c, rfl, h2⟩ | ⟨g, rfl, h2⟩
      · clear g h2
        have H := hid h'
        clear h'
        go_wp2
        go_ret2
        exact H.out
      · clear g h2
        have H := hid h'
        clear h'
        go_wp2
        go_ret2
        exact H.out
end R4
end Go.Proofs.YtdfnehngffajiaaDoor
