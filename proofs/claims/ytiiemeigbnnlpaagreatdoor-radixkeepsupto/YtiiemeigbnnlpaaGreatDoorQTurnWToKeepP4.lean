/-
  QTurnWToKeepP4: TurnW, Over, Rooms, KeepP4, joined.
-/
import Derived.Test.YtiiemeigbnnlpaaGreatDoorQKeepR4ToKeep
import Derived.Test.YtiiemeigbnnlpaaGreatDoorQHoldsToGrow
import Derived.Laws.CopyOwn
import Derived.Test.YtiiemeigbnnlpaaGreatDoorQApartToKeepB4

/- TurnW -/
namespace Go.Proofs.YtiiemeigbnnlpaaGreatDoor
open Go.RowKit

theorem bits_xor_nat (a b : Nat) (ha : a < 18446744073709551616) (hb : b < 18446744073709551616) : bits .xor .u64 (a : Int) (b : Int) = ((a ^^^ b : Nat) : Int) := by
  have hx : a ^^^ b < 2 ^ 64 := Nat.xor_lt_two_pow ha hb
  have h1 : (BitVec.ofInt 64 (a : Int)).toNat = a := by
    rw [BitVec.ofInt_natCast, BitVec.toNat_ofNat]; exact Nat.mod_eq_of_lt (by omega)
  have h2 : (BitVec.ofInt 64 (b : Int)).toNat = b := by
    rw [BitVec.ofInt_natCast, BitVec.toNat_ofNat]; exact Nat.mod_eq_of_lt (by omega)
  show IntKind.u64.wrap ((BitVec.ofInt 64 (a : Int) ^^^ BitVec.ofInt 64 (b : Int)).toNat : Int) = _
  rw [BitVec.toNat_xor, h1, h2, IntKind.wrap_u64]
  omega
/-- Another word. -/
def turnW (x : Int) : Int := bits .xor .u64 x 1085102592571150095
theorem turnW_is {x : Int} (h : IsW x) : IsW (turnW x) := by
  unfold IsW wB at h
  obtain ⟨X, rfl⟩ := Int.eq_ofNat_of_zero_le h.1
  unfold turnW
  have e := bits_xor_nat X 1085102592571150095 (by omega) (by omega)
  have hx : X ^^^ 1085102592571150095 < 2 ^ 64 := Nat.xor_lt_two_pow (by omega) (by omega)
  rw [show ((1085102592571150095 : Nat) : Int) = 1085102592571150095 from rfl] at e
  rw [e]
  unfold IsW wB
  omega
theorem turn_wf {xs : List Int} (h : WF xs) : WF (xs.map turnW) := fun y hy => by
  obtain ⟨x, hx, rfl⟩ := List.mem_map.1 hy
  exact turnW_is (h x hx)
end Go.Proofs.YtiiemeigbnnlpaaGreatDoor

/- Over -/
namespace Go.Proofs.YtiiemeigbnnlpaaGreatDoor
open Go.RowKit

theorem Row.inj {w : World} {g : Nat} {L L' : List Value} (h : Row w g L) (h' : Row w g L') : L = L' := by
  have := h.symm.trans h'
  simpa using this

theorem wpList_copy_over (w : World) {ops : Array Oper} {rest : List Oper} {o : Oper} {a : Act} {Q : Exit → Act → World → Prop}
    (hgd : o.guard = none) (d s : Operand) (hop : o.op = .call { callee := .builtin .copy, args := #[d, s], argTypes := #[22, 22] })
    (g gs n capD capS : Nat) (xs T : List Int) (r r' : List Value) (hrow : Row w g (ws xs ++ r)) (hsrc : Row w gs (ws T ++ r')) (hx : xs.length = n) (hT : T.length = n)
    (hd : a.eval d = .slice (some ⟨g, 0, none⟩) n capD) (hs : a.eval s = .slice (some ⟨gs, 0, none⟩) n capS)
    (hK : ∀ w', Hid (Row w' g (ws T ++ r)) → Hid (Touch (· = g) w w') → wpList Tryz.prog ops Q rest (a.put o.dst (goInt n)) w') :
    wpList Tryz.prog ops Q (o :: rest) a w := by
  have hl : (ws T).length = n := by rw [length_ws, hT]
  have hlx : (ws xs).length = n := by rw [length_ws, hx]
  refine wpList_copy_own hgd d s 22 22 hop 38 Tryz.underlying22 Tryz.sizeW g 0 n capD ⟨gs, 0, none⟩ n capS hd hs (ws xs ++ r).toArray 38 hrow (ws T) (by rw [hl]; exact (Nat.min_self n).symm) ?_ (by simp [hl, hlx]) ?_ ?_
  · intro j v hj
    have hj' : j < T.length := by
      have := (List.getElem?_eq_some_iff.1 hj).1
      simpa [length_ws] using this
    have e : (⟨gs, 0, none⟩ : Addr).add j = ⟨gs, j, none⟩ := by unfold Addr.add; split <;> simp_all
    rw [e, hsrc.word hj', ← hj]
    simp [ws, hj']
  · intro v hv
    simp only [ws, List.mem_map] at hv
    obtain ⟨x, _, rfl⟩ := hv
    rfl
  · rw [hl]
    have e : ((ws xs ++ r).toArray.toList.take 0 ++ (ws T ++ (ws xs ++ r).toArray.toList.drop (0 + n))).toArray = (ws T ++ r).toArray := by
      simp [← hlx]
    rw [e]
    refine hK _ ?_ ?_
    · unfold Hid Row at *
      simp [World.setRow, Array.getElem?_modify, hrow]
    · exact ⟨rfl, rfl, rfl, by simp [World.setRow], fun k _ hk => setRow_other w g k _ hk⟩

/-- What is known of some blocks. -/
def Anch (w : World) (As : List (Nat × Obj)) : Prop := ∀ p ∈ As, w.heap[p.1]? = some p.2
theorem Anch.nil (w : World) : Anch w [] := fun _ h => by cases h
theorem Anch.cons {w : World} {b : Nat} {o : Obj} {As : List (Nat × Obj)} (h : w.heap[b]? = some o) (hs : Anch w As) : Anch w ((b, o) :: As) := fun p hp => by
  rcases List.mem_cons.1 hp with rfl | hp
  · exact h
  · exact hs p hp
theorem Anch.touch {S : Nat → Prop} {w w' : World} {As : List (Nat × Obj)} (h : Anch w As) (ht : Touch S w w') (hS : ∀ p ∈ As, ¬ S p.1) : Anch w' As := fun p hp =>
  (ht.block p.1 (Array.getElem?_eq_some_iff.1 (h p hp)).1 (hS p hp)).trans (h p hp)
theorem Anch.below {w w' : World} {As : List (Nat × Obj)} (h : Anch w As) (hb : Below w.heap.size w w') : Anch w' As := fun p hp =>
  (hb.block p.1 (Array.getElem?_eq_some_iff.1 (h p hp)).1).trans (h p hp)
theorem Anch.at {w : World} {As : List (Nat × Obj)} (h : Anch w As) {b : Nat} {o : Obj} (hm : (b, o) ∈ As) : w.heap[b]? = some o := h _ hm
theorem Anch.cell {w : World} {As : List (Nat × Obj)} (h : Anch w As) {b : Nat} {cs : Array Value} {t : TypeId} {f : Nat × Nat} (hm : (b, Obj.cells cs t f) ∈ As) (j : Nat) : w.cell? ⟨b, j, none⟩ = cs[j]? := by
  have := h _ hm
  simp [World.cell?, this]
end Go.Proofs.YtiiemeigbnnlpaaGreatDoor

/- Rooms -/
namespace Go.Proofs.YtiiemeigbnnlpaaGreatDoor
open Go.RowKit
set_option linter.unusedVariables false

def mrk (n : Nat) : List Int := (List.range 80).map fun j => 6510516211317473280 + ((n + j : Nat) : Int)
theorem roomy_eq (xs : List Int) : roomy xs = xs ++ mrk xs.length := rfl
theorem ws_roomy (xs : List Int) : ws (roomy xs) = ws xs ++ ws (mrk xs.length) := by rw [roomy_eq]; simp [ws]
/-- Block g holds what Roomy made of xs. -/
def Rm (w : World) (g : Nat) (xs : List Int) : Prop := Row w g (ws (roomy xs))
theorem Rm.lt {w : World} {g : Nat} {xs : List Int} (h : Rm w g xs) : g < w.heap.size := Row.lt h
theorem Rm.step {w w' : World} {g : Nat} {xs : List Int} (h : Rm w g xs) (hb : Below w.heap.size w w') : Rm w' g xs := Row.below h hb (Row.lt h)
theorem Rm.full {w : World} {g : Nat} {xs : List Int} (h : Rm w g xs) (hw : WF xs) {n : Nat} (hn : xs.length = n) (hl : n ≤ 2000000) : Sl w.heap.size w (.slice (some ⟨g, 0, none⟩) (n + 80) (n + 80)) (roomy xs) := by
  have := Row.sl (r := []) (xs := roomy xs) (by rw [List.append_nil]; exact h) (roomy_wf hw (by omega)) (cap := n + 80) (by rw [roomy_len, hn]; exact Nat.le_refl _) (by omega) h.lt
  rwa [roomy_len, hn] at this
theorem Rm.part {w : World} {g : Nat} {xs : List Int} (h : Rm w g xs) (hw : WF xs) {n : Nat} (hn : xs.length = n) (hl : n ≤ 2000000) : Sl w.heap.size w (.slice (some ⟨g, 0, none⟩) n (n + 80)) xs := by
  have := Row.sl (r := ws (mrk xs.length)) (xs := xs) (by rw [← ws_roomy]; exact h) hw (cap := n + 80) (by omega) (by omega) h.lt
  rwa [hn] at this
theorem Rm.over {w : World} {g : Nat} {xs T : List Int} (hT : T.length = xs.length) (h : Row w g (ws T ++ ws (mrk xs.length))) : Rm w g T := by
  unfold Rm; rw [ws_roomy, hT]; exact h
theorem Rm.touch {w w' : World} {g g' : Nat} {xs : List Int} (h : Rm w g xs) (ht : Touch (· = g') w w') (hne : g ≠ g') : Rm w' g xs := ht.row h hne
theorem Row.whole {w : World} {g : Nat} {xs : List Int} (h : Row w g (ws xs)) (hw : WF xs) {n : Nat} (hn : xs.length = n) (hl : n ≤ 2000000) : Sl w.heap.size w (.slice (some ⟨g, 0, none⟩) n n) xs := by
  have := Row.sl (r := []) (xs := xs) (by simpa using h) hw (cap := n) (by omega) (by omega) h.lt
  rwa [hn] at this
theorem Row.step {w w' : World} {g : Nat} {L : List Value} (h : Row w g L) (hb : Below w.heap.size w w') : Row w' g L := Row.below h hb (Row.lt h)
theorem Row.touch {w w' : World} {g g' : Nat} {L : List Value} (h : Row w g L) (ht : Touch (· = g') w w') (hne : g ≠ g') : Row w' g L := ht.row h hne

/-- The call's box lies at its place; below it nothing has turned. -/
def Bx (w : World) (O : Obj) (wr : World) : Prop := Below w.heap.size w wr ∧ wr.heap[w.heap.size]? = some O
theorem Bx.lt {w wr : World} {O : Obj} (h : Bx w O wr) : w.heap.size < wr.heap.size := (Array.getElem?_eq_some_iff.1 h.2).1
theorem Bx.start (w : World) (O : Obj) : Bx w O (w.alloc O) := ⟨(Below.refl _ _).alloc (Nat.le_refl _) _, heap_alloc_new w O⟩
theorem Bx.step {w wr w' : World} {O : Obj} (h : Bx w O wr) (k : Below wr.heap.size wr w') : Bx w O w' := ⟨below_step h.1 k, (k.block _ h.lt).trans h.2⟩
theorem Bx.touch {w wr w' : World} {O : Obj} {g : Nat} (h : Bx w O wr) (k : Touch (· = g) wr w') (hg : w.heap.size < g) : Bx w O w' :=
  ⟨⟨k.os.trans h.1.os, k.tape.trans h.1.tape, k.output.trans h.1.output, Nat.le_trans h.1.size k.size, fun j hj => (k.block j (Nat.lt_of_lt_of_le hj h.1.size) (by omega)).trans (h.1.block j hj)⟩, (k.block _ h.lt (by omega)).trans h.2⟩
theorem Bx.cell {w wr : World} {cs : Array Value} {t : TypeId} (h : Bx w (.cells cs t) wr) (j : Nat) : wr.cell? ⟨w.heap.size, j, none⟩ = cs[j]? := by
  have := h.2
  simp [World.cell?, this]
theorem touch_set (w : World) (g j : Nat) (x : Value) : Touch (· = g) w (w.setCell ⟨g, j, none⟩ x) :=
  Touch.setCell (S := fun k => k = g) (Touch.refl _ w) (.inr rfl) j x
theorem Rm.set {w : World} {g : Nat} {xs : List Int} (h : Rm w g xs) (hl : 0 < xs.length) (x : Int) : Rm (w.setCell ⟨g, 0, none⟩ (.int .u64 x)) g (xs.set 0 x) := by
  refine Rm.over (xs := xs) (by simp) ?_
  exact Row.setWord (by rw [← ws_roomy]; exact h) hl x
theorem WF.set0 {xs : List Int} (h : WF xs) {x : Int} (hx : 0 ≤ x ∧ x ≤ 1) : WF (xs.set 0 x) := h.set 0 (by unfold IsW wB; omega)
theorem kept_now {w : World} {v u : Value} {ls xs : List Int} (h : Sl w.heap.size w v ls) (h' : Sl w.heap.size w u xs) (he : ls = roomy xs) :
    Calls Tryz.prog 11 #[v, u] w fun e w' => e = .returned (.bool true) ∧ Below w.heap.size w w' :=
  (kept_yes h h' he).mono fun e w' ⟨h1, n, h2⟩ => ⟨h1, by subst h2; exact below_drewN (Below.refl _ _) n⟩

end Go.Proofs.YtiiemeigbnnlpaaGreatDoor

/- KeepP4 -/
namespace Go.Proofs.YtiiemeigbnnlpaaGreatDoor
open Go.RowKit
set_option linter.unusedVariables false

/-- Turned as far as k. -/
def xorU (xs : List Int) (k : Nat) : List Int := (xs.map turnW).take k ++ xs.drop k
theorem xorU_len (xs : List Int) {k : Nat} (h : k ≤ xs.length) : (xorU xs k).length = xs.length := by simp [xorU]; omega
theorem xorU_zero (xs : List Int) : xorU xs 0 = xs := by simp [xorU]
theorem xorU_all (xs : List Int) {n : Nat} (h : xs.length = n) : xorU xs n = xs.map turnW := by
  subst h
  unfold xorU
  rw [List.drop_length, List.take_of_length_le (by simp)]
  simp
theorem xorU_get {xs : List Int} {k : Nat} (h : k < (xorU xs k).length) (h' : k < xs.length) : (xorU xs k)[k] = xs[k] := by
  have hl : ((xs.map turnW).take k).length = k := by simp; omega
  have e : xorU xs k = (xs.map turnW).take k ++ xs.drop k := rfl
  have h2 : ((xs.map turnW).take k ++ xs.drop k)[k]? = some xs[k] := by
    rw [List.getElem?_append_right (by omega), hl, Nat.sub_self]
    simp [h']
  rw [← e] at h2
  exact (List.getElem?_eq_some_iff.1 h2).2
theorem xorU_set {xs : List Int} {k : Nat} (h : k < xs.length) : (xorU xs k).set k (turnW xs[k]) = xorU xs (k + 1) := by
  unfold xorU
  have e : xs.drop k = xs[k] :: xs.drop (k + 1) := List.drop_eq_getElem_cons h
  have hl : ((xs.map turnW).take k).length = k := by simp; omega
  rw [List.set_append_right _ _ (by omega), hl, e, Nat.sub_self, List.set_cons_zero, List.take_succ_eq_append_getElem (by simpa using h), List.getElem_map, List.append_assoc]
  rfl
theorem Below.touch4 {w0 w w' : World} {S : Nat → Prop} (h : Below w0.heap.size w0 w) (t : Touch S w w') (hS : ∀ g, S g → w0.heap.size ≤ g) : Below w0.heap.size w0 w' :=
  ⟨t.os.trans h.os, t.tape.trans h.tape, t.output.trans h.output, Nat.le_trans h.size t.size, fun k hk => (t.block k (Nat.lt_of_lt_of_le hk h.size) (fun q => absurd (hS k q) (by omega))).trans (h.block k hk)⟩
theorem four_at {v0 v1 v2 v3 : Value} {B : Nat} (h0 : ∀ g, v0.ownBlock = some g → B ≤ g) (h1 : ∀ g, v1.ownBlock = some g → B ≤ g) (h2 : ∀ g, v2.ownBlock = some g → B ≤ g) (h3 : ∀ g, v3.ownBlock = some g → B ≤ g) : ∀ g, Blk 4 (four v0 v1 v2 v3) g → B ≤ g := by
  rintro g ⟨i, hi, e⟩
  match i, hi with
  | 0, _ => exact h0 g e
  | 1, _ => exact h1 g e
  | 2, _ => exact h2 g e
  | 3, _ => exact h3 g e
/-- The boxes of two calls, and what was known ahead of them. -/
structure Fk (q : Nat) (k1 b1 k2 b2 : Int) (v1 v2 : Value) (s1 s2 : ByteArray) (wr : World) : Prop where
  a0 : wr.cell? ⟨q, 0, none⟩ = some (.int .i64 k1)
  a1 : wr.cell? ⟨q, 1, none⟩ = some v1
  a2 : wr.cell? ⟨q, 2, none⟩ = some (.string s1)
  a3 : wr.cell? ⟨q, 3, none⟩ = some (.int .i64 b1)
  c0 : wr.cell? ⟨q + 1, 0, none⟩ = some (.int .i64 k2)
  c1 : wr.cell? ⟨q + 1, 1, none⟩ = some v2
  c2 : wr.cell? ⟨q + 1, 2, none⟩ = some (.string s2)
  c3 : wr.cell? ⟨q + 1, 3, none⟩ = some (.int .i64 b2)
theorem Fk.start (w : World) (k1 b1 k2 b2 : Int) (v1 v2 : Value) (s1 s2 : ByteArray) {W : World} (hW : (w.alloc (.cells #[.int .i64 k1, v1, .string s1, .int .i64 b1] 24)).alloc (.cells #[.int .i64 k2, v2, .string s2, .int .i64 b2] 24) = W) :
    Below w.heap.size w W ∧ ∀ wr, Below W.heap.size W wr → Fk w.heap.size k1 b1 k2 b2 v1 v2 s1 s2 wr := by
  subst hW
  have hb := ((Below.refl w.heap.size w).alloc (Nat.le_refl _) (.cells #[.int .i64 k1, v1, .string s1, .int .i64 b1] 24)).alloc (by simp) (.cells #[.int .i64 k2, v2, .string s2, .int .i64 b2] 24)
  refine ⟨hb, fun wr h => ?_⟩
  have hB2 := heap_alloc_new (w.alloc (.cells #[.int .i64 k1, v1, .string s1, .int .i64 b1] 24)) (.cells #[.int .i64 k2, v2, .string s2, .int .i64 b2] 24)
  have hB1 := (Below.heap_alloc (w.alloc (.cells #[.int .i64 k1, v1, .string s1, .int .i64 b1] 24)) (.cells #[.int .i64 k2, v2, .string s2, .int .i64 b2] 24) w.heap.size (by simp)).trans (heap_alloc_new w _)
  rw [show (w.alloc (.cells #[.int .i64 k1, v1, .string s1, .int .i64 b1] 24)).heap.size = w.heap.size + 1 by simp] at hB2
  have q1 := (h.block w.heap.size (by simp <;> omega)).trans hB1
  have q2 := (h.block (w.heap.size + 1) (by simp <;> omega)).trans hB2
  exact ⟨(cell_row4 q1 0).trans rfl, (cell_row4 q1 1).trans rfl, (cell_row4 q1 2).trans rfl, (cell_row4 q1 3).trans rfl, (cell_row4 q2 0).trans rfl, (cell_row4 q2 1).trans rfl, (cell_row4 q2 2).trans rfl, (cell_row4 q2 3).trans rfl⟩
/-- A list in least form is told by its number. -/
theorem canon_by {xs ys : List Int} {V : Nat} (hx : Canon xs) (hy : Canon ys) (h : vn xs = V) (h' : vn ys = V) : xs = ys := canon_inj hx hy ((vn_eq hx.1 hy.1).1 (h.trans h'.symm))
/-- The list written back. -/
theorem Rm.back {w' : World} {g n : Nat} {xs T : List Int} (hT : T.length = xs.length) (hn : xs.length = n) (h : Hid (w'.heap[g]? = some (.cells (splice (ws (roomy T)) 0 (ws xs)).toArray 38 (0, 0)))) : Rm w' g xs := by
  have e : splice (ws (roomy T)) 0 (ws xs) = ws (roomy xs) := by
    rw [ws_roomy, ws_roomy, hT]
    unfold splice
    have : (ws xs).length = (ws T).length := by simp [ws, hT]
    simp [this]
  unfold Rm Row
  rw [← e]
  exact h.out
theorem Rm.setAt {w : World} {g : Nat} {xs : List Int} (h : Rm w g xs) {j : Nat} (hj : j < xs.length) (x : Int) : Rm (w.setCell ⟨g, j, none⟩ (.int .u64 x)) g (xs.set j x) :=
  Rm.over (xs := xs) (by simp) (Row.setWord (by rw [← ws_roomy]; exact h) hj x)
theorem Rm.word {w : World} {g : Nat} {xs : List Int} (h : Rm w g xs) {j : Nat} (hj : j < xs.length) : w.cell? ⟨g, j, none⟩ = some (.int .u64 xs[j]) :=
  Row.word (r := ws (mrk xs.length)) (by rw [← ws_roomy]; exact h) hj
theorem addr4 (b off j : Nat) : (⟨b, off, none⟩ : Addr).add j = ⟨b, off + j, none⟩ := by unfold Addr.add; split <;> simp_all
theorem wpList_copy_back (w : World) {ops : Array Oper} {rest : List Oper} {o : Oper} {a : Act} {Q : Exit → Act → World → Prop}
    (hgd : o.guard = none) (d s : Operand) (hop : o.op = .call { callee := .builtin .copy, args := #[d, s], argTypes := #[22, 22] })
    (g n capD capS : Nat) (sp : Option Addr) (src T : List Int) (hrow : Rm w g T) (hT : T.length = src.length) (hd : a.eval d = .slice (some ⟨g, 0, none⟩) n capD) (hs : a.eval s = .slice sp n capS)
    (hlen : src.length = n) (hsl : Sl w.heap.size w (.slice sp n capS) src) (W0 : World) (hb : Below W0.heap.size W0 w) (hg : W0.heap.size ≤ g)
    (hK : ∀ w', Hid (Rm w' g src) → Hid (Below W0.heap.size W0 w') → wpList Tryz.prog ops Q rest (a.put o.dst (goInt n)) w') :
    wpList Tryz.prog ops Q (o :: rest) a w := by
  refine wpList_copy_splice hgd d s 22 22 hop 38 Tryz.underlying22 Tryz.sizeW _ _ n capD n capS hd hs g 0 (ws (roomy T)) 38 hrow (ws src) (by simp [length_ws, hlen]) ?_ (by rw [length_ws, length_ws, roomy_len, hT]; omega) ?_ W0.heap.size W0 hb hg ?_
  · intro hpos
    obtain ⟨_, a', cap', e, _, _, q⟩ := hsl
    injection e with e1 e2 e3
    subst e1
    rcases q with rfl | ⟨b, off, hsp, _, hc⟩
    · simp [ws] at hpos
    · refine ⟨rfl, _, hsp, fun j v hj => ?_⟩
      have hj' : j < src.length := by
        have := (List.getElem?_eq_some_iff.1 hj).1
        simpa [length_ws] using this
      have : (ws src)[j]? = some (.int .u64 src[j]) := by simp [ws, hj']
      rw [this] at hj
      rw [← hj]
      rw [addr4]
      exact hc j hj'
  · intro v hv
    simp only [ws, List.mem_map] at hv
    obtain ⟨x, _, rfl⟩ := hv
    rfl
  · intro w' h1 h2
    have := hK w' (Rm.back hT hlen h1) h2
    simpa [length_ws, hlen] using this
def KeH (W3 : World) (g : Nat) (xs : List Int) (gk : Nat) (s20 : Value) (wx : World) : Prop := ∃ k : Nat, gk = 5 - k ∧ s20 = .int .i64 (k : Int) ∧ 1 ≤ k ∧ k ≤ 5 ∧ Rm wx g xs ∧ Below W3.heap.size W3 wx
def KxH (W3 : World) (g n : Nat) (xs : List Int) (gk : Nat) (s21 : Value) (wx : World) : Prop := ∃ j : Nat, gk = n - j ∧ s21 = .int .i64 (j : Int) ∧ j ≤ n ∧ Rm wx g (xorU xs j) ∧ Below W3.heap.size W3 wx
/-- What the loop goes by, at every later world. -/
def Kf (q : Nat) (k1 b1 k2 b2 : Int) (v1 v2 vw vp : Value) (s1 s2 : ByteArray) (xs zw zp : List Int) (wr : World) : Prop :=
  Fk q k1 b1 k2 b2 v1 v2 s1 s2 wr ∧ Sg wr ∧ Sl wr.heap.size wr v1 xs ∧ Sl wr.heap.size wr vw zw ∧ Sl wr.heap.size wr vp zp
end Go.Proofs.YtiiemeigbnnlpaaGreatDoor
