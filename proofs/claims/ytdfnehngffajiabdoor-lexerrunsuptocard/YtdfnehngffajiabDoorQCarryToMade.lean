/-
  QCarryToMade: Carry, Made, joined.
-/
import Derived.Test.YtdfnehngffajiabDoorQBaseToSt25
import Derived.Laws.Externs
import Derived.Shelf.Spec.BitsCarry
import Derived.Deep.RegionHeld3
import Derived.Laws.CopyOwn

/- Carry -/
namespace Go.Proofs.YtdfnehngffajiabDoor
open Go.RowKit

theorem add64_run {x y c : Int} (hx : IsW x) (hy : IsW y) (hc0 : 0 ≤ c) (hc : c ≤ 1) :
    ∃ s d, IsW s ∧ 0 ≤ d ∧ d ≤ 1 ∧ s + wB * d = x + y + c ∧
      ∀ w : World, (callFunc 63 #[.int .u64 x, .int .u64 y, .int .u64 c]).run Tryd.prog w = .ok (.value (.tuple #[.int .u64 s, .int .u64 d])) w := by
  refine ⟨(x + y + c) % 18446744073709551616, (x + y + c) / 18446744073709551616, ?_, ?_, ?_, ?_, fun w => ?_⟩
  · unfold IsW wB; omega
  · unfold IsW wB at hx hy; omega
  · unfold IsW wB at hx hy; omega
  · unfold wB; omega
  · rw [run_callFunc_extern Tryd.func63 (by kernel_rfl) (by kernel_rfl) (by kernel_rfl) (e := add64Entry) (by kernel_rfl), run_add64 x y c hx.1 hy.1 hc0 hc]
    rfl
theorem sub64_run {x y c : Int} (hx : IsW x) (hy : IsW y) (hc0 : 0 ≤ c) (hc : c ≤ 1) :
    ∃ s d, IsW s ∧ 0 ≤ d ∧ d ≤ 1 ∧ s - wB * d = x - y - c ∧
      ∀ w : World, (callFunc 70 #[.int .u64 x, .int .u64 y, .int .u64 c]).run Tryd.prog w = .ok (.value (.tuple #[.int .u64 s, .int .u64 d])) w := by
  unfold IsW wB at hx hy
  obtain ⟨X, rfl⟩ := Int.eq_ofNat_of_zero_le hx.1
  obtain ⟨Y, rfl⟩ := Int.eq_ofNat_of_zero_le hy.1
  obtain ⟨C, rfl⟩ := Int.eq_ofNat_of_zero_le hc0
  refine ⟨(((X + 18446744073709551616 - Y - C) % 18446744073709551616 : Nat) : Int), ((if X < Y + C then 1 else 0 : Nat) : Int), ?_, ?_, ?_, ?_, fun w => ?_⟩
  · unfold IsW wB; omega
  · omega
  · split <;> omega
  · unfold wB; split <;> omega
  · rw [run_callFunc_extern Tryd.func70 (by kernel_rfl) (by kernel_rfl) (by kernel_rfl) (e := sub64Entry) (by kernel_rfl), run_sub64 X Y C (by omega)]
    rfl

/-- Block g holds the cells L, none of them frozen. -/
def Row (w : World) (g : Nat) (L : List Value) : Prop := w.heap[g]? = some (.cells L.toArray 78 (0, 0))
theorem Row.lt {w : World} {g : Nat} {L : List Value} (h : Row w g L) : g < w.heap.size := (Array.getElem?_eq_some_iff.1 h).1
theorem Row.cell {w : World} {g : Nat} {L : List Value} (h : Row w g L) {i : Nat} (hi : i < L.length) : w.cell? ⟨g, i, none⟩ = some L[i] := by
  unfold Row at h
  simp [World.cell?, h, hi]
theorem Row.frozen {w : World} {g : Nat} {L : List Value} (h : Row w g L) (i : Nat) : w.frozen? ⟨g, i, none⟩ = false := by
  unfold Row at h
  simp [World.frozen?, h]
theorem Row.set {w : World} {g : Nat} {L : List Value} (h : Row w g L) (i : Nat) (u : Value) : Row (w.setCell ⟨g, i, none⟩ u) g (L.set i u) := by
  unfold Row at h ⊢
  simp [World.setCell, Array.getElem?_modify, h]
theorem Row.alloc {w : World} {g : Nat} {L : List Value} (h : Row w g L) (o : Obj) : Row (w.alloc o) g L := (Below.heap_alloc w o g h.lt).trans h
theorem Row.drewN {w : World} {g : Nat} {L : List Value} (h : Row w g L) (n : Nat) : Row (w.drewN n) g L := h
theorem Row.below {w w' : World} {g B : Nat} {L : List Value} (h : Row w g L) (hb : Below B w w') (hg : g < B) : Row w' g L := (hb.block g hg).trans h
/-- The words as cells. -/
def ws (xs : List Int) : List Value := xs.map (Value.int .u64)
theorem length_ws (xs : List Int) : (ws xs).length = xs.length := by simp [ws]
theorem ws_set (xs : List Int) (r : List Value) (i : Nat) (h : i < xs.length) (z : Int) : (ws xs ++ r).set i (.int .u64 z) = ws (xs.set i z) ++ r := by
  rw [List.set_append_left _ _ (by rw [length_ws]; exact h), ws, ws, List.map_set]
theorem Row.word {w : World} {g : Nat} {xs : List Int} {r : List Value} (h : Row w g (ws xs ++ r)) {i : Nat} (hi : i < xs.length) : w.cell? ⟨g, i, none⟩ = some (.int .u64 xs[i]) := by
  rw [h.cell (i := i) (by simp [length_ws]; omega)]
  simp [ws, hi]
theorem Row.setWord {w : World} {g : Nat} {xs : List Int} {r : List Value} (h : Row w g (ws xs ++ r)) {i : Nat} (hi : i < xs.length) (z : Int) : Row (w.setCell ⟨g, i, none⟩ (.int .u64 z)) g (ws (xs.set i z) ++ r) := by
  rw [← ws_set xs r i hi]; exact h.set i _
/-- A row's head as a slice. -/
theorem Row.sl {w : World} {g : Nat} {xs : List Int} {r : List Value} (h : Row w g (ws xs ++ r)) (hw : WF xs) {cap : Nat} (hc : xs.length ≤ cap) (hm : cap ≤ 35184372088832) {B : Nat} (hB : g < B) :
    Sl B w (.slice (some ⟨g, 0, none⟩) xs.length cap) xs :=
  ⟨hw, _, cap, rfl, hc, by omega, .inr ⟨g, 0, rfl, hB, fun j hj => by rw [Nat.zero_add]; exact h.word hj⟩⟩

theorem carry_step {xs zs : List Int} {ysT ysT' p y s d c : Int} {i : Nat} (hi : i < zs.length) (hv : val zs + pw i * c = val xs + ysT) (hT : ysT' = ysT + y * pw i)
    (hs : s + wB * d = zs[i] + y + c) (hp : p = pw (i + 1)) : val (zs.set i s) + p * d = val xs + ysT' := by
  subst hp
  rw [val_set zs i s hi, hT]
  generalize hz : zs[i] = z at *
  have e : s = z + y + c - wB * d := by omega
  subst e
  simp only [pw, Int.sub_mul, Int.add_mul, Int.mul_assoc, Int.mul_comm c (pw i), Int.mul_comm d (pw i)]
  omega
theorem borrow_step {xs zs : List Int} {ysT ysT' p y s d c : Int} {i : Nat} (hi : i < zs.length) (hv : val zs - pw i * c = val xs - ysT) (hT : ysT' = ysT + y * pw i)
    (hs : s - wB * d = zs[i] - y - c) (hp : p = pw (i + 1)) : val (zs.set i s) - p * d = val xs - ysT' := by
  subst hp
  rw [val_set zs i s hi, hT]
  generalize hz : zs[i] = z at *
  have e : s = z - y - c + wB * d := by omega
  subst e
  simp only [pw, Int.sub_mul, Int.add_mul, Int.mul_assoc, Int.mul_comm c (pw i), Int.mul_comm d (pw i)]
  omega
end Go.Proofs.YtdfnehngffajiabDoor

/- Made -/
namespace Go.Proofs.YtdfnehngffajiabDoor
open Go.RowKit

theorem Tryd.infoW : (Tryd.prog.info? 78).map (fun i => (i.zero, i.size, i.bytes)) = some (some (.int .u64 0), 1, 8) := by kernel_rfl
theorem Tryd.sizeW : (Tryd.prog.info? 78).map (·.size) = some 1 := by kernel_rfl

theorem madeCells_words (m : Nat) : madeCells (Value.int .u64 0).cells m = (ws (List.replicate m 0)).toArray := by
  apply Array.ext
  · simp [size_madeCells, ws]
  · intro i h1 h2
    simp [madeCells, ws, Value.cells, Nat.mod_one]

theorem wpList_make_words (w : World) {ops : Array Oper} {rest : List Oper} {o : Oper} {a : Act} {Q : Exit → Act → World → Prop}
    (hg : o.guard = none) (l c : Operand) (hop : o.op = Op.makeSlice 34 l c)
    (L C : Int) (n m : Nat) (hl : a.eval l = .int .i64 L) (hc : a.eval c = .int .i64 C) (hL : L = (n : Int)) (hC : C = (m : Int)) (hnm : n ≤ m) (hm : m ≤ 35184372088832)
    (hK : ∀ w', Row w' w.heap.size (ws (List.replicate m 0)) → Below w.heap.size w w' → Hid (w'.heap.size = w.heap.size + 1) → wpList Tryd.prog ops Q rest (a.put o.dst (.slice (some ⟨w.heap.size, 0, none⟩) n m)) w') :
    wpList Tryd.prog ops Q (o :: rest) a w := by
  refine wpList_plain hg fun K hK' => ?_
  obtain ⟨i, hi, hz, hs, hb⟩ := info_parts Tryd.infoW
  have hrun := run_make (P := Tryd.prog) w 34 78 i (.int .u64 0) Tryd.underlying34 hi hz .i64 .i64 n m (by omega) (by omega) (by rw [hb]; omega) (by omega)
  subst hL
  subst hC
  rw [hs, Nat.mul_one, Int.toNat_natCast, Int.toNat_natCast, madeCells_words] at hrun
  unfold Oper.wp
  simp [execOp, hop, hl, hc, hrun, Result.andThen]
  refine hK' _ _ (hK _ ?_ ((Below.refl _ _).alloc (Nat.le_refl _) _) ?_)
  · unfold Row; exact heap_alloc_new w _
  · unfold Hid; simp

theorem splice_words (N n : Nat) (src : List Int) (h : src.length = n) : splice (ws (List.replicate N 0)) 0 (ws src) = ws (src ++ List.replicate (N - n) 0) := by
  subst h
  simp [splice, ws]

theorem wpList_copy_words (w : World) {ops : Array Oper} {rest : List Oper} {o : Oper} {a : Act} {Q : Exit → Act → World → Prop}
    (hgd : o.guard = none) (d s : Operand) (hop : o.op = .call { callee := .builtin .copy, args := #[d, s], argTypes := #[34, 34] })
    (g N n capD capS : Nat) (sp : Option Addr) (src : List Int) (hrow : Row w g (ws (List.replicate N 0))) (hd : a.eval d = .slice (some ⟨g, 0, none⟩) n capD) (hs : a.eval s = .slice sp n capS)
    (hlen : src.length = n) (hnN : n ≤ N)
    (hsl : src = [] ∨ ∃ b off, sp = some ⟨b, off, none⟩ ∧ b < g ∧ ∀ j (h : j < src.length), w.cell? ⟨b, off + j, none⟩ = some (.int .u64 src[j]))
    (hK : ∀ w', Row w' g (ws (src ++ List.replicate (N - n) 0)) → Below g w w' → wpList Tryd.prog ops Q rest (a.put o.dst (goInt n)) w') :
    wpList Tryd.prog ops Q (o :: rest) a w := by
  refine wpList_copy_splice hgd d s 34 34 hop 78 Tryd.underlying34 Tryd.sizeW _ _ n capD n capS hd hs g 0 (ws (List.replicate N 0)) 78 hrow (ws src) (by simp [length_ws, hlen]) ?_ (by simp [length_ws]; omega) ?_ g w (Below.refl _ _) (Nat.le_refl _) ?_
  · intro hpos
    rcases hsl with rfl | ⟨b, off, hsp, _, hc⟩
    · simp [ws] at hpos
    · refine ⟨rfl, _, hsp, fun j v hj => ?_⟩
      have hj' : j < src.length := by
        have := (List.getElem?_eq_some_iff.1 hj).1
        simpa [length_ws] using this
      have : (ws src)[j]? = some (.int .u64 src[j]) := by simp [ws, hj']
      rw [this] at hj
      rw [← hj]
      have e : (⟨b, off, none⟩ : Addr).add j = ⟨b, off + j, none⟩ := by unfold Addr.add; split <;> simp_all
      rw [e]
      exact hc j hj'
  · intro v hv
    simp only [ws, List.mem_map] at hv
    obtain ⟨x, _, rfl⟩ := hv
    rfl
  · intro w' h1 h2
    have := hK w' (by unfold Row; rw [← splice_words N n src hlen]; exact h1.out) h2
    simpa [length_ws, hlen] using this

/-- A slice cut behind its first n words. -/
theorem Sl.source {B : Nat} {w : World} {a : Option Addr} {xs : List Int} {n : Nat} (hm : xs = [] ∨ ∃ b off, a = some ⟨b, off, none⟩ ∧ b < B ∧ ∀ j (h : j < xs.length), w.cell? ⟨b, off + j, none⟩ = some (.int .u64 xs[j])) :
    xs.take n = [] ∨ ∃ b off, a = some ⟨b, off, none⟩ ∧ b < B ∧ ∀ j (h : j < (xs.take n).length), w.cell? ⟨b, off + j, none⟩ = some (.int .u64 (xs.take n)[j]) := by
  rcases hm with rfl | ⟨b, off, h1, h2, h3⟩
  · exact .inl (by simp)
  · refine .inr ⟨b, off, h1, h2, fun j hj => ?_⟩
    simp only [List.length_take] at hj
    rw [h3 j (by omega)]
    simp
theorem Sl.sourceB {B B' : Nat} {w w' : World} {a : Option Addr} {xs : List Int} (hm : xs = [] ∨ ∃ b off, a = some ⟨b, off, none⟩ ∧ b < B ∧ ∀ j (h : j < xs.length), w.cell? ⟨b, off + j, none⟩ = some (.int .u64 xs[j])) (hb : Below B' w w') (hB : B ≤ B') :
    xs = [] ∨ ∃ b off, a = some ⟨b, off, none⟩ ∧ b < B' ∧ ∀ j (h : j < xs.length), w'.cell? ⟨b, off + j, none⟩ = some (.int .u64 xs[j]) := by
  rcases hm with h | ⟨b, off, h1, h2, h3⟩
  · exact .inl h
  · exact .inr ⟨b, off, h1, by omega, fun j hj => (hb.cell (p := ⟨b, off + j, none⟩) (by show b < B'; omega)).trans (h3 j hj)⟩

set_option maxHeartbeats 800000 in
theorem least_any {w : World} {v : Value} {xs : List Int} (h : Sl w.heap.size w v xs) :
    Calls Tryd.prog 67 #[v] w fun e w' => e = .returned (.slice (some ⟨w.heap.size, 0, none⟩) (wid xs) (wid xs)) ∧ Row w' w.heap.size (ws (lst xs)) ∧ Below w.heap.size w w' ∧ w.heap.size < w'.heap.size := by
  have hs := h
  obtain ⟨hw, a, cap, rfl, hlc, hcm, hm⟩ := h
  have HW1 := width_any hs
  have l1 := wid_le xs
  have HL : Hid ((lst xs).length = wid xs) := length_lst xs
  have hsrc := Sl.source (n := wid xs) hm
  change lst xs = [] ∨ ∃ b off, a = some ⟨b, off, none⟩ ∧ b < w.heap.size ∧ ∀ j (h : j < (lst xs).length), w.cell? ⟨b, off + j, none⟩ = some (.int .u64 (lst xs)[j]) at hsrc
  have HSRC := hid hsrc
  generalize lst xs = L at *
  generalize wid xs = n at *
  clear hm hsrc hs hw
  go_enter Tryd.func67, Tryd.ntmps67
  go_wp2_with fail
  refine HW1.mono ?_
  rintro e w1 ⟨rfl, rfl⟩
  clear HW1
  go_wp2_with (at_make; refine wpList_make_words _ rfl _ _ rfl _ _ n n rfl rfl rfl rfl (Nat.le_refl _) (by omega) ?_)
  intro w2 hrow hb2 hsz2
  have hsrc2 := hid (Sl.sourceB HSRC.out hb2 (Nat.le_refl _))
  have hhs : w1.heap.size < w2.heap.size := by have := hsz2.out; omega
  clear HSRC
  go_wp2_with (refine wpList_copy_words _ rfl (.tmp 9) (.tmp 12) rfl w1.heap.size n n _ _ _ L hrow rfl rfl HL.out (Nat.le_refl _) hsrc2.out ?_)
  intro w3 hrow3 hb3
  have hrow4 : Hid (Row w3 w1.heap.size (ws L)) := by unfold Hid; simpa using hrow3
  clear hrow3 hrow hsrc2
  go_wp2
  go_ret
  exact ⟨rfl, hrow4.out, hb2.trans hb3, Nat.lt_of_lt_of_le hhs hb3.size⟩
end Go.Proofs.YtdfnehngffajiabDoor
