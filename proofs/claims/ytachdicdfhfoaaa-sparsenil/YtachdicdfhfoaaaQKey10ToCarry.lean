/-
  QKey10ToCarry: Key10, Carry, joined.
-/
import Derived.Test.YtachdicdfhfoaaaQMap10
import Derived.Test.YtachdicdfhfoaaaQBaseToOpen
import Derived.Laws.Externs
import Derived.Shelf.Spec.BitsCarry
import Derived.Deep.RegionHeld3
import Derived.Laws.CopyOwn

/- Key10 -/
namespace Go.Proofs.Ytachdicdfhfoaaa
open Go.RowKit Go.ChangeMaps Go.MapKept Go.WideShapes
open Go.Maps (Keyed)
set_option linter.unusedVariables false

/-- A place as a key. -/
def spv (s : Nat × Nat) : Value := .agg #[.int .i64 (s.1 : Int), .int .i64 (s.2 : Int)]
def spok (s : Nat × Nat) : Prop := s.1 < 1048576 ∧ s.2 < 1048576
theorem Try.laidOut10 : laidOutB Try.prog = true := by kernel_rfl
theorem Try.row10 : (71 : TypeId) < Try.prog.types.size := of_decide_eq_true (by kernel_rfl)
theorem Try.map10 : Try.prog.underlying 66 = some (.map 71 35) := by kernel_rfl
theorem Try.kt10 : Try.prog.keyTypeAt 2 71 = true := by kernel_rfl
theorem m10 : 2 + 1 ≤ 10000 := Nat.le_of_ble_eq_true rfl
theorem Try.deep10 : WideMaps.KeyLaw Try.prog 71 := deep_law_laid Try.laidOut10 (m := 2) m10 Try.row10 Try.kt10 (by rw [Try.underlying71])
theorem Try.ktype10 : Try.prog.keyType 71 = true := by kernel_rfl
theorem Try.cellsI10 : Try.prog.cellsOf 3 = 1 := by kernel_rfl
theorem Try.cellsS10 : Try.prog.cellsOf 71 = 2 := by kernel_rfl
theorem nat_wf {n : Nat} (h : n < 1048576) : (Lit.int .i64 (n : Int)).wf = true := by
  simp only [Lit.wf, Bool.and_eq_true, decide_eq_true_eq]
  exact ⟨by have : IntKind.i64.min = -9223372036854775808 := by rfl
            omega, by have : IntKind.i64.max = 9223372036854775807 := by rfl
                      omega⟩
theorem keyOf_spot {s : Nat × Nat} (h : spok s) : ∃ l, keyOf Try.prog 71 (spv s) = some l := by
  have hz : 1 ≤ Try.prog.types.size := Nat.lt_of_le_of_lt (Nat.zero_le _) Try.row10
  obtain ⟨n, hn⟩ : ∃ n : Nat, Try.prog.types.size + 1 = n + 2 := ⟨Try.prog.types.size - 1, by omega⟩
  have h1 := nat_wf h.1
  have h2 := nat_wf h.2
  unfold keyOf
  rw [Try.underlying71, hn]
  simp [Try.ktype10, spv, Value.formed, Try.underlying71, Program.keyLits, Value.cells, Try.underlying3, Try.cellsI10, Try.cellsS10, h1, h2]
theorem spv_inj {a b : Nat × Nat} (h : spv a = spv b) : a = b := by
  simp only [spv, Value.agg.injEq, Array.mk.injEq, List.cons.injEq, Value.int.injEq, and_true, true_and] at h
  exact Prod.ext (by have := h.1; omega) (by have := h.2; omega)
theorem ks10 : Ks Try.prog 71 spv spok := ⟨Keyed.of_law Try.deep10, spv_inj, keyOf_spot⟩
/-- A row's number as a key. -/
def inv (i : Nat) : Value := .int .i64 (i : Int)
def inok (i : Nat) : Prop := i < 1048576
theorem ki10 : Ks Try.prog 3 inv inok := ⟨Maps.int_keyed Try.underlying3, fun h => by simp only [inv, Value.int.injEq, true_and] at h; omega, fun h => ⟨_, Maps.keyOf_int_mk Try.underlying3 (nat_wf h)⟩⟩
theorem Try.mapR10 : Try.prog.underlying 88 = some (.map 3 66) := by kernel_rfl
theorem zero10 (w : World) : (zeroValue 35).run Try.prog w = .ok (.agg #[.bool false, .slice none 0 0]) w := by go_simp
theorem zeroR10 (w : World) : (zeroValue 66).run Try.prog w = .ok (.map none) w := by go_simp
end Go.Proofs.Ytachdicdfhfoaaa

/- Carry -/
namespace Go.Proofs.Ytachdicdfhfoaaa
open Go.RowKit

theorem add64_run {x y c : Int} (hx : IsW x) (hy : IsW y) (hc0 : 0 ≤ c) (hc : c ≤ 1) :
    ∃ s d, IsW s ∧ 0 ≤ d ∧ d ≤ 1 ∧ s + wB * d = x + y + c ∧
      ∀ w : World, (callFunc 111 #[.int .u64 x, .int .u64 y, .int .u64 c]).run Try.prog w = .ok (.value (.tuple #[.int .u64 s, .int .u64 d])) w := by
  refine ⟨(x + y + c) % 18446744073709551616, (x + y + c) / 18446744073709551616, ?_, ?_, ?_, ?_, fun w => ?_⟩
  · unfold IsW wB; omega
  · unfold IsW wB at hx hy; omega
  · unfold IsW wB at hx hy; omega
  · unfold wB; omega
  · rw [run_callFunc_extern Try.func111 (by kernel_rfl) (by kernel_rfl) (by kernel_rfl) (e := add64Entry) (by kernel_rfl), run_add64 x y c hx.1 hy.1 hc0 hc]
    rfl
theorem sub64_run {x y c : Int} (hx : IsW x) (hy : IsW y) (hc0 : 0 ≤ c) (hc : c ≤ 1) :
    ∃ s d, IsW s ∧ 0 ≤ d ∧ d ≤ 1 ∧ s - wB * d = x - y - c ∧
      ∀ w : World, (callFunc 113 #[.int .u64 x, .int .u64 y, .int .u64 c]).run Try.prog w = .ok (.value (.tuple #[.int .u64 s, .int .u64 d])) w := by
  unfold IsW wB at hx hy
  obtain ⟨X, rfl⟩ := Int.eq_ofNat_of_zero_le hx.1
  obtain ⟨Y, rfl⟩ := Int.eq_ofNat_of_zero_le hy.1
  obtain ⟨C, rfl⟩ := Int.eq_ofNat_of_zero_le hc0
  refine ⟨(((X + 18446744073709551616 - Y - C) % 18446744073709551616 : Nat) : Int), ((if X < Y + C then 1 else 0 : Nat) : Int), ?_, ?_, ?_, ?_, fun w => ?_⟩
  · unfold IsW wB; omega
  · omega
  · split <;> omega
  · unfold wB; split <;> omega
  · rw [run_callFunc_extern Try.func113 (by kernel_rfl) (by kernel_rfl) (by kernel_rfl) (e := sub64Entry) (by kernel_rfl), run_sub64 X Y C (by omega)]
    rfl

/-- Block g holds the cells L, none of them frozen. -/
def Row (w : World) (g : Nat) (L : List Value) : Prop := w.heap[g]? = some (.cells L.toArray 62 (0, 0))
theorem Row.lt {w : World} {g : Nat} {L : List Value} (h : Row w g L) : g < w.heap.size := (Array.getElem?_eq_some_iff.1 h).1
theorem Row.cell {w : World} {g : Nat} {L : List Value} (h : Row w g L) {i : Nat} (hi : i < L.length) : w.cell? ⟨g, i, none⟩ = some L[i] := by
  unfold Row at h
  simp [World.cell?, h, hi]
theorem Row.frozen {w : World} {g : Nat} {L : List Value} (h : Row w g L) (i : Nat) : w.frozen? ⟨g, i, none⟩ = false := by
  unfold Row at h
  simp [World.frozen?, h]
theorem Row.set {w : World} {g : Nat} {L : List Value} (h : Row w g L) (i : Nat) (u : Value) : Row (w.setCell ⟨g, i, none⟩ u) g (L.set i u) := by
  unfold Row at h ⊢
  simp [World.setCell, Array.getElem?_modify, h]
theorem Row.alloc {w : World} {g : Nat} {L : List Value} (h : Row w g L) (o : Obj) : Row (w.alloc o) g L := (Below.heap_alloc w o g h.lt).trans h
theorem Row.drewN {w : World} {g : Nat} {L : List Value} (h : Row w g L) (n : Nat) : Row (w.drewN n) g L := h
theorem Row.below {w w' : World} {g B : Nat} {L : List Value} (h : Row w g L) (hb : Below B w w') (hg : g < B) : Row w' g L := (hb.block g hg).trans h
/-- The words as cells. -/
def ws (xs : List Int) : List Value := xs.map (Value.int .u64)
theorem length_ws (xs : List Int) : (ws xs).length = xs.length := by simp [ws]
theorem ws_set (xs : List Int) (r : List Value) (i : Nat) (h : i < xs.length) (z : Int) : (ws xs ++ r).set i (.int .u64 z) = ws (xs.set i z) ++ r := by
  rw [List.set_append_left _ _ (by rw [length_ws]; exact h), ws, ws, List.map_set]
theorem Row.word {w : World} {g : Nat} {xs : List Int} {r : List Value} (h : Row w g (ws xs ++ r)) {i : Nat} (hi : i < xs.length) : w.cell? ⟨g, i, none⟩ = some (.int .u64 xs[i]) := by
  rw [h.cell (i := i) (by simp [length_ws]; omega)]
  simp [ws, hi]
theorem Row.setWord {w : World} {g : Nat} {xs : List Int} {r : List Value} (h : Row w g (ws xs ++ r)) {i : Nat} (hi : i < xs.length) (z : Int) : Row (w.setCell ⟨g, i, none⟩ (.int .u64 z)) g (ws (xs.set i z) ++ r) := by
  rw [← ws_set xs r i hi]; exact h.set i _
/-- A row's head as a slice. -/
theorem Row.sl {w : World} {g : Nat} {xs : List Int} {r : List Value} (h : Row w g (ws xs ++ r)) (hw : WF xs) {cap : Nat} (hc : xs.length ≤ cap) (hm : cap ≤ 35184372088832) {B : Nat} (hB : g < B) :
    Sl B w (.slice (some ⟨g, 0, none⟩) xs.length cap) xs :=
  ⟨hw, _, cap, rfl, hc, by omega, .inr ⟨g, 0, rfl, hB, fun j hj => by rw [Nat.zero_add]; exact h.word hj⟩⟩

theorem carry_step {xs zs : List Int} {ysT ysT' p y s d c : Int} {i : Nat} (hi : i < zs.length) (hv : val zs + pw i * c = val xs + ysT) (hT : ysT' = ysT + y * pw i)
    (hs : s + wB * d = zs[i] + y + c) (hp : p = pw (i + 1)) : val (zs.set i s) + p * d = val xs + ysT' := by
  subst hp
  rw [val_set zs i s hi, hT]
  generalize hz : zs[i] = z at *
  have e : s = z + y + c - wB * d := by omega
  subst e
  simp only [pw, Int.sub_mul, Int.add_mul, Int.mul_assoc, Int.mul_comm c (pw i), Int.mul_comm d (pw i)]
  omega
theorem borrow_step {xs zs : List Int} {ysT ysT' p y s d c : Int} {i : Nat} (hi : i < zs.length) (hv : val zs - pw i * c = val xs - ysT) (hT : ysT' = ysT + y * pw i)
    (hs : s - wB * d = zs[i] - y - c) (hp : p = pw (i + 1)) : val (zs.set i s) - p * d = val xs - ysT' := by
  subst hp
  rw [val_set zs i s hi, hT]
  generalize hz : zs[i] = z at *
  have e : s = z - y - c + wB * d := by omega
  subst e
  simp only [pw, Int.sub_mul, Int.add_mul, Int.mul_assoc, Int.mul_comm c (pw i), Int.mul_comm d (pw i)]
  omega
end Go.Proofs.Ytachdicdfhfoaaa
