/-
  QOpenToCarry: Open, Bulk, Carry, joined.
-/
import Derived.Test.YtnpcfohimlfbdaaQBase
import Derived.ProofKit
import Derived.SizedLaws
import Derived.ChangeOld
import Derived.OpenShut
import Derived.Test.YtnpcfohimlfbdaaRows
import Derived.Laws.Externs
import Derived.Shelf.Spec.BitsCarry
import Derived.Deep.RegionHeld3
import Derived.Laws.CopyOwn

/- Open -/
namespace Go.Proofs.Ytnpcfohimlfbdaa
open Go.ChangeShapes Go.WideShapes Go.ChangeAt Go.RowKit

theorem Try.own : ownKnob Try.prog.godebug = none := by kernel_rfl
theorem Try.laidOut : laidOutB Try.prog = true := by kernel_rfl
theorem Try.cellsW : Try.prog.cellsOf 37 = 1 := by kernel_rfl
theorem word_of_wf {n : Int} (h : (Lit.int .u64 n).wf = true) : IsW n := by
  have h1 : IntKind.u64.min = 0 := rfl
  have h2 : IntKind.u64.max = 18446744073709551615 := rfl
  simp only [Lit.wf, Bool.and_eq_true, decide_eq_true_eq] at h
  unfold IsW wB
  omega

end Go.Proofs.Ytnpcfohimlfbdaa

/- Bulk -/
namespace Go.Proofs.Ytnpcfohimlfbdaa
open Go.ChangeShapes Go.WideShapes Go.ChangeAt Go.RowKit

/-- A slice value as it comes in: nil, or at a place. -/
def Formed (v : Value) : Prop := v = .slice none 0 0 ∨ ∃ ad n c, v = .slice (some ad) n c
theorem bulk_pos {H : Type} (d : DataW H) : 1 ≤ Rows.uptoBulk d := by
  cases d
  case lit l => cases l <;> simp [Rows.uptoBulk]
  all_goals simp [Rows.uptoBulk]
theorem bulk_in {H : Type} {d : DataW H} : ∀ {l : List (DataW H)}, d ∈ l → Rows.uptoBulk d ≤ Rows.uptoBulkAll l
  | [], h => by cases h
  | x :: r, h => by
    simp only [Rows.uptoBulkAll]
    rcases List.mem_cons.1 h with rfl | h'
    · omega
    · have := bulk_in h'; omega
theorem bulk_len {H : Type} : ∀ l : List (DataW H), l.length ≤ Rows.uptoBulkAll l
  | [] => Nat.zero_le _
  | x :: r => by
    have h1 := bulk_pos x
    have h2 := bulk_len r
    simp only [Rows.uptoBulkAll, List.length_cons]
    omega

theorem open_words3 {H : Type} {enc : TypeId × Value → H} {W : World} {fuel : Nat} {v : Value} {x : DataW H × List MemPlace}
    (hf : DataW.trod enc Try.prog W 0 (fun _ => true) true fuel 23 [v] = some x) (hb : Rows.uptoBulk x.1 ≤ 1048576) :
    ∃ xs, Sl W.heap.size W v xs ∧ xs.length + 1 ≤ Rows.uptoBulk x.1 ∧ Formed v := by
  rcases open_ints Try.underlying23 Try.underlying37 Try.cellsW hf with ⟨hcs, _⟩ | ⟨x', len, cap, zs, hcs, _, hl, hm, hz, hx, hcell, hwz⟩
  · simp only [List.cons.injEq, and_true] at hcs
    subst hcs
    exact ⟨[], Sl.nilAt W, bulk_pos _, .inl rfl⟩
  · simp only [List.cons.injEq, and_true] at hcs
    subst hcs
    simp only [if_true] at hz
    rw [hx] at hb ⊢
    simp only [Rows.uptoBulk] at hb ⊢
    have e1 := bulk_len (lits (H := H) .u64 (zs.take len))
    have e2 := bulk_len (lits (H := H) .u64 (zs.drop len))
    simp only [lits, List.length_map, List.length_take, List.length_drop] at e1 e2
    have hlen : (zs.take len).length = len := by simp; omega
    have hzl : zs.length ≤ 1048576 := by simp only [lits] at hb; omega
    refine ⟨zs.take len, ⟨fun y hy => word_of_wf (hwz y (List.mem_of_mem_take hy)), some x', cap, by rw [hlen], by rw [hlen]; exact hl, by omega, ?_⟩, by rw [hlen]; simp only [lits]; omega, .inr ⟨x', len, cap, rfl⟩⟩
    by_cases he : len = 0
    · exact .inl (by simp [he])
    · obtain ⟨b, off, spot⟩ := x'
      have hc := hcell 0 (by omega)
      have hspot : spot = none := by simpa [Addr.add] using World.cell?_spot hc
      subst hspot
      refine .inr ⟨b, off, rfl, ?_, fun j hj => ?_⟩
      · have := World.block_lt_of_cell? W _ hc
        simpa [Addr.add] using this
      · rw [hlen] at hj
        have hcj := hcell j (by omega)
        have e : (⟨b, off, none⟩ : Addr).add j = ⟨b, off + j, none⟩ := by unfold Addr.add; split <;> simp_all
        rw [e] at hcj
        rw [hcj]
        simp [show j < zs.length by omega]

end Go.Proofs.Ytnpcfohimlfbdaa

/- Carry -/
namespace Go.Proofs.Ytnpcfohimlfbdaa
open Go.RowKit

theorem add64_run {x y c : Int} (hx : IsW x) (hy : IsW y) (hc0 : 0 ≤ c) (hc : c ≤ 1) :
    ∃ s d, IsW s ∧ 0 ≤ d ∧ d ≤ 1 ∧ s + wB * d = x + y + c ∧
      ∀ w : World, (callFunc 61 #[.int .u64 x, .int .u64 y, .int .u64 c]).run Try.prog w = .ok (.value (.tuple #[.int .u64 s, .int .u64 d])) w := by
  refine ⟨(x + y + c) % 18446744073709551616, (x + y + c) / 18446744073709551616, ?_, ?_, ?_, ?_, fun w => ?_⟩
  · unfold IsW wB; omega
  · unfold IsW wB at hx hy; omega
  · unfold IsW wB at hx hy; omega
  · unfold wB; omega
  · rw [run_callFunc_extern Try.func61 (by kernel_rfl) (by kernel_rfl) (by kernel_rfl) (e := add64Entry) (by kernel_rfl), run_add64 x y c hx.1 hy.1 hc0 hc]
    rfl
theorem sub64_run {x y c : Int} (hx : IsW x) (hy : IsW y) (hc0 : 0 ≤ c) (hc : c ≤ 1) :
    ∃ s d, IsW s ∧ 0 ≤ d ∧ d ≤ 1 ∧ s - wB * d = x - y - c ∧
      ∀ w : World, (callFunc 62 #[.int .u64 x, .int .u64 y, .int .u64 c]).run Try.prog w = .ok (.value (.tuple #[.int .u64 s, .int .u64 d])) w := by
  unfold IsW wB at hx hy
  obtain ⟨X, rfl⟩ := Int.eq_ofNat_of_zero_le hx.1
  obtain ⟨Y, rfl⟩ := Int.eq_ofNat_of_zero_le hy.1
  obtain ⟨C, rfl⟩ := Int.eq_ofNat_of_zero_le hc0
  refine ⟨(((X + 18446744073709551616 - Y - C) % 18446744073709551616 : Nat) : Int), ((if X < Y + C then 1 else 0 : Nat) : Int), ?_, ?_, ?_, ?_, fun w => ?_⟩
  · unfold IsW wB; omega
  · omega
  · split <;> omega
  · unfold wB; split <;> omega
  · rw [run_callFunc_extern Try.func62 (by kernel_rfl) (by kernel_rfl) (by kernel_rfl) (e := sub64Entry) (by kernel_rfl), run_sub64 X Y C (by omega)]
    rfl

/-- Block g holds the cells L, none of them frozen. -/
def Row (w : World) (g : Nat) (L : List Value) : Prop := w.heap[g]? = some (.cells L.toArray 37 (0, 0))
theorem Row.lt {w : World} {g : Nat} {L : List Value} (h : Row w g L) : g < w.heap.size := (Array.getElem?_eq_some_iff.1 h).1
theorem Row.cell {w : World} {g : Nat} {L : List Value} (h : Row w g L) {i : Nat} (hi : i < L.length) : w.cell? ⟨g, i, none⟩ = some L[i] := by
  unfold Row at h
  simp [World.cell?, h, hi]
theorem Row.frozen {w : World} {g : Nat} {L : List Value} (h : Row w g L) (i : Nat) : w.frozen? ⟨g, i, none⟩ = false := by
  unfold Row at h
  simp [World.frozen?, h]
theorem Row.set {w : World} {g : Nat} {L : List Value} (h : Row w g L) (i : Nat) (u : Value) : Row (w.setCell ⟨g, i, none⟩ u) g (L.set i u) := by
  unfold Row at h ⊢
  simp [World.setCell, Array.getElem?_modify, h]
theorem Row.alloc {w : World} {g : Nat} {L : List Value} (h : Row w g L) (o : Obj) : Row (w.alloc o) g L := (Below.heap_alloc w o g h.lt).trans h
theorem Row.drewN {w : World} {g : Nat} {L : List Value} (h : Row w g L) (n : Nat) : Row (w.drewN n) g L := h
theorem Row.below {w w' : World} {g B : Nat} {L : List Value} (h : Row w g L) (hb : Below B w w') (hg : g < B) : Row w' g L := (hb.block g hg).trans h
/-- The words as cells. -/
def ws (xs : List Int) : List Value := xs.map (Value.int .u64)
theorem length_ws (xs : List Int) : (ws xs).length = xs.length := by simp [ws]
theorem ws_set (xs : List Int) (r : List Value) (i : Nat) (h : i < xs.length) (z : Int) : (ws xs ++ r).set i (.int .u64 z) = ws (xs.set i z) ++ r := by
  rw [List.set_append_left _ _ (by rw [length_ws]; exact h), ws, ws, List.map_set]
theorem Row.word {w : World} {g : Nat} {xs : List Int} {r : List Value} (h : Row w g (ws xs ++ r)) {i : Nat} (hi : i < xs.length) : w.cell? ⟨g, i, none⟩ = some (.int .u64 xs[i]) := by
  rw [h.cell (i := i) (by simp [length_ws]; omega)]
  simp [ws, hi]
theorem Row.setWord {w : World} {g : Nat} {xs : List Int} {r : List Value} (h : Row w g (ws xs ++ r)) {i : Nat} (hi : i < xs.length) (z : Int) : Row (w.setCell ⟨g, i, none⟩ (.int .u64 z)) g (ws (xs.set i z) ++ r) := by
  rw [← ws_set xs r i hi]; exact h.set i _
/-- A row's head as a slice. -/
theorem Row.sl {w : World} {g : Nat} {xs : List Int} {r : List Value} (h : Row w g (ws xs ++ r)) (hw : WF xs) {cap : Nat} (hc : xs.length ≤ cap) (hm : cap ≤ 35184372088832) {B : Nat} (hB : g < B) :
    Sl B w (.slice (some ⟨g, 0, none⟩) xs.length cap) xs :=
  ⟨hw, _, cap, rfl, hc, by omega, .inr ⟨g, 0, rfl, hB, fun j hj => by rw [Nat.zero_add]; exact h.word hj⟩⟩

theorem carry_step {xs zs : List Int} {ysT ysT' p y s d c : Int} {i : Nat} (hi : i < zs.length) (hv : val zs + pw i * c = val xs + ysT) (hT : ysT' = ysT + y * pw i)
    (hs : s + wB * d = zs[i] + y + c) (hp : p = pw (i + 1)) : val (zs.set i s) + p * d = val xs + ysT' := by
  subst hp
  rw [val_set zs i s hi, hT]
  generalize hz : zs[i] = z at *
  have e : s = z + y + c - wB * d := by omega
  subst e
  simp only [pw, Int.sub_mul, Int.add_mul, Int.mul_assoc, Int.mul_comm c (pw i), Int.mul_comm d (pw i)]
  omega
theorem borrow_step {xs zs : List Int} {ysT ysT' p y s d c : Int} {i : Nat} (hi : i < zs.length) (hv : val zs - pw i * c = val xs - ysT) (hT : ysT' = ysT + y * pw i)
    (hs : s - wB * d = zs[i] - y - c) (hp : p = pw (i + 1)) : val (zs.set i s) - p * d = val xs - ysT' := by
  subst hp
  rw [val_set zs i s hi, hT]
  generalize hz : zs[i] = z at *
  have e : s = z - y - c + wB * d := by omega
  subst e
  simp only [pw, Int.sub_mul, Int.add_mul, Int.mul_assoc, Int.mul_comm c (pw i), Int.mul_comm d (pw i)]
  omega
end Go.Proofs.Ytnpcfohimlfbdaa
