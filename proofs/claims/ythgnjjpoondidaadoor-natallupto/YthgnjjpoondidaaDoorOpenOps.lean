/-
  OpenOps: a script that came in, small in bulk, as the walk of NatAll wants it.
-/
import Derived.Test.YthgnjjpoondidaaDoorRows
import Derived.Test.YthgnjjpoondidaaDoorOpen
import Derived.Test.YthgnjjpoondidaaDoorOpenI
import Derived.Test.YthgnjjpoondidaaDoorAll
import Derived.Deep.Slices
import Derived.Lib.SmallJoins
namespace Go.Proofs.YthgnjjpoondidaaDoor
open Go.ChangeShapes Go.WideShapes Go.ChangeAt Go.RowKit

theorem bulk_pos {H : Type} (d : DataW H) : 1 ≤ Rows.uptoBulk d := by
  cases d
  case lit l => cases l <;> simp [Rows.uptoBulk]
  all_goals simp [Rows.uptoBulk]
theorem bulk_in {H : Type} {d : DataW H} : ∀ {l : List (DataW H)}, d ∈ l → Rows.uptoBulk d ≤ Rows.uptoBulkAll l
  | [], h => by cases h
  | x :: r, h => by
    simp only [Rows.uptoBulkAll]
    rcases List.mem_cons.1 h with rfl | h'
    · omega
    · have := bulk_in h'; omega
theorem bulk_len {H : Type} : ∀ l : List (DataW H), l.length ≤ Rows.uptoBulkAll l
  | [] => Nat.zero_le _
  | x :: r => by
    have h1 := bulk_pos x
    have h2 := bulk_len r
    simp only [Rows.uptoBulkAll, List.length_cons]
    omega

theorem open_words1 {H : Type} {enc : TypeId × Value → H} {W : World} {fuel : Nat} {v : Value} {x : DataW H × List MemPlace}
    (hf : DataW.trod enc Tryd.prog W 0 (fun _ => true) true fuel 25 [v] = some x) (hb : Rows.uptoBulk x.1 ≤ 1048576) :
    ∃ xs, Sl W.heap.size W v xs ∧ xs.length ≤ 1048576 := by
  rcases open_ints Tryd.underlying25 Tryd.underlying48 Tryd.cellsW hf with ⟨hcs, _⟩ | ⟨x', len, cap, zs, hcs, _, hl, hm, hz, hx, hcell, hwz⟩
  · simp only [List.cons.injEq, and_true] at hcs
    subst hcs
    exact ⟨[], Sl.nilAt W, by simp⟩
  · simp only [List.cons.injEq, and_true] at hcs
    subst hcs
    simp only [if_true] at hz
    rw [hx] at hb
    simp only [Rows.uptoBulk] at hb
    have e1 := bulk_len (lits (H := H) .u64 (zs.take len))
    have e2 := bulk_len (lits (H := H) .u64 (zs.drop len))
    simp only [lits, List.length_map, List.length_take, List.length_drop] at e1 e2
    have hlen : (zs.take len).length = len := by simp; omega
    have hzl : zs.length ≤ 1048576 := by simp only [lits] at hb; omega
    refine ⟨zs.take len, ⟨fun y hy => word_of_wf (hwz y (List.mem_of_mem_take hy)), some x', cap, by rw [hlen], by rw [hlen]; exact hl, by omega, ?_⟩, by omega⟩
    by_cases he : len = 0
    · exact .inl (by simp [he])
    · obtain ⟨b, off, spot⟩ := x'
      have hc := hcell 0 (by omega)
      have hspot : spot = none := by simpa [Addr.add] using World.cell?_spot hc
      subst hspot
      refine .inr ⟨b, off, rfl, ?_, fun j hj => ?_⟩
      · have := World.block_lt_of_cell? W _ hc
        simpa [Addr.add] using this
      · rw [hlen] at hj
        have hcj := hcell j (by omega)
        have e : (⟨b, off, none⟩ : Addr).add j = ⟨b, off + j, none⟩ := by unfold Addr.add; split <;> simp_all
        rw [e] at hcj
        rw [hcj]
        simp [show j < zs.length by omega]

theorem Tryd.cellsOp : Tryd.prog.cellsOf 27 = 4 := by kernel_rfl
theorem Tryd.cellsS : Tryd.prog.cellsOf 25 = 1 := by kernel_rfl

/-- One step of a script, read. -/
theorem open_step {H : Type} {enc : TypeId × Value → H} {W : World} {fuel : Nat} {cs : List Value} {x : DataW H × List MemPlace}
    (hf : DataW.trod enc Tryd.prog W 0 (fun _ => true) true fuel 27 cs = some x) (hb : Rows.uptoBulk x.1 ≤ 1048576) :
    ∃ q : Int × Value × List Int × Value × List Int × Int, cs = [.int .i64 q.1, q.2.1, q.2.2.2.1, .int .i64 q.2.2.2.2.2] ∧
      Sl W.heap.size W q.2.1 q.2.2.1 ∧ q.2.2.1.length ≤ 1048576 ∧ Sl W.heap.size W q.2.2.2.1 q.2.2.2.2.1 ∧ q.2.2.2.2.1.length ≤ 1048576 ∧
      -9223372036854775808 ≤ q.2.2.2.2.2 ∧ q.2.2.2.2.2 ≤ 9223372036854775807 := by
  obtain ⟨y0, y1, y2, y3, n, rfl, hl, t0, t1, t2, t3⟩ := Joins.trod_struct4 Tryd.underlying27 hf
  rw [Tryd.cellsOp] at hl
  simp only [Rows.uptoBulk, Rows.uptoBulkAll] at hb
  match cs, hl with
  | [c0, c1, c2, c3], _ =>
    simp only [Tryd.cellsI, Tryd.cellsS, List.drop_zero, List.drop_succ_cons, List.take_succ_cons, List.take_zero] at t0 t1 t2 t3
    obtain ⟨k, e0, _, _⟩ := DataW.trod_int Tryd.underlying3 t0
    obtain ⟨m, e3, _, w3⟩ := DataW.trod_int Tryd.underlying3 t3
    obtain ⟨xs, sx, lx⟩ := open_words1 t1 (by omega)
    obtain ⟨ys, sy, ly⟩ := open_words1 t2 (by omega)
    simp only [List.cons.injEq, and_true] at e0 e3
    subst e0 e3
    exact ⟨(k, c1, xs, c2, ys, m), rfl, sx, lx, sy, ly, (int_bounds w3).1, (int_bounds w3).2⟩

theorem open_script {H : Type} {enc : TypeId × Value → H} {W : World} {a : Option Addr} {len cap : Nat} {d : DataW H} {p : List MemPlace}
    (h0 : DataW.Trod enc Tryd.prog W 0 (fun _ => true) true 22 (.slice a len cap) d p) (hb : Rows.uptoBulk d ≤ 1048576) :
    ∃ s, Script W a len cap s := by
  obtain ⟨fuel, hf⟩ := h0
  rcases Deep.open_slice Tryd.underlying22 hf with ⟨hcs, _⟩ | ⟨x, l, c, m, n, D, Pl, hcs, _, hl, hm, hmm, hx, hel⟩
  · simp [Value.cells] at hcs
    obtain ⟨rfl, rfl, rfl⟩ := hcs
    exact ⟨⟨fun _ => 0, fun _ => .slice none 0 0, fun _ => [], fun _ => .slice none 0 0, fun _ => [], fun _ => 0⟩, Nat.le_refl _, Nat.zero_le _, fun k hk => absurd hk (Nat.not_lt_zero _), .inl rfl⟩
  · simp [Value.cells] at hcs
    obtain ⟨rfl, rfl, rfl⟩ := hcs
    simp only [if_true] at hmm
    subst hmm
    have hd : d = .slice ((List.range len).map D) ((List.range (m - len)).map fun j => D (len + j)) := congrArg Prod.fst hx
    rw [hd] at hb
    simp only [Rows.uptoBulk] at hb
    have e1 := bulk_len ((List.range len).map D)
    have e2 := bulk_len ((List.range (m - len)).map fun j => D (len + j))
    simp only [List.length_map, List.length_range] at e1 e2
    rw [Tryd.cellsOp] at hel
    obtain ⟨q, hq⟩ := Deep.choose_lt (α := Int × Value × List Int × Value × List Int × Int) (n := len) (p := fun i q => W.cells? 0 (x.add (i * 4)) 4 = some [.int .i64 q.1, q.2.1, q.2.2.2.1, .int .i64 q.2.2.2.2.2] ∧
      Sl W.heap.size W q.2.1 q.2.2.1 ∧ q.2.2.1.length ≤ 1048576 ∧ Sl W.heap.size W q.2.2.2.1 q.2.2.2.2.1 ∧ q.2.2.2.2.1.length ≤ 1048576 ∧
      -9223372036854775808 ≤ q.2.2.2.2.2 ∧ q.2.2.2.2.2 ≤ 9223372036854775807) (fun i hi => by
        obtain ⟨cs', h1, h2⟩ := hel i (by omega)
        have hbi : Rows.uptoBulk (D i) ≤ 1048576 := by
          have := bulk_in (List.mem_map_of_mem (f := D) (List.mem_range.2 hi))
          omega
        obtain ⟨q, rfl, hq⟩ := open_step h2 hbi
        exact ⟨q, h1, hq⟩)
    refine ⟨⟨fun i => (q i).1, fun i => (q i).2.1, fun i => (q i).2.2.1, fun i => (q i).2.2.2.1, fun i => (q i).2.2.2.2.1, fun i => (q i).2.2.2.2.2⟩, hl, by omega, fun k hk => (hq k hk).2, ?_⟩
    by_cases he : len = 0
    · exact .inl he
    · obtain ⟨b, off, spot⟩ := x
      have hc := (World.cells?_some (hq 0 (by omega)).1).2.2 0 (by omega)
      rw [Deep.add_add] at hc
      simp only [Nat.zero_mul, Nat.add_zero, List.getElem?_cons_zero] at hc
      have hspot : spot = none := by simpa [Addr.add] using World.cell?_spot hc
      subst hspot
      refine .inr ⟨b, off, rfl, ?_, fun k hk => ?_⟩
      · have := World.block_lt_of_cell? W _ hc
        simpa [Addr.add] using this
      · have hk' := (World.cells?_some (hq k hk).1).2.2
        have e : ∀ j, (⟨b, off, none⟩ : Addr).add j = ⟨b, off + j, none⟩ := fun j => by unfold Addr.add; split <;> simp_all
        have c0 := hk' 0 (by omega)
        have c1 := hk' 1 (by omega)
        have c2 := hk' 2 (by omega)
        have c3 := hk' 3 (by omega)
        simp only [e] at c0 c1 c2 c3
        exact ⟨c0, c1, c2, c3⟩
end Go.Proofs.YthgnjjpoondidaaDoor
