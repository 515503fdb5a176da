/-
  OpenS: scripts and steps of the second layer that came in, small in bulk.
-/
import Derived.Test.YtagfekcocdjhlaaOpenL
import Derived.Test.YtagfekcocdjhlaaInts
import Derived.Test.YtagfekcocdjhlaaMPlays
import Derived.ChangeSame
namespace Go.Proofs.Ytagfekcocdjhlaa
open Go.ChangeShapes Go.WideShapes Go.ChangeAt Go.RowKit
set_option linter.unusedVariables false

theorem Try.cellsOp6 : Try.prog.cellsOf 27 = 6 := by kernel_rfl
theorem Try.cellsLl : Try.prog.cellsOf 25 = 1 := by kernel_rfl
theorem trod_struct6 {H : Type} {enc : TypeId × Value → H} {P : Program} {w : World} {base : Nat} {spare : Nat → Bool} {held : Bool} {t : TypeId} {f0 f1 f2 f3 f4 f5 : Field} {fuel : Nat} {cs : List Value} {x : DataW H × List MemPlace} (ht : P.underlying t = some (.struct #[f0, f1, f2, f3, f4, f5]))
    (h : DataW.trod enc P w base spare held fuel t cs = some x) :
    ∃ y0 y1 y2 y3 y4 y5 n, x.1 = .agg [y0.1, y1.1, y2.1, y3.1, y4.1, y5.1] ∧ cs.length = P.cellsOf t ∧ DataW.trod enc P w base spare held n f0.type ((cs.drop f0.offset).take (P.cellsOf f0.type)) = some y0 ∧ DataW.trod enc P w base spare held n f1.type ((cs.drop f1.offset).take (P.cellsOf f1.type)) = some y1 ∧
      DataW.trod enc P w base spare held n f2.type ((cs.drop f2.offset).take (P.cellsOf f2.type)) = some y2 ∧ DataW.trod enc P w base spare held n f3.type ((cs.drop f3.offset).take (P.cellsOf f3.type)) = some y3 ∧ DataW.trod enc P w base spare held n f4.type ((cs.drop f4.offset).take (P.cellsOf f4.type)) = some y4 ∧ DataW.trod enc P w base spare held n f5.type ((cs.drop f5.offset).take (P.cellsOf f5.type)) = some y5 := by
  obtain ⟨xs, n, _, rfl, hl, hlen, hf⟩ := DataW.trod_struct ht h
  match xs, hlen with
  | [y0, y1, y2, y3, y4, y5], _ => exact ⟨y0, y1, y2, y3, y4, y5, n, by simp, hl, by simpa using hf 0 f0 rfl, by simpa using hf 1 f1 rfl, by simpa using hf 2 f2 rfl, by simpa using hf 3 f3 rfl, by simpa using hf 4 f4 rfl, by simpa using hf 5 f5 rfl⟩
/-- One step, read. -/
theorem open_step6 {H : Type} {enc : TypeId × Value → H} {W : World} {fuel : Nat} {cs : List Value} {x : DataW H × List MemPlace}
    (hf : DataW.trod enc Try.prog W 0 (fun _ => true) true fuel 27 cs = some x) (hb : Rows.uptoBulk x.1 ≤ 1048576) :
    ∃ d : OpD, cs = [.int .i64 d.kind, d.va, d.vb, d.vc, .int .i64 d.n, d.vl] ∧ OpOk W d := by
  obtain ⟨y0, y1, y2, y3, y4, y5, n, hx, hl, t0, t1, t2, t3, t4, t5⟩ := trod_struct6 Try.underlying27 hf
  rw [Try.cellsOp6] at hl
  rw [hx] at hb
  simp only [Rows.uptoBulk, Rows.uptoBulkAll] at hb
  match cs, hl with
  | [c0, c1, c2, c3, c4, c5], _ =>
    simp only [Try.cellsI, Try.cellsSl, Try.cellsLl, List.drop_zero, List.drop_succ_cons, List.take_succ_cons, List.take_zero] at t0 t1 t2 t3 t4 t5
    obtain ⟨k, e0, _, _⟩ := DataW.trod_int Try.underlying3 t0
    obtain ⟨m, e4, _, w4⟩ := DataW.trod_int Try.underlying3 t4
    obtain ⟨xs, sx, lx, fx⟩ := open_words2 t1 (by omega)
    obtain ⟨ys, sy, ly, fy⟩ := open_words2 t2 (by omega)
    obtain ⟨zs, sz, lz, fz⟩ := open_words2 t3 (by omega)
    obtain ⟨Xs, sX, lX, fX⟩ := open_lists1 t5 (by omega)
    simp only [List.cons.injEq, and_true] at e0 e4
    subst e0 e4
    exact ⟨⟨k, c1, xs, c2, ys, c3, zs, m, c5, Xs⟩, rfl, ⟨sx, fx, lx, sy, fy, ly, sz, fz, lz, sX, by show Xs.length ≤ 1048576; omega, by show tot Xs ≤ 1048576; omega, (int_bounds w4).1, (int_bounds w4).2⟩⟩

theorem open_script2 {H : Type} {enc : TypeId × Value → H} {W : World} {a : Option Addr} {len cap : Nat} {d : DataW H} {p : List MemPlace}
    (h0 : DataW.Trod enc Try.prog W 0 (fun _ => true) true 22 (.slice a len cap) d p) (hb : Rows.uptoBulk d ≤ 1048576) :
    ∃ s, Script2 W a len cap s := by
  obtain ⟨fuel, hf⟩ := h0
  rcases Deep.open_slice Try.underlying22 hf with ⟨hcs, _⟩ | ⟨x, l, c, m, n, D, Pl, hcs, _, hl, hm, hmm, hx, hel⟩
  · simp [Value.cells] at hcs
    obtain ⟨rfl, rfl, rfl⟩ := hcs
    exact ⟨fun _ => ⟨0, .slice none 0 0, [], .slice none 0 0, [], .slice none 0 0, [], 0, .slice none 0 0, []⟩, Nat.le_refl _, Nat.zero_le _, fun k hk => absurd hk (Nat.not_lt_zero _), .inl rfl⟩
  · simp [Value.cells] at hcs
    obtain ⟨rfl, rfl, rfl⟩ := hcs
    simp only [if_true] at hmm
    subst hmm
    have hd : d = .slice ((List.range len).map D) ((List.range (m - len)).map fun j => D (len + j)) := congrArg Prod.fst hx
    rw [hd] at hb
    simp only [Rows.uptoBulk] at hb
    have e1 := bulk_len ((List.range len).map D)
    simp only [List.length_map, List.length_range] at e1
    rw [Try.cellsOp6] at hel
    haveI : Inhabited OpD := ⟨⟨0, .slice none 0 0, [], .slice none 0 0, [], .slice none 0 0, [], 0, .slice none 0 0, []⟩⟩
    obtain ⟨q, hq⟩ := Deep.choose_lt (α := OpD) (n := len) (p := fun i q => W.cells? 0 (x.add (i * 6)) 6 = some [.int .i64 q.kind, q.va, q.vb, q.vc, .int .i64 q.n, q.vl] ∧ OpOk W q) (fun i hi => by
        obtain ⟨cs', h1, h2⟩ := hel i (by omega)
        have hbi : Rows.uptoBulk (D i) ≤ 1048576 := by
          have := bulk_in (List.mem_map_of_mem (f := D) (List.mem_range.2 hi))
          omega
        obtain ⟨q, rfl, hq⟩ := open_step6 h2 hbi
        exact ⟨q, h1, hq⟩)
    refine ⟨q, hl, by omega, fun k hk => (hq k hk).2, ?_⟩
    by_cases he : len = 0
    · exact .inl he
    · obtain ⟨b, off, spot⟩ := x
      have hc := (World.cells?_some (hq 0 (by omega)).1).2.2 0 (by omega)
      rw [Deep.add_add] at hc
      simp only [Nat.zero_mul, Nat.add_zero, List.getElem?_cons_zero] at hc
      have hspot : spot = none := by simpa [Addr.add] using World.cell?_spot hc
      subst hspot
      refine .inr ⟨b, off, rfl, ?_, fun k hk => ?_⟩
      · have := World.block_lt_of_cell? W _ hc
        simpa [Addr.add] using this
      · have hk' := (World.cells?_some (hq k hk).1).2.2
        have e : ∀ j, (⟨b, off, none⟩ : Addr).add j = ⟨b, off + j, none⟩ := fun j => by unfold Addr.add; split <;> simp_all
        have c0 := hk' 0 (by omega)
        have c1 := hk' 1 (by omega)
        have c2 := hk' 2 (by omega)
        have c3 := hk' 3 (by omega)
        have c4 := hk' 4 (by omega)
        have c5 := hk' 5 (by omega)
        simp only [e] at c0 c1 c2 c3 c4 c5
        exact ⟨c0, c1, c2, c3, c4, c5⟩
end Go.Proofs.Ytagfekcocdjhlaa
