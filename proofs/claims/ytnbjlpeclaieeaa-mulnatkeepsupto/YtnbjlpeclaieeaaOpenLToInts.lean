/-
  OpenLToInts: OpenL, Ints, joined.
-/
import Derived.Test.YtnbjlpeclaieeaaOpenToBulk
import Derived.Test.YtnbjlpeclaieeaaProduct
import Derived.Deep.Slices

/- OpenL -/
namespace Go.Proofs.Ytnbjlpeclaieeaa
open Go.ChangeShapes Go.WideShapes Go.ChangeAt Go.RowKit
set_option linter.unusedVariables false

theorem Try.cellsSl : Try.prog.cellsOf 22 = 1 := by kernel_rfl
theorem tot_bulk {H : Type} {D : Nat → DataW H} {q : Nat → List Int} : ∀ l : List Nat, (∀ i ∈ l, (q i).length + 1 ≤ Rows.uptoBulk (D i)) → tot (l.map q) + l.length ≤ Rows.uptoBulkAll (l.map D)
  | [], _ => by simp [tot]
  | i :: r, h => by
    have h1 := h i (by simp)
    have h2 := tot_bulk r (fun j hj => h j (by simp [hj]))
    simp only [List.map_cons, tot, Rows.uptoBulkAll, List.length_cons]
    omega

theorem open_lists1 {H : Type} {enc : TypeId × Value → H} {W : World} {fuel : Nat} {v : Value} {y : DataW H × List MemPlace}
    (hf : DataW.trod enc Try.prog W 0 (fun _ => true) true fuel 23 [v] = some y) (hb : Rows.uptoBulk y.1 ≤ 1048576) :
    ∃ Xs, Ls W.heap.size W v Xs ∧ Xs.length + tot Xs + 1 ≤ Rows.uptoBulk y.1 ∧ Formed v := by
  rcases Deep.open_slice Try.underlying23 hf with ⟨hcs, _⟩ | ⟨x, len, cap, m, n, D, Pl, hcs, _, hl, hm, hmm, hx, hel⟩
  · simp only [List.cons.injEq, and_true] at hcs
    subst hcs
    exact ⟨[], ⟨none, 0, rfl, Nat.le_refl _, Nat.zero_le _, .inl rfl⟩, bulk_pos _, .inl rfl⟩
  · simp only [List.cons.injEq, and_true] at hcs
    subst hcs
    simp only [if_true] at hmm
    subst hmm
    rw [hx] at hb ⊢
    simp only [Rows.uptoBulk] at hb ⊢
    have e1 := bulk_len ((List.range len).map D)
    simp only [List.length_map, List.length_range] at e1
    rw [Try.cellsSl] at hel
    obtain ⟨q, hq⟩ := Deep.choose_lt (α := Value × List Int) (n := len) (p := fun i q => W.cells? 0 (x.add (i * 1)) 1 = some [q.1] ∧ Sl W.heap.size W q.1 q.2 ∧ q.2.length + 1 ≤ Rows.uptoBulk (D i) ∧ Formed q.1) (fun i hi => by
        obtain ⟨cs', h1, h2⟩ := hel i (by omega)
        have hbi : Rows.uptoBulk (D i) ≤ 1048576 := by
          have := bulk_in (List.mem_map_of_mem (f := D) (List.mem_range.2 hi))
          omega
        have hl1 : cs'.length = 1 := (World.cells?_some h1).2.1
        match cs', hl1 with
        | [u], _ =>
          obtain ⟨xs, s1, s2, s3⟩ := open_words3 (x := (D i, Pl i)) h2 hbi
          exact ⟨(u, xs), h1, s1, s2, s3⟩)
    have ht := tot_bulk (D := D) (q := fun i => (q i).2) (List.range len) (fun i hi => (hq i (List.mem_range.1 hi)).2.2.1)
    simp only [List.length_range] at ht
    have e : ((List.range len).map fun i => (q i).2).length = len := by simp
    refine ⟨(List.range len).map fun i => (q i).2, ⟨some x, m, by rw [e], by rw [e]; exact hl, by rw [e]; omega, ?_⟩, by rw [e]; omega, .inr ⟨x, len, m, rfl⟩⟩
    by_cases he : len = 0
    · exact .inl (by simp [he])
    · obtain ⟨b, off, spot⟩ := x
      have hc := (World.cells?_some (hq 0 (by omega)).1).2.2 0 (by omega)
      rw [Deep.add_add] at hc
      simp only [Nat.zero_mul, Nat.add_zero, List.getElem?_cons_zero] at hc
      have hspot : spot = none := by simpa [Addr.add] using World.cell?_spot hc
      subst hspot
      refine .inr ⟨b, off, rfl, ?_, fun k hk => ?_⟩
      · have := World.block_lt_of_cell? W _ hc
        simpa [Addr.add] using this
      · rw [e] at hk
        have hk' := (World.cells?_some (hq k hk).1).2.2 0 (by omega)
        have ea : ∀ j, (⟨b, off, none⟩ : Addr).add j = ⟨b, off + j, none⟩ := fun j => by unfold Addr.add; split <;> simp_all
        rw [Deep.add_add, ea] at hk'
        simp only [Nat.mul_one, Nat.add_zero, List.getElem?_cons_zero] at hk'
        refine ⟨(q k).1, hk', ?_, (hq k hk).2.2.2⟩
        simpa using (hq k hk).2.1
theorem open_lists {H : Type} {enc : TypeId × Value → H} {W : World} {a : Option Addr} {len cap : Nat} {d : DataW H} {p : List MemPlace}
    (h0 : DataW.Trod enc Try.prog W 0 (fun _ => true) true 23 (.slice a len cap) d p) (hb : Rows.uptoBulk d ≤ 1048576) :
    ∃ Xs, Ls W.heap.size W (.slice a len cap) Xs ∧ Xs.length ≤ 1048576 ∧ tot Xs ≤ 1048576 ∧ Formed (.slice a len cap) := by
  obtain ⟨fuel, hf⟩ := h0
  obtain ⟨Xs, h1, h2, h3⟩ := open_lists1 (y := (d, p)) hf hb
  have h2' : Xs.length + tot Xs + 1 ≤ Rows.uptoBulk d := h2
  exact ⟨Xs, h1, by omega, by omega, h3⟩
end Go.Proofs.Ytnbjlpeclaieeaa

/- Ints -/
namespace Go.Proofs.Ytnbjlpeclaieeaa
open Go.ChangeShapes Go.WideShapes Go.ChangeAt Go.RowKit

theorem Try.cellsI : Try.prog.cellsOf 3 = 1 := by kernel_rfl
theorem Try.bytesI : Try.prog.bytesOf 3 = 8 := by kernel_rfl
theorem int_bounds {n : Int} (h : (Lit.int .i64 n).wf = true) : -9223372036854775808 ≤ n ∧ n ≤ 9223372036854775807 := by
  have h1 : IntKind.i64.min = -9223372036854775808 := rfl
  have h2 : IntKind.i64.max = 9223372036854775807 := rfl
  simp only [Lit.wf, Bool.and_eq_true, decide_eq_true_eq] at h
  omega

end Go.Proofs.Ytnbjlpeclaieeaa
