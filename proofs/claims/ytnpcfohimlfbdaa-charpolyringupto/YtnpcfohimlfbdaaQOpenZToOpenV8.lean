/-
  QOpenZToOpenV8: OpenZ, OpenV8, joined.
-/
import Derived.Test.YtnpcfohimlfbdaaQZedToOnes
import Derived.Test.YtnpcfohimlfbdaaQOpenToCarry
import Derived.ChangeSame
import Derived.Test.YtnpcfohimlfbdaaQAlike
import Derived.Deep.Slices

/- OpenZ -/
namespace Go.Proofs.Ytnpcfohimlfbdaa
open Go.ChangeShapes Go.WideShapes Go.ChangeAt Go.RowKit
set_option linter.unusedVariables false

theorem Try.cellsZ : Try.prog.cellsOf 25 = 2 := by kernel_rfl
theorem Try.cellsZb : Try.prog.cellsOf 4 = 1 := by kernel_rfl
theorem Try.cellsZs : Try.prog.cellsOf 23 = 1 := by kernel_rfl
theorem trod_struct2 {H : Type} {enc : TypeId × Value → H} {P : Program} {w : World} {base : Nat} {spare : Nat → Bool} {held : Bool} {t : TypeId} {f0 f1 : Field} {fuel : Nat} {cs : List Value} {x : DataW H × List MemPlace} (ht : P.underlying t = some (.struct #[f0, f1]))
    (h : DataW.trod enc P w base spare held fuel t cs = some x) :
    ∃ y0 y1 n, x.1 = .agg [y0.1, y1.1] ∧ cs.length = P.cellsOf t ∧ DataW.trod enc P w base spare held n f0.type ((cs.drop f0.offset).take (P.cellsOf f0.type)) = some y0 ∧ DataW.trod enc P w base spare held n f1.type ((cs.drop f1.offset).take (P.cellsOf f1.type)) = some y1 := by
  obtain ⟨xs, n, _, rfl, hl, hlen, hf⟩ := DataW.trod_struct ht h
  match xs, hlen with
  | [y0, y1], _ => exact ⟨y0, y1, n, by simp, hl, by simpa using hf 0 f0 rfl, by simpa using hf 1 f1 rfl⟩
end Go.Proofs.Ytnpcfohimlfbdaa

/- OpenV8 -/
namespace Go.Proofs.Ytnpcfohimlfbdaa
open Go.ChangeShapes Go.WideShapes Go.ChangeAt Go.RowKit
set_option linter.unusedVariables false

/-- A list of integers in whatever form; the j-th has at most ks[j] words. -/
def Zw (w : World) (v : Value) (zs : List Int) (ks : List Nat) : Prop :=
  ks.length = zs.length ∧ ∃ a c, v = .slice a zs.length c ∧ zs.length ≤ c ∧ zs.length ≤ 1048576 ∧ (zs = [] ∨ ∃ b off, a = some ⟨b, off, none⟩ ∧ b < w.heap.size ∧ ∀ j z k, zs[j]? = some z → ks[j]? = some k → ∃ x y, w.cell? ⟨b, off + 2 * j, none⟩ = some x ∧ w.cell? ⟨b, off + 2 * j + 1, none⟩ = some y ∧ Zi w (.agg #[x, y]) z k)
def ksum (ks : List Nat) : Nat := ks.foldr (· + ·) 0
theorem ksum_cons (k : Nat) (ks : List Nat) : ksum (k :: ks) = k + ksum ks := rfl
theorem ksum_le : ∀ {ks : List Nat} {j k : Nat}, ks[j]? = some k → k ≤ ksum ks
  | [], j, k, h => by simp at h
  | x :: r, 0, k, h => by
    simp only [List.getElem?_cons_zero, Option.some.injEq] at h
    rw [ksum_cons]
    omega
  | x :: r, j + 1, k, h => by
    simp only [List.getElem?_cons_succ] at h
    have := ksum_le h
    rw [ksum_cons]
    omega
/-- One bound for all. -/
theorem Zw.zl {w : World} {v : Value} {zs : List Int} {ks : List Nat} {K : Nat} (h : Zw w v zs ks) (hK : ksum ks ≤ K) : Zl w v zs K := by
  obtain ⟨h0, a, c, h1, h2, h3, h4⟩ := h
  refine ⟨a, c, h1, h2, h3, ?_⟩
  rcases h4 with h4 | ⟨b, off, h5, h6, h7⟩
  · exact .inl h4
  · refine .inr ⟨b, off, h5, h6, fun j hj => ?_⟩
    have hk : ks[j]? = some ks[j] := List.getElem?_eq_getElem (by omega)
    obtain ⟨x, y, q1, q2, q3⟩ := h7 j _ _ (List.getElem?_eq_getElem hj) hk
    exact ⟨x, y, q1, q2, q3.more (Nat.le_trans (ksum_le hk) hK)⟩
theorem ksum_bulk {H : Type} {D : Nat → DataW H} {q : Nat → Nat} : ∀ l : List Nat, (∀ i ∈ l, q i + 1 ≤ Rows.uptoBulk (D i)) → ksum (l.map q) + l.length ≤ Rows.uptoBulkAll (l.map D)
  | [], _ => by simp [ksum]
  | i :: r, h => by
    have h1 := h i (by simp)
    have h2 := ksum_bulk r (fun j hj => h j (by simp [hj]))
    simp only [List.map_cons, ksum_cons, Rows.uptoBulkAll, List.length_cons]
    omega
set_option maxRecDepth 100000 in
/-- One integer, read, its words and one at most its bulk. -/
theorem open_int3 {H : Type} {enc : TypeId × Value → H} {W : World} {fuel : Nat} {cs : List Value} {x : DataW H × List MemPlace}
    (hf : DataW.trod enc Try.prog W 0 (fun _ => true) true fuel 25 cs = some x) (hb : Rows.uptoBulk x.1 ≤ 1048576) :
    ∃ x0 x1 z k, cs = [x0, x1] ∧ Zi W (.agg #[x0, x1]) z k ∧ k + 1 ≤ Rows.uptoBulk x.1 := by
  obtain ⟨y0, y1, n, hx, hl, t0, t1⟩ := trod_struct2 Try.underlying25 hf
  rw [Try.cellsZ] at hl
  rw [hx] at hb ⊢
  simp only [Rows.uptoBulk, Rows.uptoBulkAll] at hb ⊢
  obtain ⟨c0, c1, rfl⟩ : ∃ c0 c1, cs = [c0, c1] := by
    match cs, hl with
    | [c0, c1], _ => exact ⟨c0, c1, rfl⟩
  simp only [Try.cellsZb, Try.cellsZs, List.drop_zero, List.drop_succ_cons, List.take_succ_cons, List.take_zero] at t0 t1
  obtain ⟨k, e0, _⟩ := DataW.trod_bool Try.underlying4 t0
  obtain ⟨xs, sx, lx, fx⟩ := open_words3 t1 (by omega)
  simp only [List.cons.injEq, and_true] at e0
  subst e0
  obtain ⟨a, c, rfl⟩ : ∃ a c, c1 = .slice a xs.length c := by obtain ⟨_, a, c, e, _⟩ := sx; exact ⟨a, c, e⟩
  have := bulk_pos y0.1
  exact ⟨_, _, iv k xs, xs.length, rfl, ⟨k, xs, a, c, rfl, sx, rfl, Nat.le_refl _⟩, by omega⟩
set_option maxRecDepth 100000 in
theorem open_ints1 {H : Type} {enc : TypeId × Value → H} {W : World} {fuel : Nat} {v : Value} {y : DataW H × List MemPlace}
    (hf : DataW.trod enc Try.prog W 0 (fun _ => true) true fuel 22 [v] = some y) (hb : Rows.uptoBulk y.1 ≤ 1048576) :
    ∃ zs ks, Zw W v zs ks ∧ zs.length + ksum ks + 1 ≤ Rows.uptoBulk y.1 := by
  rcases Deep.open_slice Try.underlying22 hf with ⟨hcs, _⟩ | ⟨x, len, cap, m, n, D, Pl, hcs, _, hl, hm, hmm, hx, hel⟩
  · simp only [List.cons.injEq, and_true] at hcs
    subst hcs
    exact ⟨[], [], ⟨rfl, none, 0, rfl, Nat.le_refl _, Nat.zero_le _, .inl rfl⟩, bulk_pos _⟩
  · simp only [List.cons.injEq, and_true] at hcs
    subst hcs
    simp only [if_true] at hmm
    subst hmm
    rw [hx] at hb ⊢
    simp only [Rows.uptoBulk] at hb ⊢
    have e1 := bulk_len ((List.range len).map D)
    simp only [List.length_map, List.length_range] at e1
    rw [Try.cellsZ] at hel
    obtain ⟨q, hq⟩ := Deep.choose_lt (α := Value × Value × Int × Nat) (n := len) (p := fun i q => W.cells? 0 (x.add (i * 2)) 2 = some [q.1, q.2.1] ∧ Zi W (.agg #[q.1, q.2.1]) q.2.2.1 q.2.2.2 ∧ q.2.2.2 + 1 ≤ Rows.uptoBulk (D i)) (fun i hi => by
        obtain ⟨cs', h1, h2⟩ := hel i (by omega)
        have hbi : Rows.uptoBulk (D i) ≤ 1048576 := by
          have := bulk_in (List.mem_map_of_mem (f := D) (List.mem_range.2 hi))
          omega
        obtain ⟨x0, x1, z, k, rfl, s1, s2⟩ := open_int3 (x := (D i, Pl i)) h2 hbi
        exact ⟨(x0, x1, z, k), h1, s1, s2⟩)
    have ht := ksum_bulk (D := D) (q := fun i => (q i).2.2.2) (List.range len) (fun i hi => (hq i (List.mem_range.1 hi)).2.2)
    simp only [List.length_range] at ht
    refine ⟨(List.range len).map fun i => (q i).2.2.1, (List.range len).map fun i => (q i).2.2.2, ⟨by simp, some x, m, by simp, by simpa using hl, by simp; omega, ?_⟩, by simp; omega⟩
    by_cases he : len = 0
    · exact .inl (by simp [he])
    · obtain ⟨b, off, spot⟩ := x
      have hc := (World.cells?_some (hq 0 (by omega)).1).2.2 0 (by omega)
      rw [Deep.add_add] at hc
      simp only [Nat.zero_mul, Nat.add_zero, List.getElem?_cons_zero] at hc
      have hspot : spot = none := by simpa [Addr.add] using World.cell?_spot hc
      subst hspot
      refine .inr ⟨b, off, rfl, ?_, fun j z k hz hk => ?_⟩
      · have := World.block_lt_of_cell? W _ hc
        simpa [Addr.add] using this
      · have hj : j < len := by
          have := (List.getElem?_eq_some_iff.1 hz).1
          simpa using this
        have ea : ∀ j, (⟨b, off, none⟩ : Addr).add j = ⟨b, off + j, none⟩ := fun j => by unfold Addr.add; split <;> simp_all
        have k0 := (World.cells?_some (hq j hj).1).2.2 0 (by omega)
        have k1 := (World.cells?_some (hq j hj).1).2.2 1 (by omega)
        rw [Deep.add_add, ea] at k0 k1
        simp only [Nat.add_zero, List.getElem?_cons_zero, List.getElem?_cons_succ] at k0 k1
        simp only [List.getElem?_map, List.getElem?_range hj, Option.map_some, Option.some.injEq] at hz hk
        subst hz hk
        refine ⟨(q j).1, (q j).2.1, ?_, ?_, (hq j hj).2.1⟩
        · rw [Nat.mul_comm 2 j]; exact k0
        · rw [Nat.mul_comm 2 j, Nat.add_assoc]; exact k1
theorem open_ints {H : Type} {enc : TypeId × Value → H} {W : World} {a : Option Addr} {len cap : Nat} {d : DataW H} {p : List MemPlace}
    (h0 : DataW.Trod enc Try.prog W 0 (fun _ => true) true 22 (.slice a len cap) d p) (hb : Rows.uptoBulk d ≤ 1048576) :
    ∃ zs ks, Zw W (.slice a len cap) zs ks ∧ zs.length + ksum ks ≤ 1048576 := by
  obtain ⟨fuel, hf⟩ := h0
  obtain ⟨zs, ks, h1, h2⟩ := open_ints1 (y := (d, p)) hf hb
  have h2' : zs.length + ksum ks + 1 ≤ Rows.uptoBulk d := h2
  exact ⟨zs, ks, h1, by omega⟩
end Go.Proofs.Ytnpcfohimlfbdaa
