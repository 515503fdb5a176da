/-
  OpenSt11: a list of steps that came in, small in bulk.
-/
import Derived.Test.YtbalcjjeakdjkaaQCk11
import Derived.Test.YtbalcjjeakdjkaaRows
import Derived.Test.YtbalcjjeakdjkaaQAlikeToOpenV8
import Derived.Test.YtbalcjjeakdjkaaQOpenToCarry
import Derived.Lib.SmallJoins
namespace Go.Proofs.Ytbalcjjeakdjkaa
open Go.ChangeShapes Go.WideShapes Go.ChangeAt Go.RowKit
set_option linter.unusedVariables false

instance rsInh : Inhabited Rs := ⟨⟨0, 0, 0, 0⟩⟩
theorem Try.cellsSt11 : Try.prog.cellsOf 30 = 5 := by kernel_rfl
theorem Try.cellsInt11 : Try.prog.cellsOf 3 = 1 := by kernel_rfl
theorem Zi.parts11 {w : World} {x y : Value} {z : Int} {k : Nat} (h : Zi w (.agg #[x, y]) z k) : ∃ nv av lv cv, x = .bool nv ∧ y = .slice av lv cv := by
  obtain ⟨n, a, l, c, e⟩ := h.isI
  rw [Prod.mk.injEq] at e
  exact ⟨n, a, l, c, e.1, e.2⟩
set_option maxRecDepth 100000 in
theorem open_st11 {H : Type} {enc : TypeId × Value → H} {W : World} {fuel : Nat} {cs : List Value} {x : DataW H × List MemPlace}
    (hf : DataW.trod enc Try.prog W 0 (fun _ => true) true fuel 30 cs = some x) (hb : Rows.uptoBulk x.1 ≤ 1048576) :
    ∃ (kind I J : Int) (nv : Bool) (av : Option Addr) (lv cv : Nat) (z : Int), cs = [.int .i64 kind, .int .i64 I, .int .i64 J, .bool nv, .slice av lv cv] ∧ Zi W (.agg #[.bool nv, .slice av lv cv]) z 1048576 := by
  obtain ⟨y0, y1, y2, y3, n, rfl, hl, t0, t1, t2, t3⟩ := Joins.trod_struct4 Try.underlying30 hf
  rw [Try.cellsSt11] at hl
  simp only [Rows.uptoBulk, Rows.uptoBulkAll] at hb
  match cs, hl with
  | [c0, c1, c2, c3, c4], _ =>
    simp only [Try.cellsInt11, Try.cellsZ, List.drop_zero, List.drop_succ_cons, List.take_succ_cons, List.take_zero] at t0 t1 t2 t3
    obtain ⟨k, e0, _, _⟩ := DataW.trod_int Try.underlying3 t0
    obtain ⟨i, e1, _, _⟩ := DataW.trod_int Try.underlying3 t1
    obtain ⟨j, e2, _, _⟩ := DataW.trod_int Try.underlying3 t2
    obtain ⟨x0, x1, z, kz, e3, hz, hkz⟩ := open_int3 t3 (by omega)
    simp only [List.cons.injEq, and_true] at e0 e1 e2 e3
    obtain ⟨nv, av, lv, cv, q1, q2⟩ := hz.parts11
    obtain ⟨e3, e4⟩ := e3
    subst e0 e1 e2 e3 e4 q1 q2
    exact ⟨k, i, j, nv, av, lv, cv, z, rfl, hz.more (by omega)⟩
theorem open_sts11 {H : Type} {enc : TypeId × Value → H} {W : World} {a : Option Addr} {len cap : Nat} {d : DataW H} {p : List MemPlace}
    (h0 : DataW.Trod enc Try.prog W 0 (fun _ => true) true 37 (.slice a len cap) d p) (hb : Rows.uptoBulk d ≤ 1048576) : ∃ rs, Raws W (.slice a len cap) rs 1048576 := by
  obtain ⟨fuel, hf⟩ := h0
  rcases Deep.open_slice Try.underlying37 hf with ⟨hcs, _⟩ | ⟨x, l, c, m, n, D, Pl, hcs, _, hl, hm, hmm, hx, hel⟩
  · simp [Value.cells] at hcs
    obtain ⟨rfl, rfl, rfl⟩ := hcs
    exact ⟨[], none, 0, rfl, by simp, .inl rfl⟩
  · simp [Value.cells] at hcs
    obtain ⟨rfl, rfl, rfl⟩ := hcs
    simp only [if_true] at hmm
    subst hmm
    have hd : d = .slice ((List.range len).map D) ((List.range (m - len)).map fun j => D (len + j)) := congrArg Prod.fst hx
    rw [hd] at hb
    simp only [Rows.uptoBulk] at hb
    have e1 := bulk_len ((List.range len).map D)
    simp only [List.length_map, List.length_range] at e1
    rw [Try.cellsSt11] at hel
    by_cases he : len = 0
    · subst he
      exact ⟨[], _, _, rfl, by simp, .inl rfl⟩
    · obtain ⟨b, off, spot⟩ := x
      obtain ⟨cs0, h10, h20⟩ := hel 0 (by omega)
      have hb0 : Rows.uptoBulk (D 0) ≤ 1048576 := by
        have := bulk_in (List.mem_map_of_mem (f := D) (List.mem_range.2 (show 0 < len by omega)))
        omega
      obtain ⟨_, _, _, _, _, _, _, _, rfl, _⟩ := open_st11 (x := (D 0, Pl 0)) h20 hb0
      have hc := (World.cells?_some h10).2.2 0 (by omega)
      rw [Deep.add_add] at hc
      simp only [Nat.zero_mul, Nat.add_zero, List.getElem?_cons_zero] at hc
      have hspot : spot = none := by simpa [Addr.add] using World.cell?_spot hc
      subst hspot
      have hblk : b < W.heap.size := by
        have := World.block_lt_of_cell? W _ hc
        simpa [Addr.add] using this
      obtain ⟨q, hq⟩ := Deep.choose_lt (α := Rs) (n := len) (p := fun k s => ∃ nv av lv cv,
          W.cell? ⟨b, off + k * 5, none⟩ = some (.int .i64 s.kind) ∧ W.cell? ⟨b, off + k * 5 + 1, none⟩ = some (.int .i64 s.i) ∧ W.cell? ⟨b, off + k * 5 + 2, none⟩ = some (.int .i64 s.j) ∧ W.cell? ⟨b, off + k * 5 + 3, none⟩ = some (.bool nv) ∧ W.cell? ⟨b, off + k * 5 + 4, none⟩ = some (.slice av lv cv) ∧
          Zi W (.agg #[.bool nv, .slice av lv cv]) s.z 1048576) (fun k hk => by
        obtain ⟨cs', h1, h2⟩ := hel k (by omega)
        have hbi : Rows.uptoBulk (D k) ≤ 1048576 := by
          have := bulk_in (List.mem_map_of_mem (f := D) (List.mem_range.2 hk))
          omega
        obtain ⟨kind, I, J, nv, av, lv, cv, z, rfl, hz⟩ := open_st11 (x := (D k, Pl k)) h2 hbi
        have hk' := (World.cells?_some h1).2.2
        have e : ∀ j, (⟨b, off, none⟩ : Addr).add j = ⟨b, off + j, none⟩ := fun j => by unfold Addr.add; split <;> simp_all
        have c0 := hk' 0 (by omega)
        have c1 := hk' 1 (by omega)
        have c2 := hk' 2 (by omega)
        have c3 := hk' 3 (by omega)
        have c4 := hk' 4 (by omega)
        simp only [e] at c0 c1 c2 c3 c4
        exact ⟨⟨kind, I, J, z⟩, nv, av, lv, cv, c0, c1, c2, c3, c4, hz⟩)
      refine ⟨(List.range len).map q, some ⟨b, off, none⟩, m, by simp, by simp; omega, .inr ⟨b, off, rfl, hblk, fun j s hs => ?_⟩⟩
      have hj : j < len := by simpa using (List.getElem?_eq_some_iff.1 hs).1
      rw [List.getElem?_map, List.getElem?_range hj] at hs
      simp at hs
      subst hs
      exact hq j hj
end Go.Proofs.Ytbalcjjeakdjkaa
