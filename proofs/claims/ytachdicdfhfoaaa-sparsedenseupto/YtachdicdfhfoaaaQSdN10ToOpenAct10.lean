/-
  QSdN10ToOpenAct10: SdN10, OpenAct10, joined.
-/
import Derived.Test.YtachdicdfhfoaaaQSdW10
import Derived.Test.YtachdicdfhfoaaaQLaw9ToUnitA9
import Derived.Test.YtachdicdfhfoaaaQDnsN10ToActC10
import Derived.Test.YtachdicdfhfoaaaRows
import Derived.Test.YtachdicdfhfoaaaQAlikeToOpenV8
import Derived.Test.YtachdicdfhfoaaaQOpenToTimes
import Derived.Lib.SmallJoins

/- SdN10 -/
namespace Go.Proofs.Ytachdicdfhfoaaa
open Go.RowKit
set_option linter.unusedVariables false

set_option maxRecDepth 100000 in
set_option maxHeartbeats 3200000 in
theorem sparseDense_no {w : World} {r c : Int} {aa : Option Addr} {la ca len cap : Nat} {a : Option Addr} (h : ¬ Snd r c la) :
    Calls Try.prog 3 #[.agg #[.int .i64 r, .int .i64 c, .slice aa la ca], .slice a len cap] w fun e w' => e = .returned (.bool true) ∧ Below w.heap.size w w' := by
  have HS := hid h
  obtain ⟨W0, hW⟩ : ∃ W0, w.alloc (.cells #[.int .i64 r, .int .i64 c, .slice aa la ca] 24) = W0 := ⟨_, rfl⟩
  obtain ⟨b0, sz0⟩ := alo1 w (.cells #[.int .i64 r, .int .i64 c, .slice aa la ca] 24)
  rw [hW] at b0 sz0
  have P2 : Hid (Cel W0 w.heap.size 24 [.int .i64 r, .int .i64 c, .slice aa la ca]) := by unfold Hid; rw [← hW]; exact Cel.new w _ _
  have B0 := hid b0
  have EW := hid hW
  clear b0 sz0 hW h
  go_enter Try.func3, Try.ntmps3
  go_wp2_with fail
  rw [EW.out]
  refine (awake10 W0).mono ?_
  rintro e w1 ⟨rfl, q⟩
  have G := hid q
  clear q EW
  have x0 := (P2.out.step G.out).at (i := 0) rfl
  have x1 := (P2.out.step G.out).at (i := 1) rfl
  have x2 := (P2.out.step G.out).at (i := 2) rfl
  go_wp2_with fail
  refine (of_no HS.out).mono ?_
  rintro e w2 ⟨rfl, q⟩
  replace G := hid (below_step G.out q)
  clear q x0 x1 x2
  have x0 := (P2.out.step G.out).at (i := 0) rfl
  have x1 := (P2.out.step G.out).at (i := 1) rfl
  have x2 := (P2.out.step G.out).at (i := 2) rfl
  go_wp2_with fail
  refine (least_no HS.out).mono ?_
  rintro e w3 ⟨rfl, q⟩
  have G3 := hid ((below_step B0.out (below_step G.out q)).alloc (below_step B0.out (below_step G.out q)).size (.cells #[.int .i64 0, .int .i64 0, .slice none 0 0] 24))
  clear q x0 x1 x2 G B0 P2
  go_wp2
  go_ret
  exact ⟨rfl, G3.out⟩
theorem sparseDense_any {w : World} {v : Value} {ra ca : Int} {la len cap : Nat} {zs : List Int} {a : Option Addr} (h : Raw w v ra ca la zs) (ac : Acts10 w a len cap) :
    Calls Try.prog 3 #[v, .slice a len cap] w fun e w' => e = .returned (.bool true) ∧ Below w.heap.size w w' := by
  by_cases hs : Snd ra ca la
  · obtain ⟨r', hr⟩ := Int.eq_ofNat_of_zero_le hs.1
    obtain ⟨c', hc⟩ := Int.eq_ofNat_of_zero_le hs.2.2.1
    subst hr hc
    exact sparseDense_yes (h.mx hs) ac
  · obtain ⟨aa, qa, -, rfl, -⟩ := h
    exact sparseDense_no hs
end Go.Proofs.Ytachdicdfhfoaaa

/- OpenAct10 -/
namespace Go.Proofs.Ytachdicdfhfoaaa
open Go.ChangeShapes Go.WideShapes Go.ChangeAt Go.RowKit
set_option linter.unusedVariables false

theorem Try.cellsAct : Try.prog.cellsOf 37 = 5 := by kernel_rfl
theorem Try.cellsInt10 : Try.prog.cellsOf 3 = 1 := by kernel_rfl
theorem Zi.parts10 {w : World} {x y : Value} {z : Int} {k : Nat} (h : Zi w (.agg #[x, y]) z k) : ∃ nv av lv cv, x = .bool nv ∧ y = .slice av lv cv := by
  obtain ⟨n, a, l, c, e⟩ := h.isI
  rw [Prod.mk.injEq] at e
  exact ⟨n, a, l, c, e.1, e.2⟩
set_option maxRecDepth 100000 in
theorem open_act10 {H : Type} {enc : TypeId × Value → H} {W : World} {fuel : Nat} {cs : List Value} {x : DataW H × List MemPlace}
    (hf : DataW.trod enc Try.prog W 0 (fun _ => true) true fuel 37 cs = some x) (hb : Rows.uptoBulk x.1 ≤ 1048576) :
    ∃ (kind I J : Int) (nv : Bool) (av : Option Addr) (lv cv : Nat) (z : Int), cs = [.int .i64 kind, .int .i64 I, .int .i64 J, .bool nv, .slice av lv cv] ∧ Zi W (.agg #[.bool nv, .slice av lv cv]) z 1048576 := by
  obtain ⟨y0, y1, y2, y3, n, rfl, hl, t0, t1, t2, t3⟩ := Joins.trod_struct4 Try.underlying37 hf
  rw [Try.cellsAct] at hl
  simp only [Rows.uptoBulk, Rows.uptoBulkAll] at hb
  match cs, hl with
  | [c0, c1, c2, c3, c4], _ =>
    simp only [Try.cellsInt10, Try.cellsZ, List.drop_zero, List.drop_succ_cons, List.take_succ_cons, List.take_zero] at t0 t1 t2 t3
    obtain ⟨k, e0, _, _⟩ := DataW.trod_int Try.underlying3 t0
    obtain ⟨i, e1, _, _⟩ := DataW.trod_int Try.underlying3 t1
    obtain ⟨j, e2, _, _⟩ := DataW.trod_int Try.underlying3 t2
    obtain ⟨x0, x1, z, kz, e3, hz, hkz⟩ := open_int3 t3 (by omega)
    simp only [List.cons.injEq, and_true] at e0 e1 e2 e3
    obtain ⟨nv, av, lv, cv, q1, q2⟩ := hz.parts10
    obtain ⟨e3, e4⟩ := e3
    subst e0 e1 e2 e3 e4 q1 q2
    exact ⟨k, i, j, nv, av, lv, cv, z, rfl, hz.more (by omega)⟩
theorem open_acts10 {H : Type} {enc : TypeId × Value → H} {W : World} {a : Option Addr} {len cap : Nat} {d : DataW H} {p : List MemPlace}
    (h0 : DataW.Trod enc Try.prog W 0 (fun _ => true) true 25 (.slice a len cap) d p) (hb : Rows.uptoBulk d ≤ 1048576) : Acts10 W a len cap := by
  obtain ⟨fuel, hf⟩ := h0
  rcases Deep.open_slice Try.underlying25 hf with ⟨hcs, _⟩ | ⟨x, l, c, m, n, D, Pl, hcs, _, hl, hm, hmm, hx, hel⟩
  · simp [Value.cells] at hcs
    obtain ⟨rfl, rfl, rfl⟩ := hcs
    exact ⟨Nat.le_refl _, Nat.zero_le _, .inl rfl⟩
  · simp [Value.cells] at hcs
    obtain ⟨rfl, rfl, rfl⟩ := hcs
    simp only [if_true] at hmm
    subst hmm
    have hd : d = .slice ((List.range len).map D) ((List.range (m - len)).map fun j => D (len + j)) := congrArg Prod.fst hx
    rw [hd] at hb
    simp only [Rows.uptoBulk] at hb
    have e1 := bulk_len ((List.range len).map D)
    simp only [List.length_map, List.length_range] at e1
    rw [Try.cellsAct] at hel
    refine ⟨hl, by omega, ?_⟩
    by_cases he : len = 0
    · exact .inl he
    · obtain ⟨b, off, spot⟩ := x
      obtain ⟨cs0, h10, h20⟩ := hel 0 (by omega)
      have hb0 : Rows.uptoBulk (D 0) ≤ 1048576 := by
        have := bulk_in (List.mem_map_of_mem (f := D) (List.mem_range.2 (show 0 < len by omega)))
        omega
      obtain ⟨_, _, _, _, _, _, _, _, rfl, _⟩ := open_act10 (x := (D 0, Pl 0)) h20 hb0
      have hc := (World.cells?_some h10).2.2 0 (by omega)
      rw [Deep.add_add] at hc
      simp only [Nat.zero_mul, Nat.add_zero, List.getElem?_cons_zero] at hc
      have hspot : spot = none := by simpa [Addr.add] using World.cell?_spot hc
      subst hspot
      refine .inr ⟨b, off, rfl, ?_, fun k hk => ?_⟩
      · have := World.block_lt_of_cell? W _ hc
        simpa [Addr.add] using this
      · obtain ⟨cs', h1, h2⟩ := hel k (by omega)
        have hbi : Rows.uptoBulk (D k) ≤ 1048576 := by
          have := bulk_in (List.mem_map_of_mem (f := D) (List.mem_range.2 hk))
          omega
        obtain ⟨kind, I, J, nv, av, lv, cv, z, rfl, hz⟩ := open_act10 (x := (D k, Pl k)) h2 hbi
        have hk' := (World.cells?_some h1).2.2
        have e : ∀ j, (⟨b, off, none⟩ : Addr).add j = ⟨b, off + j, none⟩ := fun j => by unfold Addr.add; split <;> simp_all
        have c0 := hk' 0 (by omega)
        have c1 := hk' 1 (by omega)
        have c2 := hk' 2 (by omega)
        have c3 := hk' 3 (by omega)
        have c4 := hk' 4 (by omega)
        simp only [e] at c0 c1 c2 c3 c4
        exact ⟨kind, I, J, nv, av, lv, cv, z, c0, c1, c2, c3, c4, hz⟩
end Go.Proofs.Ytachdicdfhfoaaa
