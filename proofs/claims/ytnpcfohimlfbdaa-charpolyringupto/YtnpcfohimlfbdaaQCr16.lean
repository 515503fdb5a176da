/-
  Cr16: the law CharpolyRing.
-/
import Derived.Test.YtnpcfohimlfbdaaQVd16
import Derived.Test.YtnpcfohimlfbdaaQCc16ToAw16
import Derived.Test.YtnpcfohimlfbdaaQProd9ToChkN9
namespace Go.Proofs.Ytnpcfohimlfbdaa
open Go.ChangeShapes Go.WideShapes Go.ChangeAt Go.RowKit
set_option linter.unusedVariables false
set_option linter.unusedSimpArgs false

/-- Three polynomials and a number as they come in. -/
def RawP (w : World) (v : Value) (ps qs rs : List Int) (x : Int) : Prop :=
  ∃ a0 l0 c0 a1 l1 c1 a2 l2 c2 nx ax lx cx pps, v = .agg #[.slice a0 l0 c0, .slice a1 l1 c1, .slice a2 l2 c2, .bool nx, .slice ax lx cx] ∧ Prs 0 w (.slice a0 l0 c0) pps ∧ Zis w pps ps 1048576 ∧
    Zl w (.slice a1 l1 c1) qs 1048576 ∧ Zl w (.slice a2 l2 c2) rs 1048576 ∧ Zi w (.agg #[.bool nx, .slice ax lx cx]) x 1048576 ∧ ps.length + qs.length + rs.length ≤ 1048571
set_option maxHeartbeats 6400000 in
set_option maxRecDepth 100000 in
theorem charpolyRing_any {w : World} {v : Value} {ps qs rs : List Int} {x : Int} (h : RawP w v ps qs rs x) : Calls Try.prog 3 #[v] w fun e w' => e = .returned (.bool true) ∧ Below w.heap.size w w' := by
  obtain ⟨a0, l0, c0, a1, l1, c1, a2, l2, c2, nx, ax, lx, cx, pps, rfl, hpr, hzi, hq, hr, hx, hl⟩ := h
  have P := hid (zl_of hpr hzi)
  have PR := hid hpr
  have ZI := hid hzi
  have Q := hid hq
  have R := hid hr
  have X := hid hx
  have HLS := hid hl
  have G : Hid (Below w.heap.size w w) := Below.refl _ _
  clear hpr hzi hq hr hx hl
  go_enter Try.func3, Try.ntmps3
  obtain ⟨V1, hV⟩ : ∃ V1, w.alloc (.cells #[.slice a0 l0 c0, .slice a1 l1 c1, .slice a2 l2 c2, .bool nx, .slice ax lx cx] 27) = V1 := ⟨_, rfl⟩
  obtain ⟨b, sz1⟩ := alo1 w (.cells #[.slice a0 l0 c0, .slice a1 l1 c1, .slice a2 l2 c2, .bool nx, .slice ax lx cx] 27)
  rw [hV] at b sz1
  replace P := hid (P.out.now b)
  replace PR := hid (PR.out.now b)
  replace ZI := hid (ZI.out.now b)
  replace Q := hid (Q.out.now b)
  replace R := hid (R.out.now b)
  replace X := hid (X.out.now b)
  replace G := hid (below_step G.out b)
  clear b sz1
  have DB : Hid (Cel V1 w.heap.size 27 [.slice a0 l0 c0, .slice a1 l1 c1, .slice a2 l2 c2, .bool nx, .slice ax lx cx]) := by unfold Hid; rw [← hV]; exact Cel.new w _ _
  have EV : Hid (w.alloc (.cells #[.slice a0 l0 c0, .slice a1 l1 c1, .slice a2 l2 c2, .bool nx, .slice ax lx cx] 27) = V1) := hV
  clear hV
  go_wp2_with fail
  rw [EV.out]
  clear EV
  refine (awake16).mono ?_
  rintro e w2 ⟨rfl, b⟩
  replace P := hid (P.out.now b)
  replace PR := hid (PR.out.now b)
  replace ZI := hid (ZI.out.now b)
  replace Q := hid (Q.out.now b)
  replace R := hid (R.out.now b)
  replace X := hid (X.out.now b)
  replace DB := hid (DB.out.step b)
  replace G := hid (below_step G.out b)
  clear b
  have x0 := DB.out.at (i := 0) rfl
  have x1 := DB.out.at (i := 1) rfl
  have x2 := DB.out.at (i := 2) rfl
  go_wp2_with fail
  clear x0 x1 x2
  refine (ring16 P.out Q.out R.out (Nat.le_refl _) HLS.out).mono ?_
  rintro e w3 ⟨rfl, b⟩
  replace P := hid (P.out.now b)
  replace PR := hid (PR.out.now b)
  replace ZI := hid (ZI.out.now b)
  replace Q := hid (Q.out.now b)
  replace R := hid (R.out.now b)
  replace X := hid (X.out.now b)
  replace DB := hid (DB.out.step b)
  replace G := hid (below_step G.out b)
  clear b
  have x0 := DB.out.at (i := 0) rfl
  have x1 := DB.out.at (i := 1) rfl
  go_wp2_with fail
  clear x0 x1
  refine (divided16 P.out Q.out (Nat.le_refl _) (by have := HLS.out; omega)).mono ?_
  rintro e w4 ⟨rfl, b⟩
  replace P := hid (P.out.now b)
  replace PR := hid (PR.out.now b)
  replace ZI := hid (ZI.out.now b)
  replace Q := hid (Q.out.now b)
  replace R := hid (R.out.now b)
  replace X := hid (X.out.now b)
  replace DB := hid (DB.out.step b)
  replace G := hid (below_step G.out b)
  clear b
  have x0 := DB.out.at (i := 0) rfl
  have x1 := DB.out.at (i := 1) rfl
  have x3 := DB.out.at (i := 3) rfl
  have x4 := DB.out.at (i := 4) rfl
  go_wp2_with fail
  clear x0 x1 x3 x4
  refine (valued16 PR.out ZI.out Q.out X.out (Nat.le_refl _) (by have := HLS.out; omega)).mono ?_
  rintro e w5 ⟨rfl, b⟩
  replace P := hid (P.out.now b)
  replace PR := hid (PR.out.now b)
  replace ZI := hid (ZI.out.now b)
  replace Q := hid (Q.out.now b)
  replace R := hid (R.out.now b)
  replace X := hid (X.out.now b)
  replace DB := hid (DB.out.step b)
  replace G := hid (below_step G.out b)
  clear b
  have FIN : Hid (Below w.heap.size w w5) := G.out
  clear P PR ZI Q R X DB G
  go_wp2
  go_ret
  exact ⟨rfl, FIN.out⟩
theorem trod_struct4p {H : Type} {enc : TypeId × Value → H} {P : Program} {w : World} {base : Nat} {spare : Nat → Bool} {held : Bool} {t : TypeId} {f0 f1 f2 f3 : Field} {fuel : Nat} {cs : List Value} {x : DataW H × List MemPlace} (ht : P.underlying t = some (.struct #[f0, f1, f2, f3]))
    (h : DataW.trod enc P w base spare held fuel t cs = some x) :
    ∃ y0 y1 y2 y3 n, x.1 = .agg [y0.1, y1.1, y2.1, y3.1] ∧ cs.length = P.cellsOf t ∧ DataW.trod enc P w base spare held n f0.type ((cs.drop f0.offset).take (P.cellsOf f0.type)) = some y0 ∧ DataW.trod enc P w base spare held n f1.type ((cs.drop f1.offset).take (P.cellsOf f1.type)) = some y1 ∧ DataW.trod enc P w base spare held n f2.type ((cs.drop f2.offset).take (P.cellsOf f2.type)) = some y2 ∧ DataW.trod enc P w base spare held n f3.type ((cs.drop f3.offset).take (P.cellsOf f3.type)) = some y3 := by
  obtain ⟨xs, n, _, rfl, hl, hlen, hf⟩ := DataW.trod_struct ht h
  match xs, hlen with
  | [y0, y1, y2, y3], _ => exact ⟨y0, y1, y2, y3, n, by simp, hl, by simpa using hf 0 f0 rfl, by simpa using hf 1 f1 rfl, by simpa using hf 2 f2 rfl, by simpa using hf 3 f3 rfl⟩
theorem Try.cellsP16 : Try.prog.cellsOf 27 = 5 := by kernel_rfl
set_option maxRecDepth 100000 in
theorem open_list16 {H : Type} {enc : TypeId × Value → H} {W : World} {fuel : Nat} {v : Value} {y : DataW H × List MemPlace}
    (hf : DataW.trod enc Try.prog W 0 (fun _ => true) true fuel 22 [v] = some y) (hb : Rows.uptoBulk y.1 ≤ 1048576) :
    ∃ a l cap ps zs, v = .slice a l cap ∧ Prs 0 W (.slice a l cap) ps ∧ Zis W ps zs 1048576 ∧ zs.length + 1 ≤ Rows.uptoBulk y.1 := by
  have hn : ∀ c, v = .slice none 0 c → c = 0 := by
    rcases Deep.open_slice Try.underlying22 hf with ⟨hcs, _⟩ | ⟨x, len, cap, m, n, D, Pl, hcs, _⟩
    · simp only [List.cons.injEq, and_true] at hcs
      intro c e
      rw [hcs] at e
      simpa using e.symm
    · simp only [List.cons.injEq, and_true] at hcs
      intro c e
      rw [hcs] at e
      simp at e
  obtain ⟨zs, ks, h1, h2⟩ := open_ints1 hf hb
  have hz := h1.zl (K := 1048576) (by omega)
  obtain ⟨ps, p1, p2⟩ := hz.prs hn
  obtain ⟨a, c, e, -, hl, -⟩ := hz
  subst e
  exact ⟨a, zs.length, c, ps, zs, rfl, p1, p2, by omega⟩
set_option maxRecDepth 100000 in
theorem open_poly16 {H : Type} {enc : TypeId × Value → H} {W : World} {r : Reach} {b0 : Nat} {v : Value} {d : DataW H} {p : List MemPlace}
    (hv : Value.okWide Try.prog W r b0 27 v) (h0 : DataW.Trod enc Try.prog W 0 (fun _ => true) true 27 v d p) (hb : Rows.uptoBulk d ≤ 1048576) :
    ∃ ps qs rs x, RawP W v ps qs rs x := by
  obtain ⟨cs, rfl, hsz⟩ := okWide_struct Try.underlying27 hv
  obtain ⟨fuel, hf⟩ := h0
  obtain ⟨y0, y1, y2, y3, n, hx, hl, t0, t1, t2, t3⟩ := trod_struct4p Try.underlying27 hf
  obtain ⟨L, rfl⟩ : ∃ L : List Value, cs = L.toArray := ⟨cs.toList, by simp⟩
  simp only [Value.cells] at hl t0 t1 t2 t3
  rw [Try.cellsP16] at hl
  have hx' : d = .agg [y0.1, y1.1, y2.1, y3.1] := hx
  subst hx'
  simp only [Rows.uptoBulk, Rows.uptoBulkAll] at hb
  match L, hl with
  | [e0, e1, e2, e3, e4], _ =>
    simp only [Try.cellsL9, Try.cellsZ, List.drop_zero, List.drop_succ_cons, List.take_succ_cons, List.take_zero] at t0 t1 t2 t3
    have q3 := bulk_pos y3.1
    obtain ⟨a0, l0, c0, pps, ps, rfl, h1, h2, h3⟩ := open_list16 t0 (by omega)
    obtain ⟨a1, l1, c1, pqs, qs, rfl, i1, i2, i3⟩ := open_list16 t1 (by omega)
    obtain ⟨a2, l2, c2, prs, rs, rfl, j1, j2, j3⟩ := open_list16 t2 (by omega)
    obtain ⟨x0, x1, z, k, hcs, s1, s2⟩ := open_int3 t3 (by omega)
    simp only [List.cons.injEq, and_true] at hcs
    obtain ⟨rfl, rfl⟩ := hcs
    have s1' := s1
    obtain ⟨nx, xx, ax, cx, e, -⟩ := s1
    simp only [Value.agg.injEq, Array.mk.injEq, List.cons.injEq, and_true] at e
    obtain ⟨rfl, rfl⟩ := e
    exact ⟨ps, qs, rs, z, a0, l0, c0, a1, l1, c1, a2, l2, c2, nx, ax, _, cx, pps, rfl, h1, h2, zl_of i1 i2, zl_of j1 j2, s1'.more (by omega), by omega⟩
end Go.Proofs.Ytnpcfohimlfbdaa
