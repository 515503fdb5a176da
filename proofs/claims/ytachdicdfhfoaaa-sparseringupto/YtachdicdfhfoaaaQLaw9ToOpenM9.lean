/-
  QLaw9ToOpenM9: Law9, Wake9, OpenM9, joined.
-/
import Derived.Test.YtachdicdfhfoaaaQAdd9
import Derived.Test.YtachdicdfhfoaaaQOpenZToOpenV8

/- Law9 -/
namespace Go.Proofs.Ytachdicdfhfoaaa
open Go.RowKit
set_option linter.unusedVariables false

theorem Zcs.at9 {B : Nat} {w : World} {b off l c : Nat} {ps : List (Value × Value)} {zs : List Int} {k : Nat} (h : Prs B w (.slice (some ⟨b, off, none⟩) l c) ps) (hz : Zcs w ps zs k) {i : Nat} (hi : i < zs.length) : ∃ n, ∃ xs : List Int, ∃ a c, w.cell? ⟨b, off + i * 2, none⟩ = some (.bool n) ∧ w.cell? ⟨b, off + i * 2 + 1, none⟩ = some (.slice a xs.length c) ∧ Zc w (.agg #[.bool n, .slice a xs.length c]) zs[i] k := by
  have hp : ps[i]? = some (ps[i]'(by rw [hz.1]; exact hi)) := List.getElem?_eq_getElem _
  have q := h.at hp
  have z := hz.2 i _ _ hp (List.getElem?_eq_getElem hi)
  have z' := z
  obtain ⟨n, xs, a, c, e, -⟩ := z
  simp only [Value.agg.injEq, Array.mk.injEq, List.cons.injEq, and_true] at e
  rw [e.1, e.2] at q
  rw [e.1, e.2] at z'
  exact ⟨n, xs, a, c, q.1, q.2, z'⟩
def SameH (w : World) (n gk : Nat) (s : Value) (wx : World) : Prop := ∃ i : Nat, s = .int .i64 (i : Int) ∧ i ≤ n ∧ gk = n - i ∧ Below w.heap.size w wx
/-- Sound, by the numbers. -/
def Snd (r c : Int) (l : Nat) : Prop := 0 ≤ r ∧ r ≤ 64 ∧ 0 ≤ c ∧ c ≤ 64 ∧ (l : Int) = r * c
def Sounded (w : World) (r c : Int) (l : Nat) (e : Ending) (w' : World) : Prop := ∃ b : Bool, e = .returned (.bool b) ∧ (b = true ↔ Snd r c l) ∧ Below w.heap.size w w'
end Go.Proofs.Ytachdicdfhfoaaa

/- Wake9 -/
namespace Go.Proofs.Ytachdicdfhfoaaa
open Go.RowKit
set_option linter.unusedVariables false

theorem mx_one {W : World} {b k : Nat} {x y : Value} {z : Int} (d : Duo W b x y) (h : Zi W (.agg #[x, y]) z k) : Mx W (.agg #[.int .i64 1, .int .i64 1, .slice (some ⟨b, 0, none⟩) 1 1]) 1 1 [z] k := by
  refine ⟨.slice (some ⟨b, 0, none⟩) 1 1, [(x, y)], rfl, ⟨_, _, rfl, by simp, by simp, (fun q => by cases q), .inr ⟨b, 0, rfl, Nat.zero_le _, d.blk, fun j p hp => ?_⟩⟩, ⟨rfl, fun j p q hp hq => ?_⟩, rfl, by omega, by omega⟩
  · match j, hp with
    | 0, hp =>
      simp at hp
      subst hp
      exact ⟨d.c0, d.c1⟩
  · match j, hp, hq with
    | 0, hp, hq =>
      simp at hp hq
      subst hp hq
      exact h
theorem six9 : prodL 1 1 1 [2] [3] = [6] := by decide
theorem Zc.parts {w : World} {v : Value} {z : Int} {k : Nat} (h : Zc w v z k) : ∃ n, ∃ xs : List Int, ∃ a c, v = .agg #[.bool n, .slice a xs.length c] := by
  obtain ⟨n, xs, a, c, e, -⟩ := h
  exact ⟨n, xs, a, c, e⟩
end Go.Proofs.Ytachdicdfhfoaaa

/- OpenM9 -/
namespace Go.Proofs.Ytachdicdfhfoaaa
open Go.ChangeShapes Go.WideShapes Go.ChangeAt Go.RowKit
set_option linter.unusedVariables false

theorem Try.cellsM9 : Try.prog.cellsOf 24 = 3 := by kernel_rfl
theorem Try.cellsI9 : Try.prog.cellsOf 3 = 1 := by kernel_rfl
theorem Try.cellsL9 : Try.prog.cellsOf 22 = 1 := by kernel_rfl
/-- A matrix as it comes in, sound or not. -/
def Raw (w : World) (v : Value) (r c : Int) (l : Nat) (zs : List Int) : Prop := ∃ a cap ps, v = .agg #[.int .i64 r, .int .i64 c, .slice a l cap] ∧ Prs 0 w (.slice a l cap) ps ∧ Zis w ps zs 1048576 ∧ zs.length = l ∧ l ≤ 1048576
theorem Raw.now {w w' : World} {v : Value} {r c : Int} {l : Nat} {zs : List Int} (h : Raw w v r c l zs) (hb : Below w.heap.size w w') : Raw w' v r c l zs := by
  obtain ⟨a, cap, ps, h1, h2, h3, h4⟩ := h
  exact ⟨a, cap, ps, h1, h2.now hb, h3.now hb, h4⟩
theorem Raw.mx {w : World} {v : Value} {r c l : Nat} {zs : List Int} (h : Raw w v (r : Int) (c : Int) l zs) (hs : Snd (r : Int) (c : Int) l) : Mx w v r c zs 1048576 := by
  obtain ⟨a, cap, ps, h1, h2, h3, h4, h5⟩ := h
  obtain ⟨s1, s2, s3, s4, s5⟩ := hs
  exact ⟨_, ps, h1, h2, h3, by rw [h4]; exact Int.ofNat.inj (by simpa using s5), by omega, by omega⟩
theorem trod_struct3m {H : Type} {enc : TypeId × Value → H} {P : Program} {w : World} {base : Nat} {spare : Nat → Bool} {held : Bool} {t : TypeId} {f0 f1 f2 : Field} {fuel : Nat} {cs : List Value} {x : DataW H × List MemPlace} (ht : P.underlying t = some (.struct #[f0, f1, f2]))
    (h : DataW.trod enc P w base spare held fuel t cs = some x) :
    ∃ y0 y1 y2 n, x.1 = .agg [y0.1, y1.1, y2.1] ∧ cs.length = P.cellsOf t ∧ DataW.trod enc P w base spare held n f0.type ((cs.drop f0.offset).take (P.cellsOf f0.type)) = some y0 ∧ DataW.trod enc P w base spare held n f1.type ((cs.drop f1.offset).take (P.cellsOf f1.type)) = some y1 ∧ DataW.trod enc P w base spare held n f2.type ((cs.drop f2.offset).take (P.cellsOf f2.type)) = some y2 := by
  obtain ⟨xs, n, _, rfl, hl, hlen, hf⟩ := DataW.trod_struct ht h
  match xs, hlen with
  | [y0, y1, y2], _ => exact ⟨y0, y1, y2, n, by simp, hl, by simpa using hf 0 f0 rfl, by simpa using hf 1 f1 rfl, by simpa using hf 2 f2 rfl⟩
set_option maxRecDepth 100000 in
theorem open_list9 {H : Type} {enc : TypeId × Value → H} {W : World} {fuel : Nat} {v : Value} {y : DataW H × List MemPlace}
    (hf : DataW.trod enc Try.prog W 0 (fun _ => true) true fuel 22 [v] = some y) (hb : Rows.uptoBulk y.1 ≤ 1048576) :
    ∃ a l cap ps zs, v = .slice a l cap ∧ Prs 0 W (.slice a l cap) ps ∧ Zis W ps zs 1048576 ∧ zs.length = l ∧ l ≤ 1048576 := by
  have hn : ∀ c, v = .slice none 0 c → c = 0 := by
    rcases Deep.open_slice Try.underlying22 hf with ⟨hcs, _⟩ | ⟨x, len, cap, m, n, D, Pl, hcs, _⟩
    · simp only [List.cons.injEq, and_true] at hcs
      intro c e
      rw [hcs] at e
      simpa using e.symm
    · simp only [List.cons.injEq, and_true] at hcs
      intro c e
      rw [hcs] at e
      simp at e
  obtain ⟨zs, ks, h1, h2⟩ := open_ints1 hf hb
  have hz := h1.zl (K := 1048576) (by omega)
  obtain ⟨ps, p1, p2⟩ := hz.prs hn
  obtain ⟨a, c, e, -, hl, -⟩ := hz
  subst e
  exact ⟨a, zs.length, c, ps, zs, rfl, p1, p2, rfl, hl⟩
set_option maxRecDepth 100000 in
theorem open_mat9 {H : Type} {enc : TypeId × Value → H} {W : World} {r : Reach} {b0 : Nat} {v : Value} {d : DataW H} {p : List MemPlace}
    (hv : Value.okWide Try.prog W r b0 24 v) (h0 : DataW.Trod enc Try.prog W 0 (fun _ => true) true 24 v d p) (hb : Rows.uptoBulk d ≤ 1048576) :
    ∃ r c l zs, Raw W v r c l zs := by
  obtain ⟨cs, rfl, hsz⟩ := okWide_struct Try.underlying24 hv
  obtain ⟨fuel, hf⟩ := h0
  obtain ⟨y0, y1, y2, n, hx, hl, t0, t1, t2⟩ := trod_struct3m Try.underlying24 hf
  obtain ⟨L, rfl⟩ : ∃ L : List Value, cs = L.toArray := ⟨cs.toList, by simp⟩
  simp only [Value.cells] at hl t0 t1 t2
  rw [Try.cellsM9] at hl
  have hx' : d = .agg [y0.1, y1.1, y2.1] := hx
  subst hx'
  simp only [Rows.uptoBulk, Rows.uptoBulkAll] at hb
  match L, hl with
  | [e0, e1, e2], _ =>
    simp only [Try.cellsI9, Try.cellsL9, List.drop_zero, List.drop_succ_cons, List.take_succ_cons, List.take_zero] at t0 t1 t2
    obtain ⟨k0, q0, _, _⟩ := DataW.trod_int Try.underlying3 t0
    obtain ⟨k1, q1, _, _⟩ := DataW.trod_int Try.underlying3 t1
    simp only [List.cons.injEq, and_true] at q0 q1
    subst q0 q1
    obtain ⟨a, l, cap, ps, zs, rfl, h1, h2, h3, h4⟩ := open_list9 t2 (by omega)
    exact ⟨_, _, l, zs, a, cap, ps, rfl, h1, h2, h3, h4⟩
end Go.Proofs.Ytachdicdfhfoaaa
