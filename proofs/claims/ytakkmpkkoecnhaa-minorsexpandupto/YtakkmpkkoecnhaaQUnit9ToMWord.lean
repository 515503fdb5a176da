/-
  QUnit9ToMWord: Unit9, Add9, Law9, Wake9, OpenM9, ZFloor, ZEuclid, ZMod, ZDivs, Less6, ZMet, MWord, joined.
-/
import Derived.Test.YtakkmpkkoecnhaaQCols9ToMul9
import Derived.Test.YtakkmpkkoecnhaaQAlikeToOpenV8
import Derived.Test.YtakkmpkkoecnhaaQExact0ToZlaw0
import Derived.Test.YtakkmpkkoecnhaaQFil9ToTail
import Derived.Deep.Cut
import Derived.Test.YtakkmpkkoecnhaaQMulAll

/- Unit9 -/
namespace Go.Proofs.Ytakkmpkkoecnhaa
open Go.RowKit
set_option linter.unusedVariables false

theorem Arr.ne {w : World} {g b i : Nat} {u : Value} {ps : List (Value × Value)} (h : Arr w g ps) (hne : b ≠ g) : Arr (w.setCell ⟨b, i, none⟩ u) g ps := ⟨h.1.ne hne, h.2⟩
theorem Arr.put3 {w : World} {g b : Nat} {ps : List (Value × Value)} (h : Arr w g ps) (hne : b ≠ g) (y0 y1 y2 : Value) : Arr (put3 w b y0 y1 y2) g ps := ((h.ne hne).ne hne).ne hne
theorem Zcs.set {w w' : World} {ps : List (Value × Value)} {zs : List Int} {k t : Nat} {x y : Value} {z : Int} (h : Zcs w ps zs k) (hk : Wk w w') (hz : Zc w' (.agg #[x, y]) z k) : Zcs w' (ps.set t (x, y)) (zs.set t z) k := by
  refine ⟨by simp [h.1], fun j p q hp hq => ?_⟩
  by_cases e : j = t
  · subst e
    have h1 : j < ps.length := by simpa using (List.getElem?_eq_some_iff.1 hp).1
    rw [List.getElem?_set_self h1, Option.some.injEq] at hp
    rw [List.getElem?_set_self (by rw [← h.1]; exact h1), Option.some.injEq] at hq
    rw [← hp, ← hq]
    exact hz
  · rw [List.getElem?_set_ne (by omega)] at hp hq
    exact (h.2 j p q hp hq).wk hk
end Go.Proofs.Ytakkmpkkoecnhaa

/- Add9 -/
namespace Go.Proofs.Ytakkmpkkoecnhaa
open Go.RowKit
set_option linter.unusedVariables false

def addL (n : Nat) (xs ys : List Int) : List Int := (List.range n).map fun j => xs.getD j 0 + ys.getD j 0
theorem Mx.zl {w : World} {r c : Nat} {at_ : Value} {zs : List Int} {k : Nat} (h : Mx w (matv r c at_) r c zs k) : Zl w at_ zs k ∧ zs.length = r * c := by
  obtain ⟨a, ps, e, h2, h3, h4, -, -⟩ := h
  simp only [matv, Value.agg.injEq, Array.mk.injEq, List.cons.injEq, and_true, true_and] at e
  subst e
  exact ⟨zl_of h2 h3, h4⟩
end Go.Proofs.Ytakkmpkkoecnhaa

/- Law9 -/
namespace Go.Proofs.Ytakkmpkkoecnhaa
open Go.RowKit
set_option linter.unusedVariables false

theorem Zcs.at9 {B : Nat} {w : World} {b off l c : Nat} {ps : List (Value × Value)} {zs : List Int} {k : Nat} (h : Prs B w (.slice (some ⟨b, off, none⟩) l c) ps) (hz : Zcs w ps zs k) {i : Nat} (hi : i < zs.length) : ∃ n, ∃ xs : List Int, ∃ a c, w.cell? ⟨b, off + i * 2, none⟩ = some (.bool n) ∧ w.cell? ⟨b, off + i * 2 + 1, none⟩ = some (.slice a xs.length c) ∧ Zc w (.agg #[.bool n, .slice a xs.length c]) zs[i] k := by
  have hp : ps[i]? = some (ps[i]'(by rw [hz.1]; exact hi)) := List.getElem?_eq_getElem _
  have q := h.at hp
  have z := hz.2 i _ _ hp (List.getElem?_eq_getElem hi)
  have z' := z
  obtain ⟨n, xs, a, c, e, -⟩ := z
  simp only [Value.agg.injEq, Array.mk.injEq, List.cons.injEq, and_true] at e
  rw [e.1, e.2] at q
  rw [e.1, e.2] at z'
  exact ⟨n, xs, a, c, q.1, q.2, z'⟩
/-- Sound, by the numbers. -/
def Snd (r c : Int) (l : Nat) : Prop := 0 ≤ r ∧ r ≤ 64 ∧ 0 ≤ c ∧ c ≤ 64 ∧ (l : Int) = r * c
end Go.Proofs.Ytakkmpkkoecnhaa

/- Wake9 -/
namespace Go.Proofs.Ytakkmpkkoecnhaa
open Go.RowKit
set_option linter.unusedVariables false

theorem Zc.parts {w : World} {v : Value} {z : Int} {k : Nat} (h : Zc w v z k) : ∃ n, ∃ xs : List Int, ∃ a c, v = .agg #[.bool n, .slice a xs.length c] := by
  obtain ⟨n, xs, a, c, e, -⟩ := h
  exact ⟨n, xs, a, c, e⟩
end Go.Proofs.Ytakkmpkkoecnhaa

/- OpenM9 -/
namespace Go.Proofs.Ytakkmpkkoecnhaa
open Go.ChangeShapes Go.WideShapes Go.ChangeAt Go.RowKit
set_option linter.unusedVariables false

theorem Try.cellsM9 : Try.prog.cellsOf 24 = 3 := by kernel_rfl
theorem Try.cellsI9 : Try.prog.cellsOf 3 = 1 := by kernel_rfl
theorem Try.cellsL9 : Try.prog.cellsOf 22 = 1 := by kernel_rfl
/-- A matrix as it comes in, sound or not. -/
def Raw (w : World) (v : Value) (r c : Int) (l : Nat) (zs : List Int) : Prop := ∃ a cap ps, v = .agg #[.int .i64 r, .int .i64 c, .slice a l cap] ∧ Prs 0 w (.slice a l cap) ps ∧ Zis w ps zs 1048576 ∧ zs.length = l ∧ l ≤ 1048576
theorem Raw.now {w w' : World} {v : Value} {r c : Int} {l : Nat} {zs : List Int} (h : Raw w v r c l zs) (hb : Below w.heap.size w w') : Raw w' v r c l zs := by
  obtain ⟨a, cap, ps, h1, h2, h3, h4⟩ := h
  exact ⟨a, cap, ps, h1, h2.now hb, h3.now hb, h4⟩
theorem Raw.mx {w : World} {v : Value} {r c l : Nat} {zs : List Int} (h : Raw w v (r : Int) (c : Int) l zs) (hs : Snd (r : Int) (c : Int) l) : Mx w v r c zs 1048576 := by
  obtain ⟨a, cap, ps, h1, h2, h3, h4, h5⟩ := h
  obtain ⟨s1, s2, s3, s4, s5⟩ := hs
  exact ⟨_, ps, h1, h2, h3, by rw [h4]; exact Int.ofNat.inj (by simpa using s5), by omega, by omega⟩
theorem trod_struct3m {H : Type} {enc : TypeId × Value → H} {P : Program} {w : World} {base : Nat} {spare : Nat → Bool} {held : Bool} {t : TypeId} {f0 f1 f2 : Field} {fuel : Nat} {cs : List Value} {x : DataW H × List MemPlace} (ht : P.underlying t = some (.struct #[f0, f1, f2]))
    (h : DataW.trod enc P w base spare held fuel t cs = some x) :
    ∃ y0 y1 y2 n, x.1 = .agg [y0.1, y1.1, y2.1] ∧ cs.length = P.cellsOf t ∧ DataW.trod enc P w base spare held n f0.type ((cs.drop f0.offset).take (P.cellsOf f0.type)) = some y0 ∧ DataW.trod enc P w base spare held n f1.type ((cs.drop f1.offset).take (P.cellsOf f1.type)) = some y1 ∧ DataW.trod enc P w base spare held n f2.type ((cs.drop f2.offset).take (P.cellsOf f2.type)) = some y2 := by
  obtain ⟨xs, n, _, rfl, hl, hlen, hf⟩ := DataW.trod_struct ht h
  match xs, hlen with
  | [y0, y1, y2], _ => exact ⟨y0, y1, y2, n, by simp, hl, by simpa using hf 0 f0 rfl, by simpa using hf 1 f1 rfl, by simpa using hf 2 f2 rfl⟩
set_option maxRecDepth 100000 in
theorem open_list9 {H : Type} {enc : TypeId × Value → H} {W : World} {fuel : Nat} {v : Value} {y : DataW H × List MemPlace}
    (hf : DataW.trod enc Try.prog W 0 (fun _ => true) true fuel 22 [v] = some y) (hb : Rows.uptoBulk y.1 ≤ 1048576) :
    ∃ a l cap ps zs, v = .slice a l cap ∧ Prs 0 W (.slice a l cap) ps ∧ Zis W ps zs 1048576 ∧ zs.length = l ∧ l ≤ 1048576 := by
  have hn : ∀ c, v = .slice none 0 c → c = 0 := by
    rcases Deep.open_slice Try.underlying22 hf with ⟨hcs, _⟩ | ⟨x, len, cap, m, n, D, Pl, hcs, _⟩
    · simp only [List.cons.injEq, and_true] at hcs
      intro c e
      rw [hcs] at e
      simpa using e.symm
    · simp only [List.cons.injEq, and_true] at hcs
      intro c e
      rw [hcs] at e
      simp at e
  obtain ⟨zs, ks, h1, h2⟩ := open_ints1 hf hb
  have hz := h1.zl (K := 1048576) (by omega)
  obtain ⟨ps, p1, p2⟩ := hz.prs hn
  obtain ⟨a, c, e, -, hl, -⟩ := hz
  subst e
  exact ⟨a, zs.length, c, ps, zs, rfl, p1, p2, rfl, hl⟩
set_option maxRecDepth 100000 in
theorem open_mat9 {H : Type} {enc : TypeId × Value → H} {W : World} {r : Reach} {b0 : Nat} {v : Value} {d : DataW H} {p : List MemPlace}
    (hv : Value.okWide Try.prog W r b0 24 v) (h0 : DataW.Trod enc Try.prog W 0 (fun _ => true) true 24 v d p) (hb : Rows.uptoBulk d ≤ 1048576) :
    ∃ r c l zs, Raw W v r c l zs := by
  obtain ⟨cs, rfl, hsz⟩ := okWide_struct Try.underlying24 hv
  obtain ⟨fuel, hf⟩ := h0
  obtain ⟨y0, y1, y2, n, hx, hl, t0, t1, t2⟩ := trod_struct3m Try.underlying24 hf
  obtain ⟨L, rfl⟩ : ∃ L : List Value, cs = L.toArray := ⟨cs.toList, by simp⟩
  simp only [Value.cells] at hl t0 t1 t2
  rw [Try.cellsM9] at hl
  have hx' : d = .agg [y0.1, y1.1, y2.1] := hx
  subst hx'
  simp only [Rows.uptoBulk, Rows.uptoBulkAll] at hb
  match L, hl with
  | [e0, e1, e2], _ =>
    simp only [Try.cellsI9, Try.cellsL9, List.drop_zero, List.drop_succ_cons, List.take_succ_cons, List.take_zero] at t0 t1 t2
    obtain ⟨k0, q0, _, _⟩ := DataW.trod_int Try.underlying3 t0
    obtain ⟨k1, q1, _, _⟩ := DataW.trod_int Try.underlying3 t1
    simp only [List.cons.injEq, and_true] at q0 q1
    subst q0 q1
    obtain ⟨a, l, cap, ps, zs, rfl, h1, h2, h3, h4⟩ := open_list9 t2 (by omega)
    exact ⟨_, _, l, zs, a, cap, ps, rfl, h1, h2, h3, h4⟩
end Go.Proofs.Ytakkmpkkoecnhaa

/- ZFloor -/
namespace Go.Proofs.Ytakkmpkkoecnhaa
open Go.RowKit
set_option linter.unusedVariables false

theorem Duo.drew {w : World} {b : Nat} {x y : Value} (h : Duo w b x y) : Duo w.drew b x y := h
end Go.Proofs.Ytakkmpkkoecnhaa

/- ZEuclid -/
namespace Go.Proofs.Ytakkmpkkoecnhaa
open Go.RowKit
set_option linter.unusedVariables false

end Go.Proofs.Ytakkmpkkoecnhaa

/- ZMod -/
namespace Go.Proofs.Ytakkmpkkoecnhaa
open Go.RowKit
set_option linter.unusedVariables false

end Go.Proofs.Ytakkmpkkoecnhaa

/- ZDivs -/
namespace Go.Proofs.Ytakkmpkkoecnhaa
open Go.RowKit
set_option linter.unusedVariables false

theorem exact_yes {w : World} {v u : Value} {z y : Int} {k l : Nat} (h0 : Zi w v z k) (h1 : Zi w u y l) (hy : y ≠ 0) (hk : k ≤ 1099511627776) (hl : l ≤ 1099511627776) (hr : z.tmod y = 0) : Calls Try.prog 75 #[v, u] w (GivesZ1 0 w (z.tdiv y) k) :=
  (exact_z h0 h1 hy hk hl).mono fun e w' h => by
    rcases h with ⟨_, h⟩ | ⟨h, _⟩
    · exact h
    · exact absurd hr h
theorem tmod_small {z y : Int} (hy : y ≠ 0) : ((z.tmod y).natAbs : Int) < (y.natAbs : Int) ∧ (0 ≤ z → 0 ≤ z.tmod y) ∧ (z ≤ 0 → z.tmod y ≤ 0) ∧ z.tdiv y * y + z.tmod y = z := by
  have h0 : z.tdiv y * y + z.tmod y = z := by rw [Int.mul_comm]; exact Int.mul_tdiv_add_tmod z y
  have h1 := Int.tmod_eq_emod (a := z) (b := y)
  have h2 := Int.emod_nonneg z hy
  have h3 : z % y < (y.natAbs : Int) := by
    by_cases h : 0 < y
    · have := Int.emod_lt_of_pos z h
      omega
    · have := Int.emod_lt_of_pos z (b := -y) (by omega)
      rw [Int.emod_neg] at this
      omega
  have h4 : 0 ≤ z → 0 ≤ z.tmod y := fun h => by
    rw [if_pos (.inl h)] at h1
    omega
  have h5 : z ≤ 0 → z.tmod y ≤ 0 := fun h => by
    have h6 := Int.tmod_eq_emod (a := -z) (b := y)
    rw [if_pos (.inl (by omega)), Int.neg_tmod] at h6
    have h7 := Int.emod_nonneg (-z) hy
    omega
  refine ⟨?_, h4, h5, h0⟩
  by_cases h : 0 ≤ z
  · rw [if_pos (.inl h)] at h1
    omega
  · have h6 := Int.tmod_eq_emod (a := -z) (b := y)
    rw [if_pos (.inl (by omega)), Int.neg_tmod] at h6
    have h7 := Int.emod_nonneg (-z) hy
    have h8 : (-z) % y < (y.natAbs : Int) := by
      by_cases h : 0 < y
      · have := Int.emod_lt_of_pos (-z) h
        omega
      · have := Int.emod_lt_of_pos (-z) (b := -y) (by omega)
        rw [Int.emod_neg] at this
        omega
    omega
theorem sign_cases (x : Int) : (x < 0 ∧ cmpI x 0 = -1) ∨ (x = 0 ∧ cmpI x 0 = 0) ∨ (0 < x ∧ cmpI x 0 = 1) := cmp_cases x 0
theorem sgn_abs (B : Int) : cmpI B 0 * B = (B.natAbs : Int) := by
  rcases sign_cases B with ⟨b1, b2⟩ | ⟨b1, b2⟩ | ⟨b1, b2⟩ <;> rw [b2] <;> omega
end Go.Proofs.Ytakkmpkkoecnhaa

/- Less6 -/
namespace Go.Proofs.Ytakkmpkkoecnhaa
open Go.RowKit
set_option linter.unusedVariables false

theorem pair_eq {x0 x1 y0 y1 : Value} (h : #[x0, x1] = #[y0, y1]) : x0 = y0 ∧ x1 = y1 := by simpa using h
theorem Zi.comp {w : World} {v0 v1 : Value} {z : Int} {k : Nat} (h : Zi w (.agg #[v0, v1]) z k) : ∃ n, ∃ xs : List Int, ∃ a c, v0 = .bool n ∧ v1 = .slice a xs.length c := by
  obtain ⟨n, xs, a, c, e, _⟩ := h
  obtain ⟨e1, e2⟩ := pair_eq (show #[v0, v1] = _ by simpa using e)
  exact ⟨n, xs, a, c, e1, e2⟩
/-- A row is no list of words. -/
theorem Row.cel {w : World} {g b i : Nat} {L : List Value} {T : TypeId} {M : List Value} {u : Value} (h : Row w g L) (d : Cel w b T M) (hT : T ≠ 47) : Row (w.setCell ⟨b, i, none⟩ u) g L := by
  have hne : g ≠ b := fun e => by
    subst e
    have := (show w.heap[g]? = _ from h).symm.trans (show w.heap[g]? = _ from d)
    simp at this
    exact hT this.2.symm
  exact (Below.heap_setCell w _ u g (fun e => hne (by simpa using e))).trans h
theorem Mine.cel {B : Nat} {w : World} {v : Value} {zs : List Int} (h : Mine B w v zs) {b i : Nat} {T : TypeId} {M : List Value} {u : Value} (d : Cel w b T M) (hT : T ≠ 47) : Mine B (w.setCell ⟨b, i, none⟩ u) v zs := by
  obtain ⟨hw, h | ⟨g, r, cap, h1, h2, h3, h4, h5, h6⟩⟩ := h
  · exact ⟨hw, .inl h⟩
  · exact ⟨hw, .inr ⟨g, r, cap, h1, h2, h3, h4, h5, h6.cel d hT⟩⟩
theorem Zm.cel {B : Nat} {w : World} {v : Value} {z : Int} {k : Nat} (h : Zm B w v z k) {b i : Nat} {T : TypeId} {M : List Value} {u : Value} (d : Cel w b T M) (hT : T ≠ 47) : Zm B (w.setCell ⟨b, i, none⟩ u) v z k := by
  obtain ⟨n, xs, a, c, h1, h2, h3⟩ := h
  exact ⟨n, xs, a, c, h1, h2.cel d hT, h3⟩
end Go.Proofs.Ytakkmpkkoecnhaa

/- ZMet -/
namespace Go.Proofs.Ytakkmpkkoecnhaa
open Go.RowKit
set_option linter.unusedVariables false

end Go.Proofs.Ytakkmpkkoecnhaa

/- MWord -/
namespace Go.Proofs.Ytakkmpkkoecnhaa
open Go.RowKit
set_option linter.unusedVariables false

end Go.Proofs.Ytakkmpkkoecnhaa
