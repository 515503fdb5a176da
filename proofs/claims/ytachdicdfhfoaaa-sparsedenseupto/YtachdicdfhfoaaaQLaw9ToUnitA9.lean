/-
  QLaw9ToUnitA9: Law9, Wake9, OpenM9, UnitA9, joined.
-/
import Derived.Test.YtachdicdfhfoaaaQAdd9
import Derived.Test.YtachdicdfhfoaaaQAlikeToOpenV8
import Derived.Test.YtachdicdfhfoaaaQUnit9

/- Law9 -/
namespace Go.Proofs.Ytachdicdfhfoaaa
open Go.RowKit
set_option linter.unusedVariables false

theorem Zcs.at9 {B : Nat} {w : World} {b off l c : Nat} {ps : List (Value × Value)} {zs : List Int} {k : Nat} (h : Prs B w (.slice (some ⟨b, off, none⟩) l c) ps) (hz : Zcs w ps zs k) {i : Nat} (hi : i < zs.length) : ∃ n, ∃ xs : List Int, ∃ a c, w.cell? ⟨b, off + i * 2, none⟩ = some (.bool n) ∧ w.cell? ⟨b, off + i * 2 + 1, none⟩ = some (.slice a xs.length c) ∧ Zc w (.agg #[.bool n, .slice a xs.length c]) zs[i] k := by
  have hp : ps[i]? = some (ps[i]'(by rw [hz.1]; exact hi)) := List.getElem?_eq_getElem _
  have q := h.at hp
  have z := hz.2 i _ _ hp (List.getElem?_eq_getElem hi)
  have z' := z
  obtain ⟨n, xs, a, c, e, -⟩ := z
  simp only [Value.agg.injEq, Array.mk.injEq, List.cons.injEq, and_true] at e
  rw [e.1, e.2] at q
  rw [e.1, e.2] at z'
  exact ⟨n, xs, a, c, q.1, q.2, z'⟩
def SameH (w : World) (n gk : Nat) (s : Value) (wx : World) : Prop := ∃ i : Nat, s = .int .i64 (i : Int) ∧ i ≤ n ∧ gk = n - i ∧ Below w.heap.size w wx
/-- Sound, by the numbers. -/
def Snd (r c : Int) (l : Nat) : Prop := 0 ≤ r ∧ r ≤ 64 ∧ 0 ≤ c ∧ c ≤ 64 ∧ (l : Int) = r * c
def Sounded (w : World) (r c : Int) (l : Nat) (e : Ending) (w' : World) : Prop := ∃ b : Bool, e = .returned (.bool b) ∧ (b = true ↔ Snd r c l) ∧ Below w.heap.size w w'
end Go.Proofs.Ytachdicdfhfoaaa

/- Wake9 -/
namespace Go.Proofs.Ytachdicdfhfoaaa
open Go.RowKit
set_option linter.unusedVariables false

theorem mx_one {W : World} {b k : Nat} {x y : Value} {z : Int} (d : Duo W b x y) (h : Zi W (.agg #[x, y]) z k) : Mx W (.agg #[.int .i64 1, .int .i64 1, .slice (some ⟨b, 0, none⟩) 1 1]) 1 1 [z] k := by
  refine ⟨.slice (some ⟨b, 0, none⟩) 1 1, [(x, y)], rfl, ⟨_, _, rfl, by simp, by simp, (fun q => by cases q), .inr ⟨b, 0, rfl, Nat.zero_le _, d.blk, fun j p hp => ?_⟩⟩, ⟨rfl, fun j p q hp hq => ?_⟩, rfl, by omega, by omega⟩
  · match j, hp with
    | 0, hp =>
      simp at hp
      subst hp
      exact ⟨d.c0, d.c1⟩
  · match j, hp, hq with
    | 0, hp, hq =>
      simp at hp hq
      subst hp hq
      exact h
theorem six9 : prodL 1 1 1 [2] [3] = [6] := by decide
theorem Zc.parts {w : World} {v : Value} {z : Int} {k : Nat} (h : Zc w v z k) : ∃ n, ∃ xs : List Int, ∃ a c, v = .agg #[.bool n, .slice a xs.length c] := by
  obtain ⟨n, xs, a, c, e, -⟩ := h
  exact ⟨n, xs, a, c, e⟩
end Go.Proofs.Ytachdicdfhfoaaa

/- OpenM9 -/
namespace Go.Proofs.Ytachdicdfhfoaaa
open Go.ChangeShapes Go.WideShapes Go.ChangeAt Go.RowKit
set_option linter.unusedVariables false

theorem Try.cellsM9 : Try.prog.cellsOf 24 = 3 := by kernel_rfl
theorem Try.cellsI9 : Try.prog.cellsOf 3 = 1 := by kernel_rfl
theorem Try.cellsL9 : Try.prog.cellsOf 22 = 1 := by kernel_rfl
/-- A matrix as it comes in, sound or not. -/
def Raw (w : World) (v : Value) (r c : Int) (l : Nat) (zs : List Int) : Prop := ∃ a cap ps, v = .agg #[.int .i64 r, .int .i64 c, .slice a l cap] ∧ Prs 0 w (.slice a l cap) ps ∧ Zis w ps zs 1048576 ∧ zs.length = l ∧ l ≤ 1048576
theorem Raw.now {w w' : World} {v : Value} {r c : Int} {l : Nat} {zs : List Int} (h : Raw w v r c l zs) (hb : Below w.heap.size w w') : Raw w' v r c l zs := by
  obtain ⟨a, cap, ps, h1, h2, h3, h4⟩ := h
  exact ⟨a, cap, ps, h1, h2.now hb, h3.now hb, h4⟩
theorem Raw.mx {w : World} {v : Value} {r c l : Nat} {zs : List Int} (h : Raw w v (r : Int) (c : Int) l zs) (hs : Snd (r : Int) (c : Int) l) : Mx w v r c zs 1048576 := by
  obtain ⟨a, cap, ps, h1, h2, h3, h4, h5⟩ := h
  obtain ⟨s1, s2, s3, s4, s5⟩ := hs
  exact ⟨_, ps, h1, h2, h3, by rw [h4]; exact Int.ofNat.inj (by simpa using s5), by omega, by omega⟩
theorem trod_struct3m {H : Type} {enc : TypeId × Value → H} {P : Program} {w : World} {base : Nat} {spare : Nat → Bool} {held : Bool} {t : TypeId} {f0 f1 f2 : Field} {fuel : Nat} {cs : List Value} {x : DataW H × List MemPlace} (ht : P.underlying t = some (.struct #[f0, f1, f2]))
    (h : DataW.trod enc P w base spare held fuel t cs = some x) :
    ∃ y0 y1 y2 n, x.1 = .agg [y0.1, y1.1, y2.1] ∧ cs.length = P.cellsOf t ∧ DataW.trod enc P w base spare held n f0.type ((cs.drop f0.offset).take (P.cellsOf f0.type)) = some y0 ∧ DataW.trod enc P w base spare held n f1.type ((cs.drop f1.offset).take (P.cellsOf f1.type)) = some y1 ∧ DataW.trod enc P w base spare held n f2.type ((cs.drop f2.offset).take (P.cellsOf f2.type)) = some y2 := by
  obtain ⟨xs, n, _, rfl, hl, hlen, hf⟩ := DataW.trod_struct ht h
  match xs, hlen with
  | [y0, y1, y2], _ => exact ⟨y0, y1, y2, n, by simp, hl, by simpa using hf 0 f0 rfl, by simpa using hf 1 f1 rfl, by simpa using hf 2 f2 rfl⟩
set_option maxRecDepth 100000 in
theorem open_list9 {H : Type} {enc : TypeId × Value → H} {W : World} {fuel : Nat} {v : Value} {y : DataW H × List MemPlace}
    (hf : DataW.trod enc Try.prog W 0 (fun _ => true) true fuel 22 [v] = some y) (hb : Rows.uptoBulk y.1 ≤ 1048576) :
    ∃ a l cap ps zs, v = .slice a l cap ∧ Prs 0 W (.slice a l cap) ps ∧ Zis W ps zs 1048576 ∧ zs.length = l ∧ l ≤ 1048576 := by
  have hn : ∀ c, v = .slice none 0 c → c = 0 := by
    rcases Deep.open_slice Try.underlying22 hf with ⟨hcs, _⟩ | ⟨x, len, cap, m, n, D, Pl, hcs, _⟩
    · simp only [List.cons.injEq, and_true] at hcs
      intro c e
      rw [hcs] at e
      simpa using e.symm
    · simp only [List.cons.injEq, and_true] at hcs
      intro c e
      rw [hcs] at e
      simp at e
  obtain ⟨zs, ks, h1, h2⟩ := open_ints1 hf hb
  have hz := h1.zl (K := 1048576) (by omega)
  obtain ⟨ps, p1, p2⟩ := hz.prs hn
  obtain ⟨a, c, e, -, hl, -⟩ := hz
  subst e
  exact ⟨a, zs.length, c, ps, zs, rfl, p1, p2, rfl, hl⟩
set_option maxRecDepth 100000 in
theorem open_mat9 {H : Type} {enc : TypeId × Value → H} {W : World} {r : Reach} {b0 : Nat} {v : Value} {d : DataW H} {p : List MemPlace}
    (hv : Value.okWide Try.prog W r b0 24 v) (h0 : DataW.Trod enc Try.prog W 0 (fun _ => true) true 24 v d p) (hb : Rows.uptoBulk d ≤ 1048576) :
    ∃ r c l zs, Raw W v r c l zs := by
  obtain ⟨cs, rfl, hsz⟩ := okWide_struct Try.underlying24 hv
  obtain ⟨fuel, hf⟩ := h0
  obtain ⟨y0, y1, y2, n, hx, hl, t0, t1, t2⟩ := trod_struct3m Try.underlying24 hf
  obtain ⟨L, rfl⟩ : ∃ L : List Value, cs = L.toArray := ⟨cs.toList, by simp⟩
  simp only [Value.cells] at hl t0 t1 t2
  rw [Try.cellsM9] at hl
  have hx' : d = .agg [y0.1, y1.1, y2.1] := hx
  subst hx'
  simp only [Rows.uptoBulk, Rows.uptoBulkAll] at hb
  match L, hl with
  | [e0, e1, e2], _ =>
    simp only [Try.cellsI9, Try.cellsL9, List.drop_zero, List.drop_succ_cons, List.take_succ_cons, List.take_zero] at t0 t1 t2
    obtain ⟨k0, q0, _, _⟩ := DataW.trod_int Try.underlying3 t0
    obtain ⟨k1, q1, _, _⟩ := DataW.trod_int Try.underlying3 t1
    simp only [List.cons.injEq, and_true] at q0 q1
    subst q0 q1
    obtain ⟨a, l, cap, ps, zs, rfl, h1, h2, h3, h4⟩ := open_list9 t2 (by omega)
    exact ⟨_, _, l, zs, a, cap, ps, rfl, h1, h2, h3, h4⟩
end Go.Proofs.Ytachdicdfhfoaaa

/- UnitA9 -/
namespace Go.Proofs.Ytachdicdfhfoaaa
open Go.RowKit
set_option linter.unusedVariables false

def UnitA (w : World) (n : Nat) (e : Ending) (w' : World) : Prop := ∃ g N ps, e = .returned (.tuple #[matv n n (.slice (some ⟨g, 0, none⟩) N N), .int .i64 0]) ∧ n * n = N ∧ w.heap.size ≤ g ∧ ps.length = N ∧ Arr w' g ps ∧ Zcs w' ps (unitL n n) 1 ∧ Below w.heap.size w w'
set_option maxHeartbeats 1600000 in
set_option maxRecDepth 100000 in
theorem unitA_any {w : World} {n : Nat} (hn : n ≤ 64) : Calls Try.prog 62 #[.int .i64 (n : Int)] w (UnitA w n) := by
  obtain ⟨W0, hW⟩ : ∃ W0, w.alloc mbox = W0 := ⟨_, rfl⟩
  obtain ⟨b0, sz0⟩ := alo1 w mbox
  rw [hW] at b0 sz0
  have P2 := hid (mbox_new hW)
  have HS := hid (zero_any (w := W0) hn hn)
  have G0 := hid b0
  have EW := hid hW
  have SZ := hid sz0
  have hnn : n * n ≤ 64 * 64 := Nat.mul_le_mul hn hn
  obtain ⟨N, hN⟩ : ∃ N, n * n = N := ⟨_, rfl⟩
  have HNN := hid hN
  rw [hN] at HS hnn
  clear b0 hW sz0 hN
  go_enter Try.func62, Try.ntmps62
  go_wp2_with fail
  rw [EW.out]
  refine HS.out.mono ?_
  rintro e w1 ⟨g, rfl, hge, harr, b⟩
  obtain ⟨V1, hV⟩ : ∃ V1, w1.alloc (matO n n (.slice (some ⟨g, 0, none⟩) N N)) = V1 := ⟨_, rfl⟩
  obtain ⟨b1, sz1⟩ := alo1 w1 (matO n n (.slice (some ⟨g, 0, none⟩) N N))
  rw [hV] at b1 sz1
  have PU : Hid (Cel V1 w1.heap.size 24 (matc n n (.slice (some ⟨g, 0, none⟩) N N))) := by unfold Hid; rw [← hV]; exact Cel.new w1 _ _
  have x0 := PU.out.at (i := 0) rfl
  rw [← hV] at x0
  have HGW : Hid (w.heap.size < g ∧ g < w1.heap.size) := by unfold Hid; have h1 := SZ.out; have h2 := harr.1.blk; omega
  have H0 : Hid (UnitH w g w1.heap.size n n (.int .i64 0) V1) := by
    refine ⟨0, rfl, Nat.zero_le _, by omega, ⟨_, harr.step b1, by rw [HNN.out]; simp, ?_⟩, ?_, (P2.out.step b).step b1, below_step (below_step G0.out b) b1⟩
    · rw [unitL, HNN.out]; exact zcs_zero _ _ _
    · rw [HNN.out]; exact PU.out
  have HBU : Hid (w.heap.size < w1.heap.size) := by unfold Hid; have h1 := SZ.out; have h2 := (show Below _ _ _ from b).size; omega
  have EV := hid hV
  clear HS P2 G0 EW harr b b1 sz1 PU hV hge
  go_wp2_with fail
  rw [EV.out]
  clear x0 EV
  have HGB : Hid (g < w1.heap.size) := HGW.out.2
  generalize w1.heap.size = bu at *
  go_loopg [15] n (fun gk s15 wx => UnitH w g bu n gk s15 wx)
  case atStart => exact H0.out
  case round =>
    clear H0
    obtain ⟨i, rfl, hin, hg, ⟨ps, harr, hpl, hzc⟩, hbu, hre, hG⟩ := hrel
    rw [HNN.out] at hbu
    have AR := hid harr
    have PL := hid hpl
    have ZC := hid hzc
    have PU := hid hbu
    have PR := hid hre
    have G := hid hG
    have HG := hid hg
    clear harr hpl hzc hbu hre hG hg
    by_cases hlt : i < n
    · have hlt' : (i : Int) < (n : Int) := by omega
      have hw := wrapI9 (i := i) (by omega)
      have hm0 := wrapM9 (i := i) (c := n) (by omega) hn
      have hix : i * n + i < N := by
        rw [← HNN.out]
        have h1 : (i + 1) * n ≤ n * n := Nat.mul_le_mul_right n hlt
        have h2 : (i + 1) * n = i * n + n := by rw [Nat.add_mul, Nat.one_mul]
        omega
      have UL : Hid (unitL n (i + 1) = (unitL n i).set (i * n + i) 1) := rfl
      obtain ⟨lo, hlo⟩ : ∃ lo, i * n = lo := ⟨_, rfl⟩
      rw [hlo] at hm0 hix UL
      obtain ⟨ix, hix2⟩ : ∃ ix, lo + i = ix := ⟨_, rfl⟩
      rw [hix2] at hix UL
      have ha0 : IntKind.i64.wrap ((lo : Int) + (i : Int)) = (ix : Int) := by rw [wrap_is] <;> omega
      have ha1 := ha0
      have hm1 := hm0
      rw [IntKind.wrap_i64] at ha1 hm1
      have hixN : (ix : Int) < (N : Int) := by omega
      have PL2 : Hid (ix < ps.length) := by unfold Hid; rw [PL.out, HNN.out]; exact hix
      have x2 := PU.out.at (i := 2) rfl
      clear hlo hix2
      go_wp2_with fail
      have KB : Hid (∀ w', Below wr.heap.size wr w' → w'.cell? ⟨bu, 2, none⟩ = some (.slice (some ⟨g, 0, none⟩) N N)) := fun w' h => cnow h x2
      refine wp_region_tail (fun w' => w'.cell? ⟨bu, 2, none⟩ = some (.slice (some ⟨g, 0, none⟩) N N)) 9 (by kernel_rfl) ?_
      obtain ⟨D1, hD⟩ : ∃ D1, wr.drew = D1 := ⟨_, rfl⟩
      have GB : Hid (Below wr.heap.size wr D1) := by unfold Hid; rw [← hD]; exact (Below.refl _ _).drew
      rw [hD]
      clear hD
      refine wpAnyT_take (i := 0) (oi := { dst := some 18, op := Op.fieldAddr 24 (Operand.tmp 4) 2, type := 0, pos := "mat.go:52", after := #[], guard := none }) (v := (.pointer (some ⟨bu, 2, none⟩))) rfl (by kernel_rfl) (fun _ _ _ h => h) (Or.inl ⟨by rfl, ?_⟩) (KB.out _ GB.out) ?_
      · intro w hSw
        (try dsimp only at hSw)
        go_simp
      simp only [Act.put, List.setIfInBounds_toArray, List.set_cons_zero, List.set_cons_succ]
      refine wpAnyT_take (i := 1) (oi := { dst := some 19, op := Op.load 22 (Operand.tmp 18), type := 22, pos := "mat.go:52", after := #[{ on := 0, ground := Ground.data }], guard := none }) (v := (.slice (some ⟨g, 0, none⟩) N N)) rfl (by kernel_rfl) (fun _ _ _ h => h) (Or.inl ⟨by rfl, ?_⟩) (KB.out _ GB.out) ?_
      · intro w hSw
        (try dsimp only at hSw)
        go_simp
      simp only [Act.put, List.setIfInBounds_toArray, List.set_cons_zero, List.set_cons_succ]
      refine wpAnyT_take (i := 2) (oi := { dst := some 20, op := Op.move (Operand.tmp 6), type := 3, pos := "mat.go:52", after := #[], guard := none }) (v := (.int .i64 (i : Int))) rfl (by kernel_rfl) (fun _ _ _ h => h) (Or.inl ⟨by rfl, ?_⟩) (KB.out _ GB.out) ?_
      · intro w hSw
        (try dsimp only at hSw)
        go_simp
      simp only [Act.put, List.setIfInBounds_toArray, List.set_cons_zero, List.set_cons_succ]
      refine wpAnyT_take (i := 3) (oi := { dst := some 21, op := Op.move (Operand.tmp 0), type := 3, pos := "mat.go:52", after := #[], guard := none }) (v := (.int .i64 (n : Int))) rfl (by kernel_rfl) (fun _ _ _ h => h) (Or.inl ⟨by rfl, ?_⟩) (KB.out _ GB.out) ?_
      · intro w hSw
        (try dsimp only at hSw)
        go_simp
      simp only [Act.put, List.setIfInBounds_toArray, List.set_cons_zero, List.set_cons_succ]
      refine wpAnyT_take (i := 4) (oi := { dst := some 22, op := Op.binOp BinOp.mul 3 (Operand.tmp 20) (Operand.tmp 21) 3, type := 3, pos := "mat.go:52", after := #[{ on := 2, ground := Ground.data }, { on := 3, ground := Ground.data }], guard := none }) (v := (.int .i64 (lo : Int))) rfl (by kernel_rfl) (fun _ _ _ h => h) (Or.inl ⟨by rfl, ?_⟩) (KB.out _ GB.out) ?_
      · intro w hSw
        (try dsimp only at hSw)
        go_simp
      simp only [Act.put, List.setIfInBounds_toArray, List.set_cons_zero, List.set_cons_succ]
      refine wpAnyT_take (i := 5) (oi := { dst := some 23, op := Op.move (Operand.tmp 6), type := 3, pos := "mat.go:52", after := #[], guard := none }) (v := (.int .i64 (i : Int))) rfl (by kernel_rfl) (fun _ _ _ h => h) (Or.inl ⟨by rfl, ?_⟩) (KB.out _ GB.out) ?_
      · intro w hSw
        (try dsimp only at hSw)
        go_simp
      simp only [Act.put, List.setIfInBounds_toArray, List.set_cons_zero, List.set_cons_succ]
      refine wpAnyT_take (i := 6) (oi := { dst := some 24, op := Op.binOp BinOp.add 3 (Operand.tmp 22) (Operand.tmp 23) 3, type := 3, pos := "mat.go:52", after := #[{ on := 4, ground := Ground.data }, { on := 5, ground := Ground.data }], guard := none }) (v := (.int .i64 (ix : Int))) rfl (by kernel_rfl) (fun _ _ _ h => h) (Or.inl ⟨by rfl, ?_⟩) (KB.out _ GB.out) ?_
      · intro w hSw
        (try dsimp only at hSw)
        go_simp
      simp only [Act.put, List.setIfInBounds_toArray, List.set_cons_zero, List.set_cons_succ]
      refine wpAnyT_one (i := 7) (o := { dst := some 25, op := Op.call { callee := Callee.value (Operand.func 27), args := #[Operand.const (Value.int IntKind.i64 1)], argTypes := #[2] }, type := 35, pos := "mat.go:52", after := #[], guard := none }) (by kernel_rfl) rfl (fun K hK => ?_)
      go_simp
      go_at_call 27
      refine (of_z (n := 1) (by omega) (by omega) D1).mono ?_
      rintro e w2 ⟨r, rfl, m1, b⟩
      have lz2 := (show Below _ _ _ from b).size
      replace GB := hid (below_step GB.out b)
      have AR1 := hid (AR.out.step GB.out)
      have ZC1 := hid (ZC.out.now GB.out)
      have PU1 := hid (PU.out.step GB.out)
      have PR1 := hid (PR.out.step GB.out)
      have G1 := hid (below_step G.out GB.out)
      have M1 := hid m1.zc
      obtain ⟨nr, xr, ar, cr, rfl⟩ := m1.parts
      clear m1
      clear b
      refine hK.out _ _ (fun _ => KB.out _ GB.out) ?_
      clear hK
      refine wpAnyT_take (i := 8) (oi := { dst := some 26, op := Op.indexAddr 22 (Operand.tmp 19) (Operand.tmp 24), type := 0, pos := "mat.go:52", after := #[{ on := 1, ground := Ground.data }, { on := 6, ground := Ground.data }, { on := 0, ground := Ground.phase }, { on := 1, ground := Ground.phase }, { on := 2, ground := Ground.phase }, { on := 3, ground := Ground.phase }, { on := 4, ground := Ground.phase }, { on := 5, ground := Ground.phase }, { on := 6, ground := Ground.phase }, { on := 7, ground := Ground.phase }], guard := none }) (v := (.pointer (some ⟨g, ix * 2, none⟩))) rfl (by kernel_rfl) (fun _ _ _ h => h) (Or.inl ⟨by rfl, ?_⟩) (KB.out _ GB.out) ?_
      · intro w hSw
        (try dsimp only at hSw)
        go_simp
      simp only [Act.put, List.setIfInBounds_toArray, List.set_cons_zero, List.set_cons_succ]
      refine wpAnyT_one (i := 9) (o := { dst := none, op := Op.store 35 (Operand.tmp 26) (Operand.tmp 25), type := 0, pos := "mat.go:52", after := #[{ on := 8, ground := Ground.data }, { on := 7, ground := Ground.data }, { on := 7, ground := Ground.chain }, { on := 0, ground := Ground.phase }, { on := 1, ground := Ground.phase }, { on := 2, ground := Ground.phase }, { on := 3, ground := Ground.phase }, { on := 4, ground := Ground.phase }, { on := 5, ground := Ground.phase }, { on := 6, ground := Ground.phase }, { on := 7, ground := Ground.phase }], guard := none }) (by kernel_rfl) rfl (fun K hK => ?_)
      have hps : ps[ix]? = some (ps[ix]'PL2.out) := List.getElem?_eq_getElem PL2.out
      obtain ⟨e0, e1⟩ := AR1.out.at hps
      have e2 := AR1.out.1.fz (ix * 2)
      have e3 := AR1.out.1.fz (ix * 2 + 1)
      clear hps
      go_simp
      clear e0 e1 e2 e3
      obtain ⟨V3, hW⟩ : ∃ V3, ((w2.setCell ⟨g, ix * 2, none⟩ (.bool nr)).setCell ⟨g, ix * 2 + 1, none⟩ (.slice ar xr.length cr)) = V3 := ⟨_, rfl⟩
      have HN1 : Hid (UnitH w g bu n (n - (i + 1)) (.int .i64 ((i + 1 : Nat) : Int)) V3) := by
        unfold Hid
        rw [← hW]
        have hk := AR1.out.wk PL2.out (.bool nr) (.slice ar xr.length cr)
        refine ⟨i + 1, rfl, by omega, rfl, ⟨_, AR1.out.put PL2.out M1.out.zi.isI, by simpa using PL.out, ?_⟩, ?_, (PR1.out.ne (by have := HGW.out; omega)).ne (by have := HGW.out; omega), bset (bset G1.out (by have := HGW.out; omega)) (by have := HGW.out; omega)⟩
        · rw [UL.out]
          exact ZC1.out.set hk (M1.out.wk hk)
        · rw [HNN.out]
          exact (PU1.out.ne (by have := HGB.out; omega)).ne (by have := HGB.out; omega)
      rw [hW]
      clear hW
      refine hK.out _ _ (fun h => absurd h (by decide)) ?_
      clear hK
      try simp only [Act.put]
      refine wpAnyT_done (by kernel_rfl) ?_ _
      have HMM : Hid (n - (i + 1) < gk) := by unfold Hid; rw [HG.out]; omega
      clear AR PL ZC PU PR G HG AR1 ZC1 PU1 PR1 G1 M1 UL PL2 GB KB
      go_wp2_with fail
      go_roundg (n - (i + 1))
      case rel => exact HN1.out
      case measure => exact HMM.out
    · have hlt' : ¬ (i : Int) < (n : Int) := by omega
      obtain rfl : i = n := by omega
      have hpl : ps.length = N := by rw [PL.out]; exact HNN.out
      have FIN : Hid (UnitA w i (.returned (.tuple #[.agg #[.int .i64 (i : Int), .int .i64 (i : Int), .slice (some ⟨g, 0, none⟩) N N], .int .i64 0])) (put3 wr w.heap.size (.int .i64 (i : Int)) (.int .i64 (i : Int)) (.slice (some ⟨g, 0, none⟩) N N))) :=
        ⟨g, N, ps, rfl, HNN.out, by have := HGW.out; omega, hpl, AR.out.put3 (by have := HGW.out; omega) _ _ _, ZC.out.wk (PR.out.wk3 _ _ _), below_put3 G.out (Nat.le_refl _) _ _ _⟩
      have PF := hid (PR.out.put3 (.int .i64 (i : Int)) (.int .i64 (i : Int)) (.slice (some ⟨g, 0, none⟩) N N))
      have x0 := PU.out.at (i := 0) rfl
      have x1 := PU.out.at (i := 1) rfl
      have x2 := PU.out.at (i := 2) rfl
      have r0 := PR.out.at (i := 0) rfl
      have r1 := PR.out.at (i := 1) rfl
      have r2 := PR.out.at (i := 2) rfl
      have f0 := PR.out.fz 0
      have f1 := PR.out.fz 1
      have f2 := PR.out.fz 2
      clear AR PL ZC G HG hpl
      go_wp2
      exact bodyPost_ret (mback1 Try.results62 PF.out _ (by rfl) (by rfl)) rfl FIN.out
end Go.Proofs.Ytachdicdfhfoaaa
