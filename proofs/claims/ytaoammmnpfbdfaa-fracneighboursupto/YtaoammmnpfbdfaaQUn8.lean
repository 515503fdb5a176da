/-
  Un8: Unchain.
-/
import Derived.Test.YtaoammmnpfbdfaaQRound8ToCf8
import Derived.Test.YtaoammmnpfbdfaaQZAdd
import Derived.Deep.Slices
namespace Go.Proofs.Ytaoammmnpfbdfaa
open Go.RowKit Go.Shelf
set_option linter.unusedVariables false
attribute [local go_sem] Oper.semAt_some

/-- What has been reckoned when the list's places ts have come. -/
def cfv (zs : Nat → Int) {len : Nat} (ts : List (Fin len)) : Int × Int := ts.foldl (fun p t => (zs t.val * p.1 + p.2, p.1)) (1, 0)
theorem cfv_snoc (zs : Nat → Int) {len : Nat} (ts : List (Fin len)) (t : Fin len) : cfv zs (ts ++ [t]) = (zs t.val * (cfv zs ts).1 + (cfv zs ts).2, (cfv zs ts).1) := by simp [cfv, List.foldl_append]
theorem Duo.kept8 {W W' : World} {b : Nat} {x y : Value} {row : Option Nat} (h : Duo W b x y) (hg : W.grownBy W' row) (hr : ∀ r, row = some r → ∃ o : Obj, W.heap[r]? = some o ∧ o.isCells = false) : Duo W' b x y := (grownBy_keeps_cells hg hr h rfl).trans h
theorem Cel.kept8 {W W' : World} {b : Nat} {T : TypeId} {L : List Value} {row : Option Nat} (h : Cel W b T L) (hg : W.grownBy W' row) (hr : ∀ r, row = some r → ∃ o : Obj, W.heap[r]? = some o ∧ o.isCells = false) : Cel W' b T L := (grownBy_keeps_cells hg hr h rfl).trans h
theorem Zc.kept8 {W W' : World} {v : Value} {z : Int} {k : Nat} {row : Option Nat} (h : Zc W v z k) (hg : W.grownBy W' row) (hr : ∀ r, row = some r → ∃ o : Obj, W.heap[r]? = some o ∧ o.isCells = false) : Zc W' v z k := by
  obtain ⟨n, zs, a, c, h1, ⟨hw, a', c', e1, e2, e3, e4⟩, h3, h4, h5, h6⟩ := h
  refine ⟨n, zs, a, c, h1, ⟨hw, a', c', e1, e2, e3, ?_⟩, h3, h4, h5, h6⟩
  rcases e4 with e4 | ⟨b, off, q1, q2, q3⟩
  · exact .inl e4
  · exact .inr ⟨b, off, q1, Nat.lt_of_lt_of_le q2 hg.size, fun j hj => cell_kept (q3 j hj) hg hr⟩
theorem Zc.more {w : World} {v : Value} {z : Int} {k l : Nat} (h : Zc w v z k) (hl : k ≤ l) : Zc w v z l := by
  obtain ⟨n, zs, a, c, h1, h2, h3, h4, h5, h6⟩ := h
  exact ⟨n, zs, a, c, h1, h2, h3, h4, h5, by omega⟩
theorem keeps_of_below {B : Nat} {W W' : World} (h : Below W.heap.size W W') : KeepsFrom B W W' := ⟨h.size, fun k o _ hk _ => (h.block k (Array.getElem?_eq_some_iff.1 hk).1).trans hk⟩
def noDef (o : Oper) : Bool := match o.op with
  | .defer _ => false
  | _ => true
theorem hno_of {ops : Array Oper} (h : ops.all noDef = true) : ∀ (i : Nat) (o : Oper), ops[i]? = some o → ∀ c, o.op ≠ .defer c := fun i o ho c e => by
  have hm := Array.mem_of_getElem? ho
  have := (Array.all_eq_true_iff_forall_mem.1 h) o hm
  unfold noDef at this
  rw [e] at this
  cases this
/-- What a round keeps, step by step. -/
def KF8 (B N Bs : Nat) (W W' : World) : Prop := KeepsFrom B W W' ∧ KpU N Bs W W' ∧ Bs < W'.heap.size ∧ N ≤ W'.heap.size
theorem KF8.now {B N Bs : Nat} {W A A' : World} (h : KF8 B N Bs W A) (b : Below A.heap.size A A') : KF8 B N Bs W A' :=
  ⟨h.1.trans (keeps_of_below b), h.2.1.trans ⟨b.mono h.2.2.2, b.block _ h.2.2.1⟩, Nat.lt_of_lt_of_le h.2.2.1 b.size, Nat.le_trans h.2.2.2 b.size⟩
theorem KF8.box {B N Bs : Nat} {W A : World} (h : KF8 B N Bs W A) {b : Nat} {x y : Value} (d : Duo A b x y) (hb : N ≤ b ∧ b ≠ Bs) (u u' : Value) : KF8 B N Bs W ((A.setCell ⟨b, 0, none⟩ u).setCell ⟨b, 1, none⟩ u') := by
  refine ⟨h.1.trans (((KeepsOthers.setCell _ _ _).from _).trans ((KeepsOthers.setCell _ _ _).from _)), h.2.1.trans ⟨((Below.refl _ _).setCell (p := ⟨b, 0, none⟩) hb.1 _).setCell (p := ⟨b, 1, none⟩) hb.1 _, ?_⟩, by simpa using h.2.2.1, by simpa using h.2.2.2⟩
  exact (Below.heap_setCell _ _ _ Bs (fun e => hb.2 (by simpa using e.symm))).trans (Below.heap_setCell _ _ _ Bs (fun e => hb.2 (by simpa using e.symm)))
/-- What the loop keeps. -/
def UnI (w : World) (b4 : Nat) (zf : Nat → Int) {n : Nat} (pre : List (Fin n)) (W : World) : Prop :=
  (∃ n1 n2, ∃ x1 x2 : List Int, ∃ a1 c1 a2 c2, Duo W b4 (.bool n1) (.slice a1 x1.length c1) ∧ Duo W (b4 + 1) (.bool n2) (.slice a2 x2.length c2) ∧ Zc W (.agg #[.bool n1, .slice a1 x1.length c1]) (cfv zf pre).1 (1048577 * (pre.length + 1)) ∧ Zc W (.agg #[.bool n2, .slice a2 x2.length c2]) (cfv zf pre).2 (1048577 * (pre.length + 1)) ∧
    Cel W w.heap.size 26 [.bool false, .slice none 0 0, .bool false, .slice none 0 0] ∧ b4 + 1 + 1 < W.heap.size) ∧ Below w.heap.size w W
theorem UnI.own {w : World} {b4 B : Nat} {zf : Nat → Int} {n : Nat} (hB : w.heap.size ≤ B) : OwnFrom B (fun (pre : List (Fin n)) W => UnI w b4 zf pre W) := fun pre W W' row hs hg hr => by
  obtain ⟨⟨n1, n2, x1, x2, a1, c1, a2, c2, p4, p5, z1, z2, pr, hsz⟩, bel⟩ := hs
  have hr' := fun r e => (hr r e).2
  exact ⟨⟨n1, n2, x1, x2, a1, c1, a2, c2, p4.kept8 hg hr', p5.kept8 hg hr', z1.kept8 hg hr', z2.kept8 hg hr', pr.kept8 hg hr', Nat.lt_of_lt_of_le hsz hg.size⟩, bel.grown hg bel.size (fun k e => Nat.le_trans hB (hr k e).1)⟩
/-- The fraction that a list stands for. -/
def cfr (zs : List Int) : Int × Int := zs.foldr (fun z p => (z * p.1 + p.2, p.1)) (1, 0)
theorem cfv_all {zs : List Int} {n : Nat} (hn : zs.length = n) (hp : 0 < n) : cfv (fun j => zs.getD j 0) (upto8 (bAt hp) n) = cfr zs := by
  have e : (upto8 (bAt hp) n).map (fun t : Fin n => zs.getD t.val 0) = zs.reverse := by
    apply List.ext_getElem
    · simp [upto8, hn]
    · intro i h1 h2
      have hi : i < n := by simpa [upto8] using h1
      simp only [upto8, List.getElem_map, List.getElem_range, bAt, List.getElem_reverse]
      subst hn
      simp [List.getD, show zs.length - 1 - i < zs.length by omega]
  have e2 : cfv (fun j => zs.getD j 0) (upto8 (bAt hp) n) = ((upto8 (bAt hp) n).map (fun t : Fin n => zs.getD t.val 0)).foldl (fun p z => (z * p.1 + p.2, p.1)) (1, 0) := by
    rw [List.foldl_map]
    rfl
  rw [e2, e, List.foldl_reverse]
  rfl
/-- What Unchain answers, where the list stands for a fraction. -/
def Unchained (w : World) (zs : List Int) (e : Ending) (w' : World) : Prop := ∃ r0 r1 r2 r3, e = .returned (.tuple #[.agg #[r0, r1, r2, r3], .int .i64 0]) ∧ Zc w' (.agg #[r0, r1]) (cfr zs).1 (1048577 * (zs.length + 1)) ∧ Zc w' (.agg #[r2, r3]) (cfr zs).2 (1048577 * (zs.length + 1)) ∧ Below w.heap.size w w'
set_option maxHeartbeats 3200000 in
set_option maxRecDepth 100000 in
theorem unchain_yes {w : World} {v : Value} {zs : List Int} {k : Nat} (hv : Zl w v zs k) (hF : Fit zs) (hk : k ≤ 1048576) :
    Calls Try.prog 29 #[v] w (Unchained w zs) := by
  have zv := hid hv
  refine (callsIn_wide (n := 5)).1 ?_
  obtain ⟨a0, c0, rfl, hc0, hn0, hf0⟩ := hv
  obtain ⟨n, hn⟩ : ∃ n, zs.length = n := ⟨_, rfl⟩
  have hnp : 0 < n := by rw [← hn]; exact hF.1
  rcases hf0 with e | ⟨b, off, rfl, hb, hel⟩
  · rw [e] at hn; simp at hn; omega
  have HEL := hid hel
  have HB := hid hb
  obtain ⟨cs, hcs⟩ := Deep.choose_lt (α := Value × Value) (n := n) (p := fun j q => w.cell? ⟨b, off + j * 2, none⟩ = some q.1 ∧ w.cell? ⟨b, off + j * 2 + 1, none⟩ = some q.2 ∧ Zi w (.agg #[q.1, q.2]) (zs.getD j 0) k) (fun j hj => by
    obtain ⟨x, y, q1, q2, q3⟩ := hel j (by omega)
    rw [Nat.mul_comm 2 j] at q1 q2
    refine ⟨(x, y), q1, q2, ?_⟩
    rw [show zs.getD j 0 = zs[j]'(by omega) from by simp [List.getD, show j < zs.length by omega]]
    exact q3)
  have HCS := hid hcs
  clear hcs
  rw [hn] at zv hc0 hn0 ⊢
  have HN := hid hn
  clear hel hb hn
  obtain ⟨W0, hW⟩ : ∃ W0, w.alloc (.cells #[.bool false, .slice none 0 0, .bool false, .slice none 0 0] 26) = W0 := ⟨_, rfl⟩
  obtain ⟨b0, sz0⟩ := alloc1 w (.cells #[.bool false, .slice none 0 0, .bool false, .slice none 0 0] 26)
  rw [hW] at b0 sz0
  have PR : Hid (Cel W0 w.heap.size 26 [.bool false, .slice none 0 0, .bool false, .slice none 0 0]) := by unfold Hid; rw [← hW]; exact cel_at rfl
  have HC := hid (isChain8 (zv.out.now b0))
  have G := hid b0
  have EW := hid hW
  have HF := hid hF
  clear b0 hW hF
  refine callsIn_of_wp_marks Try.func29 rfl trivial ?_ rfl
  simp only [Try.ntmps29, List.size_toArray, List.length_cons, List.length_nil, Nat.reduceAdd, Nat.reduceSub, Array.replicate_succ, Array.replicate_zero, List.push_toArray, List.append_toArray, List.nil_append, List.cons_append]
  gi_wp2_with fail
  rw [EW.out]
  clear EW
  refine ⟨trivial, (callsIn_wide.2 HC.out).mono ?_⟩
  rintro e w1 ⟨r, rfl, hr, b1⟩
  obtain rfl : r = true := hr.2 HF.out
  replace PR := hid (PR.out.step b1)
  replace G := hid (below_step G.out b1)
  have l1 := b1.size
  clear b1 hr HC
  gi_wp2_with fail
  refine ⟨trivial, (callsIn_wide.2 (of_z (n := 1) (by decide) (by decide) _)).mono ?_⟩
  rintro e w2 ⟨r2, rfl, m2, b2⟩
  obtain ⟨np, xp, adp, qp, rfl, -, -, -, -, -⟩ := id m2
  replace PR := hid (PR.out.step b2)
  replace G := hid (below_step G.out b2)
  have Zp := hid m2.zc
  have l2 := b2.size
  clear b2 m2
  gi_wp2_with fail
  refine ⟨trivial, (callsIn_wide.2 (of_z (n := 0) (by decide) (by decide) _)).mono ?_⟩
  rintro e w3 ⟨r3, rfl, m3, b3⟩
  obtain ⟨nq, xq, adq, qq, rfl, -, -, -, -, -⟩ := id m3
  replace PR := hid (PR.out.step b3)
  replace G := hid (below_step G.out b3)
  replace Zp := hid (Zp.out.now b3)
  have Zq := hid m3.zc
  have l3 := b3.size
  clear b3 m3
  obtain ⟨W4, hW4⟩ : ∃ W4, (w3.alloc (duo (.bool np) (.slice adp xp.length qp))).alloc (duo (.bool nq) (.slice adq xq.length qq)) = W4 := ⟨_, rfl⟩
  obtain ⟨b4, sz4⟩ := alloc2 w3 (duo (.bool np) (.slice adp xp.length qp)) (duo (.bool nq) (.slice adq xq.length qq))
  rw [hW4] at b4 sz4
  have P4 : Hid (Duo W4 w3.heap.size (.bool np) (.slice adp xp.length qp)) := by unfold Hid; rw [← hW4]; exact duo_late (duo_at rfl) _
  have P5 : Hid (Duo W4 (w3.heap.size + 1) (.bool nq) (.slice adq xq.length qq)) := by unfold Hid; rw [← hW4]; exact duo_at (by simp)
  replace PR := hid (PR.out.step b4)
  replace G := hid (below_step G.out b4)
  replace Zp := hid (Zp.out.now b4)
  replace Zq := hid (Zq.out.now b4)
  have EW := hid hW4
  clear b4 hW4
  gi_wp2_with fail
  rw [EW.out]
  clear EW
  refine ⟨trivial, (back_in _ _ _ _ _).mono ?_⟩
  rintro e w5 ⟨rfl, rfl⟩
  gi_wp2_with fail
  obtain ⟨W5, hW5⟩ : ∃ W5, W4.alloc (.cells #[.slice (some ⟨b, off, none⟩) n c0] 47) = W5 := ⟨_, rfl⟩
  obtain ⟨b5, sz5⟩ := alloc1 W4 (.cells #[.slice (some ⟨b, off, none⟩) n c0] 47)
  have P6 : Cel (W4.alloc (.cells #[.slice (some ⟨b, off, none⟩) n c0] 47)) (w3.heap.size + 1 + 1) 47 [.slice (some ⟨b, off, none⟩) n c0] := cel_at sz4
  rw [hW5] at b5 sz5 P6 ⊢
  replace PR := hid (PR.out.step b5)
  replace P4 := hid (P4.out.step b5)
  replace P5 := hid (P5.out.step b5)
  replace G := hid (below_step G.out b5)
  replace Zp := hid (Zp.out.now b5)
  replace Zq := hid (Zq.out.now b5)
  clear hW5 b5
  have HBL := HB.out
  refine wpIn_rangeFunc_ownH rfl (by decide) (gf := 71) (lb := #[.pointer (some ⟨w3.heap.size + 1 + 1, 0, none⟩)]) rfl trivial (enters_of Try.func71 (by kernel_rfl) rfl)
    (back_stops 4 (w3.heap.size + 1 + 1) w.heap.size b off n c0 (by decide) cs hnp hn0 HBL W5 (by omega) (by omega) (P6.at rfl) (fun j hj => ⟨(G.out.cell (p := ⟨b, off + j * 2, none⟩) HBL).trans (HCS.out j hj).1, (G.out.cell (p := ⟨b, off + j * 2 + 1, none⟩) HBL).trans (HCS.out j hj).2.1⟩))
    (fun h k => h.trans k) (KpU.put (by omega) (by omega)) (Below.refl _ _) (fun _ => rfl)
    (fun pre W => UnI w w3.heap.size (fun j => zs.getD j 0) pre W) (fun _ _ _ => False) (UnI.own (by omega)) (fun _ _ _ _ _ hs _ _ => hs)
    ⟨⟨_, _, _, _, _, _, _, _, P4.out, P5.out, Zp.out.more (by simp), Zq.out.more (by simp), PR.out, by omega⟩, G.out⟩
    (fun x a' W => ∃ Bx, w3.heap.size + 1 + 1 < Bx ∧ Duo W Bx (cs x.val).1 (cs x.val).2 ∧ a' = { tmps := #[.slice (some ⟨b, off, none⟩) n c0, undef, .pointer (some ⟨w.heap.size, 0, none⟩), .int .i64 0, .pointer (some ⟨w3.heap.size, 0, none⟩), .pointer (some ⟨w3.heap.size + 1, 0, none⟩), undef, .pointer (some ⟨Bx, 0, none⟩), .slice (some ⟨b, off, none⟩) n c0, .bool true, .bool false, undef, .agg #[.bool np, .slice adp xp.length qp], .agg #[.bool nq, .slice adq xq.length qq], .slice (some ⟨b, off, none⟩) n c0, .func (.func 71) #[] #[.pointer (some ⟨w3.heap.size + 1 + 1, 0, none⟩)], .int .i64 (x.val : Int), .agg #[(cs x.val).1, (cs x.val).2], undef, undef, undef, undef, undef, undef, undef, undef], defers := [] })
    (fun x a' _ X Y row hs hg hr => by obtain ⟨Bx, h1, h2, h3⟩ := hs; exact ⟨Bx, h1, h2.kept8 hg (fun r e => (hr r e).2), h3⟩)
    ?assign ?body ?done ?stop
  case assign =>
    rintro l pre x W K hi hK
    have hi' := hi
    obtain ⟨⟨n1, n2, x1, x2, a1, c1, a2, c2, p4, p5, z1, z2, pr, hsz⟩, bel⟩ := hi
    have l5 := p5.blk
    obtain ⟨nx, xx, ax, cx, e1, e2⟩ := (HCS.out x.val x.isLt).2.2.comp
    have b6 := (alloc1 W (duo (.bool nx) (.slice ax xx.length cx))).1
    simp only [e1, e2] at hK ⊢
    have HKK := hid hK
    clear hK
    gi_wp2
    exact HKK.out _ _ (keeps_of_below b6) ⟨b6.mono bel.size, b6.block _ hsz⟩ (UnI.own (Nat.le_refl _) pre W _ none hi' (World.grownBy_alloc W _ none) (fun r e => by cases e)) ⟨W.heap.size, hsz, duo_at rfl, rfl⟩
  case body =>
    rintro l pre x a' W hl ⟨r, hr⟩ ⟨⟨n1, n2, x1, x2, a1, c1, a2, c2, p4, p5, z1, z2, pr, hsz⟩, bel⟩ ⟨Bx, hBx, pX, rfl⟩ hlt
    have PX := hid pX
    have Q4 := hid p4
    have Q5 := hid p5
    have Z1 := hid z1
    have Z2 := hid z2
    have QR := hid pr
    have QB := hid bel
    have ZX := hid ((HCS.out x.val x.isLt).2.2.now bel)
    have i0 := pX.c0
    have i1 := pX.c1
    have j0 := p4.c0
    have j1 := p4.c1
    have k0 := p5.c0
    have k1 := p5.c1
    have f0 := p4.fz 0
    have f1 := p4.fz 1
    have f2 := p5.fz 0
    have f3 := p5.fz 1
    clear pX p4 p5 z1 z2 pr bel
    gi_wp2_with fail
    have G := hid QB.out
    clear QB
    have hm2 : w.heap.size ≤ w3.heap.size := by omega
    have KF : Hid (KF8 W5.heap.size w.heap.size (w3.heap.size + 1 + 1) W W) := ⟨KeepsFrom.refl _ _, KpU.refl _ _ _, hsz, G.out.size⟩
    have Zpp := hid Z1.out
    clear Z1
    have Zqq := hid Z2.out
    clear Z2
    have PP := hid Q4.out
    clear Q4
    have PQ := hid Q5.out
    clear Q5
    have PR := hid QR.out
    clear QR
    clear i0 i1 j0 j1 k0 k1 f0 f1 f2 f3
    refine region_round (by kernel_rfl) (hno_of (by kernel_rfl)) (by rintro ⟨a, w, h⟩; exact h) (wpAny_of_X (S := (fun w' => w'.cell? ⟨Bx, 0, none⟩ = some (cs x.val).1 ∧ w'.cell? ⟨Bx, 1, none⟩ = some (cs x.val).2 ∧ w'.cell? ⟨w3.heap.size, 0, none⟩ = some (.bool n1) ∧ w'.cell? ⟨w3.heap.size, 1, none⟩ = some (.slice a1 x1.length c1) ∧ w'.cell? ⟨w3.heap.size + 1, 0, none⟩ = some (.bool n2) ∧ w'.cell? ⟨w3.heap.size + 1, 1, none⟩ = some (.slice a2 x2.length c2))) (X := [5, 6]) _ _ _ _ ?_)
    obtain ⟨D101, hD⟩ : ∃ D101, W.drew = D101 := ⟨_, rfl⟩
    have b : Below W.heap.size W D101 := by rw [← hD]; exact (Below.refl _ _).drew
    rw [hD]
    clear hD
    replace Zpp := hid (Zpp.out.now b)
    replace Zqq := hid (Zqq.out.now b)
    replace ZX := hid (ZX.out.now b)
    replace PP := hid (PP.out.step b)
    replace PQ := hid (PQ.out.step b)
    replace PX := hid (PX.out.step b)
    replace PR := hid (PR.out.step b)
    replace KF := hid (KF.out.now b)
    replace G := hid (below_step G.out b)
    have lz102 := (show Below _ _ _ from b).size
    clear b
    refine wpAnyX_take (i := 0) (oi := { dst := some 18, op := Op.load 24 (Operand.tmp 7), type := 24, pos := "chain.go:35", after := #[], guard := none }) (v := (.agg #[(cs x.val).1, (cs x.val).2])) rfl (by kernel_rfl) (fun _ _ _ h => h) (Or.inl ⟨by rfl, ?_⟩) ⟨PX.out.c0, PX.out.c1, PP.out.c0, PP.out.c1, PQ.out.c0, PQ.out.c1⟩ ?_
    · intro w hSw
      (try dsimp only at hSw)
      go_simp
    simp only [Act.put, List.setIfInBounds_toArray, List.set_cons_zero, List.set_cons_succ]
    refine wpAnyX_take (i := 1) (oi := { dst := some 19, op := Op.load 24 (Operand.tmp 4), type := 24, pos := "chain.go:35", after := #[], guard := none }) (v := (.agg #[(.bool n1), (.slice a1 x1.length c1)])) rfl (by kernel_rfl) (fun _ _ _ h => h) (Or.inl ⟨by rfl, ?_⟩) ⟨PX.out.c0, PX.out.c1, PP.out.c0, PP.out.c1, PQ.out.c0, PQ.out.c1⟩ ?_
    · intro w hSw
      (try dsimp only at hSw)
      go_simp
    simp only [Act.put, List.setIfInBounds_toArray, List.set_cons_zero, List.set_cons_succ]
    refine wpAnyX_take (i := 2) (oi := { dst := some 20, op := Op.load 24 (Operand.tmp 5), type := 24, pos := "chain.go:35", after := #[], guard := none }) (v := (.agg #[(.bool n2), (.slice a2 x2.length c2)])) rfl (by kernel_rfl) (fun _ _ _ h => h) (Or.inl ⟨by rfl, ?_⟩) ⟨PX.out.c0, PX.out.c1, PP.out.c0, PP.out.c1, PQ.out.c0, PQ.out.c1⟩ ?_
    · intro w hSw
      (try dsimp only at hSw)
      go_simp
    simp only [Act.put, List.setIfInBounds_toArray, List.set_cons_zero, List.set_cons_succ]
    refine wpAnyX_take (i := 4) (oi := { dst := some 22, op := Op.load 24 (Operand.tmp 4), type := 24, pos := "chain.go:35", after := #[], guard := none }) (v := (.agg #[(.bool n1), (.slice a1 x1.length c1)])) rfl (by kernel_rfl) (fun _ _ _ h => h) (Or.inl ⟨by rfl, ?_⟩) ⟨PX.out.c0, PX.out.c1, PP.out.c0, PP.out.c1, PQ.out.c0, PQ.out.c1⟩ ?_
    · intro w hSw
      (try dsimp only at hSw)
      go_simp
    simp only [Act.put, List.setIfInBounds_toArray, List.set_cons_zero, List.set_cons_succ]
    refine wpAnyX_one (i := 3) (o := { dst := some 21, op := Op.call { callee := Callee.value (Operand.func 38), args := #[Operand.tmp 18, Operand.tmp 19, Operand.tmp 20], argTypes := #[24, 24, 24] }, type := 24, pos := "chain.go:35", after := #[{ on := 0, ground := Ground.data }, { on := 1, ground := Ground.data }, { on := 2, ground := Ground.data }], guard := none }) (by kernel_rfl) rfl (fun K hK => ?_)
    go_simp
    go_at_call 38
    refine (mulAdd_z ZX.out Zpp.out.zi Zqq.out.zi (by omega) (by omega)).mono ?_
    rintro e w103 ⟨r0, rfl, m0, b⟩
    obtain ⟨nee, xee, adee, qee, rfl, -, -, -, -, -⟩ := id m0
    replace Zpp := hid (Zpp.out.now b)
    replace Zqq := hid (Zqq.out.now b)
    replace ZX := hid (ZX.out.now b)
    replace PP := hid (PP.out.step b)
    replace PQ := hid (PQ.out.step b)
    replace PX := hid (PX.out.step b)
    replace PR := hid (PR.out.step b)
    replace KF := hid (KF.out.now b)
    replace G := hid (below_step G.out b)
    have lz104 := (show Below _ _ _ from b).size
    have Zee := hid m0
    clear b m0
    refine hK.out _ _ (fun _ _ => ⟨PX.out.c0, PX.out.c1, PP.out.c0, PP.out.c1, PQ.out.c0, PQ.out.c1⟩) ?_
    clear hK
    refine wpAnyX_one (i := 5) (o := { dst := none, op := Op.store 24 (Operand.tmp 4) (Operand.tmp 21), type := 0, pos := "chain.go:35", after := #[{ on := 3, ground := Ground.data }, { on := 3, ground := Ground.chain }, { on := 0, ground := Ground.phase }, { on := 1, ground := Ground.phase }, { on := 2, ground := Ground.phase }, { on := 3, ground := Ground.phase }, { on := 4, ground := Ground.phase }], guard := none }) (by kernel_rfl) rfl (fun K hK => ?_)
    have cP0 := PP.out.c0
    have cP1 := PP.out.c1
    have fP0 := PP.out.fz 0
    have fP1 := PP.out.fz 1
    go_simp
    clear cP0 cP1 fP0 fP1
    obtain ⟨V105, hW⟩ : ∃ V105, (w103.setCell ⟨w3.heap.size, 0, none⟩ (.bool nee)).setCell ⟨w3.heap.size, 1, none⟩ (.slice adee xee.length qee) = V105 := ⟨_, rfl⟩
    replace Zpp := hid ((Zpp.out).wk ((PP.out).wk (.bool nee) (.slice adee xee.length qee)))
    replace Zqq := hid ((Zqq.out).wk ((PP.out).wk (.bool nee) (.slice adee xee.length qee)))
    replace ZX := hid ((ZX.out).wk ((PP.out).wk (.bool nee) (.slice adee xee.length qee)))
    replace Zee := hid ((Zee.out).box (PP.out) (.bool nee) (.slice adee xee.length qee))
    replace KF := hid ((KF.out).box (PP.out) (by omega) (.bool nee) (.slice adee xee.length qee))
    replace PP := hid ((PP.out).set (.bool nee) (.slice adee xee.length qee))
    replace PQ := hid ((PQ.out).box (b' := w3.heap.size) (by omega) (.bool nee) (.slice adee xee.length qee))
    replace PX := hid ((PX.out).box (b' := w3.heap.size) (by omega) (.bool nee) (.slice adee xee.length qee))
    replace PR := hid ((PR.out).away2 (b' := w3.heap.size) (by omega) (.bool nee) (.slice adee xee.length qee))
    replace G : Hid (Below w.heap.size w (((w103.setCell ⟨w3.heap.size, 0, none⟩ (.bool nee)).setCell ⟨w3.heap.size, 1, none⟩ (.slice adee xee.length qee)))) := bset (bset (G.out) (by omega)) (by omega)
    have sz105 : V105.heap.size = w103.heap.size := by rw [← hW]; simp
    rw [hW] at Zpp Zqq ZX Zee KF PP PQ PX PR G
    rw [hW]
    clear hW
    refine hK.out _ _ (fun h => absurd h (by decide)) ?_
    clear hK
    try simp only [Act.put]
    refine wpAnyX_one (i := 6) (o := { dst := none, op := Op.store 24 (Operand.tmp 5) (Operand.tmp 22), type := 0, pos := "chain.go:35", after := #[{ on := 4, ground := Ground.data }, { on := 5, ground := Ground.chain }, { on := 0, ground := Ground.phase }, { on := 1, ground := Ground.phase }, { on := 2, ground := Ground.phase }, { on := 3, ground := Ground.phase }, { on := 4, ground := Ground.phase }, { on := 5, ground := Ground.phase }], guard := none }) (by kernel_rfl) rfl (fun K hK => ?_)
    have cQ0 := PQ.out.c0
    have cQ1 := PQ.out.c1
    have fQ0 := PQ.out.fz 0
    have fQ1 := PQ.out.fz 1
    go_simp
    clear cQ0 cQ1 fQ0 fQ1
    obtain ⟨V106, hW⟩ : ∃ V106, (V105.setCell ⟨w3.heap.size + 1, 0, none⟩ (.bool n1)).setCell ⟨w3.heap.size + 1, 1, none⟩ (.slice a1 x1.length c1) = V106 := ⟨_, rfl⟩
    replace Zpp := hid ((Zpp.out).wk ((PQ.out).wk (.bool n1) (.slice a1 x1.length c1)))
    replace Zqq := hid ((Zqq.out).wk ((PQ.out).wk (.bool n1) (.slice a1 x1.length c1)))
    replace ZX := hid ((ZX.out).wk ((PQ.out).wk (.bool n1) (.slice a1 x1.length c1)))
    replace Zee := hid ((Zee.out).box (PQ.out) (.bool n1) (.slice a1 x1.length c1))
    replace KF := hid ((KF.out).box (PQ.out) (by omega) (.bool n1) (.slice a1 x1.length c1))
    replace PP := hid ((PP.out).box (b' := w3.heap.size + 1) (by omega) (.bool n1) (.slice a1 x1.length c1))
    replace PQ := hid ((PQ.out).set (.bool n1) (.slice a1 x1.length c1))
    replace PX := hid ((PX.out).box (b' := w3.heap.size + 1) (by omega) (.bool n1) (.slice a1 x1.length c1))
    replace PR := hid ((PR.out).away2 (b' := w3.heap.size + 1) (by omega) (.bool n1) (.slice a1 x1.length c1))
    replace G : Hid (Below w.heap.size w (((V105.setCell ⟨w3.heap.size + 1, 0, none⟩ (.bool n1)).setCell ⟨w3.heap.size + 1, 1, none⟩ (.slice a1 x1.length c1)))) := bset (bset (G.out) (by omega)) (by omega)
    have sz106 : V106.heap.size = V105.heap.size := by rw [← hW]; simp
    rw [hW] at Zpp Zqq ZX Zee KF PP PQ PX PR G
    rw [hW]
    clear hW
    refine hK.out _ _ (fun h => absurd h (by decide)) ?_
    clear hK
    try simp only [Act.put]
    refine wpAnyX_done (by kernel_rfl) ?_ _
    have FIN : Hid (UnI w w3.heap.size (fun j => zs.getD j 0) (pre ++ [x]) V106) := ⟨⟨_, _, _, _, _, _, _, _, PP.out, PQ.out, by rw [cfv_snoc, List.length_append]; exact (Zee.out.zc).more (by simp; omega), by rw [cfv_snoc, List.length_append]; exact Zpp.out.more (by simp; omega), PR.out, KF.out.2.2.1⟩, G.out⟩
    have KK := hid KF.out
    exact ⟨KK.out.1, KK.out.2.1, FIN.out⟩
  case done =>
    rintro D ts W hD rfl ⟨⟨n1, n2, x1, x2, a1, c1, a2, c2, p4, p5, z1, z2, pr, hsz⟩, bel⟩ hK
    have j0 := p4.c0
    have j1 := p4.c1
    have k0 := p5.c0
    have k1 := p5.c1
    have r0 := pr.at (i := 0) rfl
    have r1 := pr.at (i := 1) rfl
    have r2 := pr.at (i := 2) rfl
    have r3 := pr.at (i := 3) rfl
    have f0 := pr.fz 0
    have f1 := pr.fz 1
    have f2 := pr.fz 2
    have f3 := pr.fz 3
    rw [cfv_all HN.out hnp, upto8_length] at z1 z2
    have hK1 : (put4 W w.heap.size (.bool n1) (.slice a1 x1.length c1) (.bool n2) (.slice a2 x2.length c2)).heap[D]? = some (.deferred (some [])) := by
      have q := KeepsOthers.setCell W ⟨w.heap.size, 0, none⟩ (.bool n1)
      have q := q.trans (KeepsOthers.setCell _ ⟨w.heap.size, 1, none⟩ (.slice a1 x1.length c1))
      have q := q.trans (KeepsOthers.setCell _ ⟨w.heap.size, 2, none⟩ (.bool n2))
      have q := q.trans (KeepsOthers.setCell _ ⟨w.heap.size, 3, none⟩ (.slice a2 x2.length c2))
      exact q.same D _ hK rfl
    have PP := pr.put4 (.bool n1) (.slice a1 x1.length c1) (.bool n2) (.slice a2 x2.length c2)
    have hrow : ∀ r, some D = some r → ∃ o : Obj, (put4 W w.heap.size (.bool n1) (.slice a1 x1.length c1) (.bool n2) (.slice a2 x2.length c2)).heap[r]? = some o ∧ o.isCells = false := fun r e => by cases e; exact ⟨_, hK1, rfl⟩
    have PP2 := PP.kept8 (grownBy_putObj' _ D (.deferred none)) hrow
    have y1 := (z1.wk (pr.wk4 (.bool n1) (.slice a1 x1.length c1) (.bool n2) (.slice a2 x2.length c2))).kept8 (grownBy_putObj' _ D (.deferred none)) hrow
    have y2 := (z2.wk (pr.wk4 (.bool n1) (.slice a1 x1.length c1) (.bool n2) (.slice a2 x2.length c2))).kept8 (grownBy_putObj' _ D (.deferred none)) hrow
    have bel4 : Below w.heap.size w (put4 W w.heap.size (.bool n1) (.slice a1 x1.length c1) (.bool n2) (.slice a2 x2.length c2)) := bset (bset (bset (bset bel (Nat.le_refl _)) (Nat.le_refl _)) (Nat.le_refl _)) (Nat.le_refl _)
    have belF := bel4.trans (belowK_b (w := w) (Nat.le_refl _) _ D _ (.deferred none) (by omega) hK1 rfl rfl)
    have HZ := hid (show Unchained w zs _ _ from ⟨_, _, _, _, rfl, by rw [HN.out]; exact y1, by rw [HN.out]; exact y2, belF⟩)
    have HPP := hid PP2
    have HKK := hid hK1
    clear z1 z2 y1 y2 PP PP2 bel4 belF hrow hK1 hK
    gi_wp2
    refine ⟨by simp, .inl ⟨_, _, rfl, run_takeDeferred HKK.out, ?_⟩⟩
    exact ⟨_, fback Try.results29 HPP.out _ (by rfl) (by rfl), HZ.out⟩
  case stop =>
    rintro D c pre W _ _ h _
    exact h.elim
end Go.Proofs.Ytaoammmnpfbdfaa
