/-
  Scaled9: k times each of a list; rows of such lists.
-/
import Derived.Test.YtojhmkkjjalonaaQTy9
namespace Go.Proofs.Ytojhmkkjjalonaa
open Go.RowKit
set_option linter.unusedVariables false

set_option maxHeartbeats 1600000 in
set_option maxRecDepth 100000 in
theorem scaled1_any {w : World} {xv x0 x1 : Value} {kb l k : Nat} {K9 Z : Int} (hp : w.cell? ⟨kb, 0, none⟩ = some x0) (hp1 : w.cell? ⟨kb, 1, none⟩ = some x1) (hk9 : Zi w (.agg #[x0, x1]) K9 k) (hz : Zi w xv Z l) (hk : k + l ≤ 35184372088832) :
    Calls Try.prog 67 #[xv, .pointer (some ⟨kb, 0, none⟩)] w (GivesZ w (K9 * Z) (k + l)) := by
  have z0 := hz
  have kz0 := hk9
  obtain ⟨n, xs, a, c, rfl, -, -, -⟩ := hz
  obtain ⟨nk, ks, ak, ck, ek, -, -, -⟩ := hk9
  simp only [Value.agg.injEq, Array.mk.injEq, List.cons.injEq, and_true] at ek
  obtain ⟨rfl, rfl⟩ := ek
  obtain ⟨W0, hW⟩ : ∃ W0, (w.alloc (duo (.bool n) (.slice a xs.length c))).alloc zbox = W0 := ⟨_, rfl⟩
  obtain ⟨b0, sz0⟩ := alloc2 w (duo (.bool n) (.slice a xs.length c)) zbox
  rw [hW] at b0 sz0
  have P2 : Hid (Duo W0 w.heap.size (.bool n) (.slice a xs.length c)) := by unfold Hid; rw [← hW]; exact (Duo.new w _ _).later (by simp) _
  have P3 : Hid (Duo W0 (w.heap.size + 1) (.bool false) (.slice none 0 0)) := by
    unfold Hid
    rw [← hW]
    have := Duo.new (w.alloc (duo (.bool n) (.slice a xs.length c))) (.bool false) (.slice none 0 0)
    simpa using this
  have HS := hid (mul_z (kz0.now b0) (z0.now b0) hk)
  have k0 := cnow b0 hp
  have k1 := cnow b0 hp1
  have k2 := P2.out.c0
  have k3 := P2.out.c1
  rw [← hW] at k0 k1 k2 k3
  have G0 := hid b0
  have EW := hid hW
  have SZ := hid sz0
  clear b0 sz0 hW z0 kz0 hp hp1 hk
  go_enter Try.func67, Try.ntmps67
  go_wp2_with fail
  rw [EW.out]
  refine HS.out.mono ?_
  rintro e w1 ⟨r, rfl, m1, b⟩
  have P31 := hid (P3.out.step b)
  have G1 := hid (below_step G0.out b)
  have HM := hid (m1.mono G0.out.size)
  obtain ⟨nr, xr, ar, cr, rfl⟩ := m1.parts
  have r0 := P31.out.c0
  have r1 := P31.out.c1
  have f0 := P31.out.fz 0
  have f1 := P31.out.fz 1
  have FIN : Hid (GivesZ w (K9 * Z) (k + l) (.returned (.agg #[.bool nr, .slice ar xr.length cr])) ((w1.setCell ⟨w.heap.size + 1, 0, none⟩ (.bool nr)).setCell ⟨w.heap.size + 1, 1, none⟩ (.slice ar xr.length cr))) := ⟨_, rfl, HM.out.box P31.out _ _, bset (bset G1.out (by omega)) (by omega)⟩
  clear HS G0 EW m1 b SZ k0 k1 k2 k3 P2 P3
  go_wp2
  exact bodyPost_ret (zback Try.results67 (P31.out.set _ _) _ (by rfl)) rfl FIN.out
abbrev fnScaled (kb : Nat) : Value := .func (.func 67) #[] #[.pointer (some ⟨kb, 0, none⟩)]
def EachM (w : World) (g n : Nat) (F : Nat → Int) (k gk : Nat) (s : Value) (wx : World) : Prop :=
  ∃ i : Nat, s = .int .i64 (i : Int) ∧ i ≤ n ∧ gk = n - i ∧ FilM wx g n i F k ∧ Below w.heap.size w wx
def scaleL (K9 : Int) (zs : List Int) : List Int := (List.range zs.length).map fun j => K9 * zs.getD j 0
set_option maxHeartbeats 1600000 in
set_option maxRecDepth 100000 in
theorem eachScaled_any {w : World} {kb k l : Nat} {v x0 x1 : Value} {zs : List Int} {K9 : Int} (hv : Zl w v zs l) (hp : w.cell? ⟨kb, 0, none⟩ = some x0) (hp1 : w.cell? ⟨kb, 1, none⟩ = some x1) (hk9 : Zi w (.agg #[x0, x1]) K9 k) (hk : k + l ≤ 35184372088832) :
    Calls Try.prog 53 #[v, fnScaled kb] w (ListedM w (scaleL K9 zs) (k + l)) := by
  have V0 := hid hv
  have KZ := hid hk9
  have C0 := hid hp
  have C1 := hid hp1
  have HK := hid hk
  have HMP : Hid (scaleL K9 zs = (List.range zs.length).map fun j => K9 * zs.getD j 0) := rfl
  obtain ⟨RS, hRS⟩ : ∃ RS, scaleL K9 zs = RS := ⟨_, rfl⟩
  rw [hRS] at HMP ⊢
  obtain ⟨a0, c0, rfl, hc0, hn0, hf0⟩ := V0.out.form9
  obtain ⟨n, hn⟩ : ∃ n, zs.length = n := ⟨_, rfl⟩
  rw [hn] at V0 hc0 hn0 HMP ⊢
  have HN := hid hn
  have F0 := hid hf0
  clear hv hf0 hn hp hp1 hk9 hk hRS
  go_enter Try.func53, Try.ntmps53
  go_wp2_with (at_make; refine wpList_make_pairs9 _ rfl _ _ rfl _ _ n n rfl rfl rfl rfl (Nat.le_refl _) (by omega) ?_)
  intro w1 hrow hb1 hsz1
  have H0 : Hid (EachM w w.heap.size n (fun j => K9 * zs.getD j 0) (k + l) n (.int .i64 0) w1) := ⟨0, rfl, Nat.zero_le _, by omega, FilM.start hrow _ _, hb1⟩
  clear hrow hb1 hsz1
  go_wp2_with fail
  go_loopg [13] n (fun gk s13 wx => EachM w w.heap.size n (fun j => K9 * zs.getD j 0) (k + l) gk s13 wx)
  case atStart => exact H0.out
  case round =>
    clear H0
    obtain ⟨i, rfl, hin, hg, hfil, hG⟩ := hrel
    have FI := hid hfil
    have G := hid hG
    have HG := hid hg
    clear hfil hG hg
    by_cases hlt : i < n
    · have hlt' : (i : Int) < (n : Int) := by omega
      obtain ⟨b1, o1, rfl⟩ := F0.out (fun e => by have := HN.out; rw [e] at this; simp at this; omega)
      obtain ⟨nf, xf, adf, qf, k0, k1, zf⟩ := (V0.out.now G.out).at9 (i := i) (by rw [HN.out]; exact hlt)
      rw [getD_at] at zf
      obtain ⟨V1, hV⟩ : ∃ V1, wr.alloc (duo (.bool nf) (.slice adf xf.length qf)) = V1 := ⟨_, rfl⟩
      obtain ⟨b, sz1⟩ := alo1 wr (duo (.bool nf) (.slice adf xf.length qf))
      rw [hV] at b sz1
      have PN : Hid (Duo V1 wr.heap.size (.bool nf) (.slice adf xf.length qf)) := by unfold Hid; rw [← hV]; exact Duo.new wr _ _
      have G0 := hid (below_step G.out b)
      have HS := hid (scaled1_any (cnow G0.out C0.out) (cnow G0.out C1.out) (KZ.out.now G0.out) (zf.now b) HK.out)
      have FI0 := hid (FI.out.step b)
      have n0 := PN.out.c0
      have n1 := PN.out.c1
      rw [← hV] at n0 n1
      have EV := hid hV
      have hw := wrapI9 (i := i) (by omega)
      clear zf b sz1 hV PN FI G
      go_wp2_with fail
      rw [EV.out]
      refine HS.out.mono ?_
      rintro e w1 ⟨r, rfl, m1, b⟩
      have FI1 := hid (FI0.out.step b)
      have G1 := hid (below_step G0.out b)
      have M1 := hid (m1.mono (Nat.zero_le _))
      obtain ⟨nr, xr, ar, cr, rfl⟩ := m1.parts
      obtain ⟨m0, am, lm, cm, e0, e1, e2, e3⟩ := FI1.out.cells hlt
      have HN1 : Hid (EachM w w.heap.size n (fun j => K9 * zs.getD j 0) (k + l) (n - (i + 1)) (.int .i64 ((i + 1 : Nat) : Int)) ((w1.setCell ⟨w.heap.size, i * 2, none⟩ (.bool nr)).setCell ⟨w.heap.size, i * 2 + 1, none⟩ (.slice ar xr.length cr))) :=
        ⟨i + 1, rfl, by omega, rfl, FI1.out.put hlt M1.out, bset (bset G1.out (Nat.le_refl _)) (Nat.le_refl _)⟩
      have HMM : Hid (n - (i + 1) < gk) := by unfold Hid; rw [HG.out]; omega
      clear HS FI0 G0 HG FI1 G1 M1 m1 b k0 k1 n0 n1 EV
      go_wp2_with fail
      go_roundg (n - (i + 1))
      case rel => exact HN1.out
      case measure => exact HMM.out
    · have hlt' : ¬ (i : Int) < (n : Int) := by omega
      obtain rfl : i = n := by omega
      obtain ⟨ps, p1, p2⟩ := FI.out.done hn0
      rw [← HMP.out] at p2
      have FIN : Hid (ListedM w RS (k + l) (.returned (.slice (some ⟨w.heap.size, 0, none⟩) i i)) wr) := ⟨_, ps, rfl, p1, p2, G.out⟩
      clear FI G HG p1 p2
      go_wp2
      go_ret
      exact FIN.out
set_option maxHeartbeats 1600000 in
set_option maxRecDepth 100000 in
theorem scaled_any {w : World} {k l : Nat} {v kv : Value} {zs : List Int} {K9 : Int} (hk9 : Zi w kv K9 k) (hv : Zl w v zs l) (hk : k + l ≤ 35184372088832) :
    Calls Try.prog 47 #[kv, v] w (ListedM w (scaleL K9 zs) (k + l)) := by
  have z0 := hk9
  obtain ⟨n, xs, a, c, rfl, -, -, -⟩ := hk9
  obtain ⟨W0, hW⟩ : ∃ W0, w.alloc (duo (.bool n) (.slice a xs.length c)) = W0 := ⟨_, rfl⟩
  obtain ⟨b0, sz0⟩ := alo1 w (duo (.bool n) (.slice a xs.length c))
  rw [hW] at b0 sz0
  have P2 : Duo W0 w.heap.size (.bool n) (.slice a xs.length c) := by rw [← hW]; exact Duo.new w _ _
  have HS := hid (eachScaled_any (hv.now b0) P2.c0 P2.c1 (z0.now b0) hk)
  obtain ⟨a0, c0, rfl, -, -, -⟩ := hv.form9
  generalize scaleL K9 zs = RS at *
  have G0 := hid b0
  have EW := hid hW
  clear b0 sz0 hW z0 hv hk P2
  go_enter Try.func47, Try.ntmps47
  go_wp2_with fail
  rw [EW.out]
  refine HS.out.mono ?_
  rintro e w1 ⟨u, ps, rfl, p1, p2, b⟩
  have FIN : Hid (ListedM w RS (k + l) (.returned u) w1) := ⟨u, ps, rfl, p1, p2, below_step G0.out b⟩
  clear HS G0 EW p1 p2 b
  go_wp2
  go_ret
  exact FIN.out
set_option maxHeartbeats 1600000 in
set_option maxRecDepth 100000 in
theorem kron1_any {w : World} {yb k l : Nat} {yv kv : Value} {ys : List Int} {K9 : Int} (hp : w.cell? ⟨yb, 0, none⟩ = some yv) (hk9 : Zi w kv K9 k) (hv : Zl w yv ys l) (hk : k + l ≤ 35184372088832) :
    Calls Try.prog 46 #[kv, .pointer (some ⟨yb, 0, none⟩)] w (ListedM w (scaleL K9 ys) (k + l)) := by
  have z0 := hk9
  obtain ⟨n, xs, a, c, rfl, -, -, -⟩ := hk9
  obtain ⟨W0, hW⟩ : ∃ W0, w.alloc (duo (.bool n) (.slice a xs.length c)) = W0 := ⟨_, rfl⟩
  obtain ⟨b0, sz0⟩ := alo1 w (duo (.bool n) (.slice a xs.length c))
  rw [hW] at b0 sz0
  have P2 : Duo W0 w.heap.size (.bool n) (.slice a xs.length c) := by rw [← hW]; exact Duo.new w _ _
  have HS := hid (scaled_any (z0.now b0) (hv.now b0) hk)
  have k0 := cnow b0 hp
  have k1 := P2.c0
  have k2 := P2.c1
  rw [← hW] at k0 k1 k2
  obtain ⟨a0, c0, rfl, -, -, -⟩ := hv.form9
  generalize scaleL K9 ys = RS at *
  have G0 := hid b0
  have EW := hid hW
  clear b0 sz0 hW z0 hv hk P2 hp
  go_enter Try.func46, Try.ntmps46
  go_wp2_with fail
  rw [EW.out]
  refine HS.out.mono ?_
  rintro e w1 ⟨u, ps, rfl, p1, p2, b⟩
  have FIN : Hid (ListedM w RS (k + l) (.returned u) w1) := ⟨u, ps, rfl, p1, p2, below_step G0.out b⟩
  clear HS G0 EW p1 p2 b k0 k1 k2
  go_wp2
  go_ret
  exact FIN.out
abbrev fnKron (yb : Nat) : Value := .func (.func 46) #[] #[.pointer (some ⟨yb, 0, none⟩)]
def GridM (w : World) (g n k : Nat) (zss : List (List Int)) (gk : Nat) (s : Value) (wx : World) : Prop :=
  ∃ i : Nat, s = .int .i64 (i : Int) ∧ i ≤ n ∧ gk = n - i ∧ FilR wx g n i (fun j u => ∃ ps, PrsT wx u ps ∧ Zms wx ps (zss.getD j []) k) ∧ Below w.heap.size w wx
def GriddedM (w : World) (zss : List (List Int)) (k : Nat) (e : Ending) (w' : World) : Prop := ∃ u pss, e = .returned u ∧ Prr 0 w' u pss ∧ Zmss w' pss zss k ∧ Below w.heap.size w w'
theorem filR_gridM {w : World} {g n k : Nat} {zss : List (List Int)} (h : FilR w g n n (fun j u => ∃ ps, PrsT w u ps ∧ Zms w ps (zss.getD j []) k)) (hl : zss.length = n) (hn : n ≤ 1048576) : ∃ pss, Prr 0 w (.slice (some ⟨g, 0, none⟩) n n) pss ∧ Zmss w pss zss k := by
  obtain ⟨vs, h1, h2, hw, h3⟩ := h
  obtain ⟨q, hq⟩ := Deep.choose_lt (α := List (Value × Value)) (n := n) (p := fun j ps => ∀ u, vs[j]? = some u → Prs 0 w u ps ∧ Zms w ps (zss.getD j []) k) (fun j hj => by
    obtain ⟨ps, p1, p2⟩ := h3 j _ hj (List.getElem?_eq_getElem (by omega))
    refine ⟨ps, fun u hu => ?_⟩
    rw [List.getElem?_eq_getElem (by omega), Option.some.injEq] at hu
    rw [← hu]
    exact ⟨p1.1, p2⟩)
  have key : ∀ j ps, ((List.range n).map q)[j]? = some ps → j < n ∧ ps = q j := fun j ps hp => by
    have hj : j < n := by simpa using (List.getElem?_eq_some_iff.1 hp).1
    rw [List.getElem?_map, List.getElem?_range hj] at hp
    exact ⟨hj, by simpa using hp.symm⟩
  have hv : ∀ j (hj : j < n), vs[j]? = some (vs[j]'(by omega)) := fun j hj => List.getElem?_eq_getElem (by omega)
  refine ⟨(List.range n).map q, ⟨some ⟨g, 0, none⟩, n, by simp, by simp, by simpa using hn, .inr ⟨g, 0, rfl, h1.blk, fun j ps hp => ?_⟩⟩, by simp [hl], fun j ps hp => ?_⟩
  · obtain ⟨hj, rfl⟩ := key j ps hp
    exact ⟨_, by rw [Nat.zero_add]; exact h1.at (hv j hj), (hq j hj _ (hv j hj)).1⟩
  · obtain ⟨hj, rfl⟩ := key j ps hp
    exact (hq j hj _ (hv j hj)).2
theorem FilR.tyset {w : World} {g n i : Nat} {P : Nat → Value → Prop} (h : FilR w g n i P) (j : Nat) (x : Value) : Ty 22 w (w.setCell ⟨g, j, none⟩ x) := by
  obtain ⟨vs, h1, -⟩ := h
  exact Ty.set h1
set_option maxHeartbeats 1600000 in
set_option maxRecDepth 100000 in
theorem eachKron_any {w : World} {yb k l : Nat} {v yv : Value} {xs ys : List Int} (hv : Zl w v xs k) (hp : w.cell? ⟨yb, 0, none⟩ = some yv) (hy : Zl w yv ys l) (hk : k + l ≤ 35184372088832) :
    Calls Try.prog 45 #[v, fnKron yb] w (GriddedM w (xs.map fun x => scaleL x ys) (k + l)) := by
  have V0 := hid hv
  have Y0 := hid hy
  have C0 := hid hp
  have HK := hid hk
  obtain ⟨RS, hRS⟩ : ∃ RS, (xs.map fun x => scaleL x ys) = RS := ⟨_, rfl⟩
  have HR : Hid (∀ j, j < xs.length → RS.getD j [] = scaleL (xs.getD j 0) ys) := fun j hj => by rw [← hRS]; simp [hj]
  have HRL : Hid (RS.length = xs.length) := by unfold Hid; rw [← hRS]; simp
  rw [hRS]
  obtain ⟨a0, c0, rfl, hc0, hn0, hf0⟩ := V0.out.form9
  obtain ⟨n, hn⟩ : ∃ n, xs.length = n := ⟨_, rfl⟩
  rw [hn] at V0 hc0 hn0 HR HRL ⊢
  have HN := hid hn
  have F0 := hid hf0
  clear hv hf0 hn hp hy hk hRS
  go_enter Try.func45, Try.ntmps45
  go_wp2_with (at_make; refine wpList_make_rows _ rfl _ _ rfl _ _ n n rfl rfl rfl rfl (Nat.le_refl _) (by omega) ?_)
  intro w1 hrow hb1 hsz1
  have H0 : Hid (GridM w w.heap.size n (k + l) RS n (.int .i64 0) w1) := ⟨0, rfl, Nat.zero_le _, by omega, FilR.start hrow _, hb1⟩
  clear hrow hb1 hsz1
  go_wp2_with fail
  go_loopg [13] n (fun gk s13 wx => GridM w w.heap.size n (k + l) RS gk s13 wx)
  case atStart => exact H0.out
  case round =>
    clear H0
    obtain ⟨i, rfl, hin, hg, hfil, hG⟩ := hrel
    have FI := hid hfil
    have G := hid hG
    have HG := hid hg
    clear hfil hG hg
    by_cases hlt : i < n
    · have hlt' : (i : Int) < (n : Int) := by omega
      obtain ⟨b1, o1, rfl⟩ := F0.out (fun e => by have := HN.out; rw [e] at this; simp at this; omega)
      obtain ⟨nf, xf, adf, qf, k0, k1, zf⟩ := (V0.out.now G.out).at9 (i := i) (by rw [HN.out]; exact hlt)
      rw [getD_at] at zf
      obtain ⟨V1, hV⟩ : ∃ V1, wr.alloc (duo (.bool nf) (.slice adf xf.length qf)) = V1 := ⟨_, rfl⟩
      obtain ⟨b, sz1⟩ := alo1 wr (duo (.bool nf) (.slice adf xf.length qf))
      rw [hV] at b sz1
      have PN : Hid (Duo V1 wr.heap.size (.bool nf) (.slice adf xf.length qf)) := by unfold Hid; rw [← hV]; exact Duo.new wr _ _
      have G0 := hid (below_step G.out b)
      have HS := hid (kron1_any (cnow G0.out C0.out) (zf.now b) (Y0.out.now G0.out) HK.out)
      rw [← HR.out i hlt] at HS
      have FI0 : Hid (FilR V1 w.heap.size n i (fun j u => ∃ ps, PrsT V1 u ps ∧ Zms V1 ps (RS.getD j []) (k + l))) := FI.out.step b (fun j u _ ⟨ps, q1, q2⟩ => ⟨ps, q1.now b, q2.now b⟩)
      have n0 := PN.out.c0
      have n1 := PN.out.c1
      rw [← hV] at n0 n1
      have EV := hid hV
      have hw := wrapI9 (i := i) (by omega)
      clear zf b sz1 hV PN FI G
      go_wp2_with fail
      rw [EV.out]
      refine HS.out.mono ?_
      rintro e w1 ⟨r, ps, rfl, p1, p2, b⟩
      have FI1 : Hid (FilR w1 w.heap.size n i (fun j u => ∃ ps, PrsT w1 u ps ∧ Zms w1 ps (RS.getD j []) (k + l))) := FI0.out.step b (fun j u _ ⟨ps, q1, q2⟩ => ⟨ps, q1.now b, q2.now b⟩)
      have G1 := hid (below_step G0.out b)
      have M1 := hid p1
      have M2 := hid p2
      obtain ⟨ar, cr, rfl, -, -, -, -⟩ := p1.1.form
      obtain ⟨u0, e0, e1⟩ := FI1.out.cells hlt
      have HN1 : Hid (GridM w w.heap.size n (k + l) RS (n - (i + 1)) (.int .i64 ((i + 1 : Nat) : Int)) (w1.setCell ⟨w.heap.size, i, none⟩ (.slice ar ps.length cr))) :=
        ⟨i + 1, rfl, by omega, rfl, FI1.out.put hlt (fun j u _ ⟨qs, q1, q2⟩ => ⟨qs, q1.ty (FI1.out.tyset _ _) (by decide), q2.ty (FI1.out.tyset _ _) (by decide)⟩) ⟨ps, M1.out.ty (FI1.out.tyset _ _) (by decide), M2.out.ty (FI1.out.tyset _ _) (by decide)⟩ (noS _ _ _), bset G1.out (Nat.le_refl _)⟩
      have HMM : Hid (n - (i + 1) < gk) := by unfold Hid; rw [HG.out]; omega
      clear HS FI0 G0 HG FI1 G1 M1 M2 p1 p2 b k0 k1 n0 n1 EV
      go_wp2_with fail
      go_roundg (n - (i + 1))
      case rel => exact HN1.out
      case measure => exact HMM.out
    · have hlt' : ¬ (i : Int) < (n : Int) := by omega
      obtain rfl : i = n := by omega
      obtain ⟨qs, q1, q2⟩ := filR_gridM FI.out HRL.out hn0
      have FIN : Hid (GriddedM w RS (k + l) (.returned (.slice (some ⟨w.heap.size, 0, none⟩) i i)) wr) := ⟨_, qs, rfl, q1, q2, G.out⟩
      clear FI G HG q1 q2
      go_wp2
      go_ret
      exact FIN.out
end Go.Proofs.Ytojhmkkjjalonaa
