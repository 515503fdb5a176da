/-
  Va16: lists of integers in an array of their own, all of them in least form; dots and VecMul with it.
-/
import Derived.Test.YtnpcfohimlfbdaaQProd9ToChkN9
namespace Go.Proofs.Ytnpcfohimlfbdaa
open Go.RowKit
set_option linter.unusedVariables false

/-- Block g is an array of these integers, in least form. -/
def AllZ (w : World) (g : Nat) (zs : List Int) (k : Nat) : Prop := ∃ ps, Arr w g ps ∧ Zcs w ps zs k
theorem AllZ.step {w w' : World} {g k : Nat} {zs : List Int} (h : AllZ w g zs k) (hb : Below w.heap.size w w') : AllZ w' g zs k := by
  obtain ⟨ps, h1, h2⟩ := h
  exact ⟨ps, h1.step hb, h2.now hb⟩
theorem AllZ.more {w : World} {g k l : Nat} {zs : List Int} (h : AllZ w g zs k) (hl : k ≤ l) : AllZ w g zs l := by
  obtain ⟨ps, h1, h2⟩ := h
  exact ⟨ps, h1, h2.more hl⟩
theorem AllZ.blk {w : World} {g k : Nat} {zs : List Int} (h : AllZ w g zs k) : g < w.heap.size := by
  obtain ⟨ps, h1, h2⟩ := h
  exact h1.1.blk
theorem AllZ.put {w : World} {g k i : Nat} {zs : List Int} {x y : Value} {z : Int} (h : AllZ w g zs k) (hi : i < zs.length) (hz : Zc w (.agg #[x, y]) z k) : AllZ ((w.setCell ⟨g, i * 2, none⟩ x).setCell ⟨g, i * 2 + 1, none⟩ y) g (zs.set i z) k := by
  obtain ⟨ps, h1, h2, h3⟩ := h
  have hw := h1.wk (i := i) (by omega) x y
  refine ⟨ps.set i (x, y), h1.put (by omega) hz.zi.isI, by simpa using h2, fun j p z' hp hz' => ?_⟩
  by_cases q : j = i
  · subst q
    rw [List.getElem?_set_self (by omega), Option.some.injEq] at hp
    rw [List.getElem?_set_self (by omega), Option.some.injEq] at hz'
    subst hp hz'
    exact hz.wk hw
  · rw [List.getElem?_set_ne (by omega)] at hp hz'
    exact (h3 j p z' hp hz').wk hw
/-- What is written into an array of integers touches no words. -/
theorem AllZ.wk {w : World} {g k i : Nat} {zs : List Int} (h : AllZ w g zs k) (hi : i < zs.length) (x y : Value) : Wk w ((w.setCell ⟨g, i * 2, none⟩ x).setCell ⟨g, i * 2 + 1, none⟩ y) := by
  obtain ⟨ps, h1, h2, h3⟩ := h
  exact h1.wk (by omega) x y
theorem AllZ.ne {w w' : World} {g k : Nat} {zs : List Int} (h : AllZ w g zs k) (hw : Wk w w') (hg : w'.heap[g]? = w.heap[g]?) : AllZ w' g zs k := by
  obtain ⟨ps, h1, h2⟩ := h
  exact ⟨ps, ⟨hg.trans h1.1, h1.2⟩, h2.wk hw⟩
theorem heap_ne2 {w : World} {g g' i j : Nat} (hne : g' ≠ g) (x y : Value) : ((w.setCell ⟨g', i, none⟩ x).setCell ⟨g', j, none⟩ y).heap[g]? = w.heap[g]? :=
  (Below.heap_setCell _ _ y g (fun e => hne e.symm)).trans (Below.heap_setCell w _ x g (fun e => hne e.symm))
theorem AllZ.at {w : World} {g k i : Nat} {zs : List Int} (h : AllZ w g zs k) (hi : i < zs.length) : ∃ n, ∃ xs : List Int, ∃ a c, w.cell? ⟨g, i * 2, none⟩ = some (.bool n) ∧ w.cell? ⟨g, i * 2 + 1, none⟩ = some (.slice a xs.length c) ∧ w.frozen? ⟨g, i * 2, none⟩ = false ∧ w.frozen? ⟨g, i * 2 + 1, none⟩ = false ∧ Zc w (.agg #[.bool n, .slice a xs.length c]) (zs.getD i 0) k := by
  obtain ⟨ps, h1, h2, h3⟩ := h
  have hp : ps[i]? = some (ps[i]'(by omega)) := List.getElem?_eq_getElem (by omega)
  have q := h1.at hp
  have hz := h3 i _ _ hp (List.getElem?_eq_getElem hi)
  have hz' := hz
  obtain ⟨n, xs, a, c, e, -⟩ := hz
  simp only [Value.agg.injEq, Array.mk.injEq, List.cons.injEq, and_true] at e
  obtain ⟨e1, e2⟩ := e
  rw [e1, e2] at q hz'
  refine ⟨n, xs, a, c, q.1, q.2, h1.1.fz _, h1.1.fz _, ?_⟩
  have e3 : zs.getD i 0 = zs[i] := by simp [hi]
  rw [e3]
  exact hz'
theorem AllZ.prs {w : World} {g k B : Nat} {zs : List Int} (h : AllZ w g zs k) (hB : B ≤ g) (hn : zs.length ≤ 1048576) {n : Nat} (hl : zs.length = n) : ∃ ps, Prs B w (.slice (some ⟨g, 0, none⟩) n n) ps ∧ Zcs w ps zs k := by
  obtain ⟨ps, h1, h2⟩ := h
  have e : ps.length = n := h2.1.trans hl
  have := h1.prs hB (by omega) (Nat.le_refl _)
  rw [e] at this
  exact ⟨ps, this, h2⟩
theorem AllZ.zl {w : World} {g k : Nat} {zs : List Int} (h : AllZ w g zs k) (hn : zs.length ≤ 1048576) {n : Nat} (hl : zs.length = n) : Zl w (.slice (some ⟨g, 0, none⟩) n n) zs k := by
  obtain ⟨ps, h1, h2⟩ := h.prs (Nat.zero_le _) hn hl
  exact zl_of h1 h2.zis
theorem AllZ.start {w : World} {g n : Nat} (h : Arr w g (List.replicate n zpair)) (k : Nat) : AllZ w g (List.replicate n 0) k := by
  refine ⟨_, h, by simp, fun j p z hp hz => ?_⟩
  have e1 := List.eq_of_mem_replicate (List.mem_of_getElem? hp)
  have e2 := List.eq_of_mem_replicate (List.mem_of_getElem? hz)
  subst e1 e2
  exact ⟨false, [], none, 0, rfl, Sl.nil w, ⟨WF.nil, rfl⟩, fun _ => rfl, by simp [iv, val], Nat.zero_le _⟩
theorem Fil.doneA16 {w : World} {g n : Nat} {F : Nat → Int} {k : Nat} (h : Fil w g n n F k) : AllZ w g ((List.range n).map F) k := by
  obtain ⟨ps, h1, rfl, h3⟩ := h
  refine ⟨ps, h1, by simp, fun j p z hp hz => ?_⟩
  have hj : j < ps.length := (List.getElem?_eq_some_iff.1 hp).1
  rw [List.getElem?_map, List.getElem?_range hj, Option.map_some, Option.some.injEq] at hz
  subst hz
  exact h3 j p hj hp
/-- A list in an array that the call made. -/
def ListA (w : World) (zs : List Int) (k : Nat) (e : Ending) (w' : World) : Prop := ∃ g, e = .returned (.slice (some ⟨g, 0, none⟩) zs.length zs.length) ∧ w.heap.size ≤ g ∧ AllZ w' g zs k ∧ Below w.heap.size w w'
set_option maxHeartbeats 1600000 in
set_option maxRecDepth 100000 in
theorem eachDotsA_any {w : World} {B pb k l : Nat} {v xv : Value} {pss : List (List (Value × Value))} {zss : List (List Int)} {xs : List Int} (hv : Prr B w v pss) (hz : Ziss w pss zss l) (hp : w.cell? ⟨pb, 0, none⟩ = some xv) (hx : Zl w xv xs k) (he : ∀ ys ∈ zss, ys.length = xs.length) (hk : k + l + xs.length < 35184372088832) :
    Calls Try.prog 83 #[v, fnDots pb] w (ListA w (zss.map (dotv xs)) (k + l + xs.length)) := by
  have V0 := hid hv
  have X0 := hid hx
  have Z0 := hid hz
  have C0 := hid hp
  have HE : Hid (∀ j, j < zss.length → (zss.getD j []).length = xs.length) := fun j hj => by
    have e : zss.getD j [] = zss[j] := by simp [hj]
    rw [e]
    exact he _ (List.getElem_mem hj)
  have HK := hid hk
  have HMP : Hid (zss.map (dotv xs) = (List.range zss.length).map fun j => dotv xs (zss.getD j [])) := by
    unfold Hid
    apply List.ext_getElem
    · simp
    · intro j h1 h2
      simp at h1
      simp [h1]
  obtain ⟨a0, c0, rfl, hc0, hn0, hf0⟩ := hv.form
  obtain ⟨n, hn⟩ : ∃ n, pss.length = n := ⟨_, rfl⟩
  have hzl := hz.1
  rw [hn] at V0 hc0 hn0 hzl ⊢
  rw [← hzl] at HMP HE
  have HN := hid hn
  have F0 := hid hf0
  clear hv hx hz hp he hk hf0 hn hzl
  generalize zss.map (dotv xs) = RS at *
  go_enter Try.func83, Try.ntmps83
  go_wp2_with (at_make; refine wpList_make_pairs9 _ rfl _ _ rfl _ _ n n rfl rfl rfl rfl (Nat.le_refl _) (by omega) ?_)
  intro w1 hrow hb1 hsz1
  have H0 : Hid (EachH w w.heap.size n (fun j => dotv xs (zss.getD j [])) (k + l + xs.length) n (.int .i64 0) w1) := ⟨0, rfl, Nat.zero_le _, by omega, Fil.start hrow _ _, hb1⟩
  clear hrow hb1 hsz1
  go_wp2_with fail
  go_loopg [13] n (fun gk s13 wx => EachH w w.heap.size n (fun j => dotv xs (zss.getD j [])) (k + l + xs.length) gk s13 wx)
  case atStart => exact H0.out
  case round =>
    clear H0
    obtain ⟨i, rfl, hin, hg, hfil, hG⟩ := hrel
    have FI := hid hfil
    have G := hid hG
    have HG := hid hg
    clear hfil hG hg
    by_cases hlt : i < n
    · have hlt' : (i : Int) < (n : Int) := by omega
      obtain ⟨b1, o1, rfl⟩ := F0.out (fun e => by have := HN.out; rw [e] at this; simp at this; omega)
      have hpi : pss[i]? = some (pss[i]'(by rw [HN.out]; exact hlt)) := List.getElem?_eq_getElem (by rw [HN.out]; exact hlt)
      obtain ⟨u, k0, pu⟩ := (V0.out.now G.out).at (i := i) hpi
      have HS := hid (dots1_any (cnow G.out C0.out) (X0.out.now G.out) (zl_of pu ((Z0.out.2 i _ hpi).now G.out)) (HE.out i hlt) HK.out)
      obtain ⟨au, cu, rfl, -, -, -, -⟩ := pu.form
      have hw := wrapI9 (i := i) (by omega)
      clear hpi pu
      go_wp2_with fail
      refine HS.out.mono ?_
      rintro e w1 ⟨r, rfl, m1, b⟩
      have FI1 := hid (FI.out.step b)
      have G1 := hid (below_step G.out b)
      have M1 := hid m1.zc
      obtain ⟨nr, xr, ar, cr, rfl⟩ := m1.parts
      obtain ⟨m0, am, lm, cm, e0, e1, e2, e3⟩ := FI1.out.cells hlt
      have HN1 : Hid (EachH w w.heap.size n (fun j => dotv xs (zss.getD j [])) (k + l + xs.length) (n - (i + 1)) (.int .i64 ((i + 1 : Nat) : Int)) ((w1.setCell ⟨w.heap.size, i * 2, none⟩ (.bool nr)).setCell ⟨w.heap.size, i * 2 + 1, none⟩ (.slice ar xr.length cr))) :=
        ⟨i + 1, rfl, by omega, rfl, FI1.out.put hlt M1.out, bset (bset G1.out (Nat.le_refl _)) (Nat.le_refl _)⟩
      have HMM : Hid (n - (i + 1) < gk) := by unfold Hid; rw [HG.out]; omega
      clear HS FI G HG FI1 G1 M1 m1 b k0
      go_wp2_with fail
      go_roundg (n - (i + 1))
      case rel => exact HN1.out
      case measure => exact HMM.out
    · have hlt' : ¬ (i : Int) < (n : Int) := by omega
      obtain rfl : i = n := by omega
      have p2 := FI.out.doneA16
      rw [← HMP.out] at p2
      have EL : Hid (RS.length = i) := by unfold Hid; rw [HMP.out]; simp
      have FIN : Hid (ListA w RS (k + l + xs.length) (.returned (.slice (some ⟨w.heap.size, 0, none⟩) i i)) wr) := ⟨w.heap.size, by rw [EL.out], Nat.le_refl _, p2, G.out⟩
      clear FI G HG p2 EL
      go_wp2
      go_ret
      exact FIN.out
set_option maxHeartbeats 1600000 in
set_option maxRecDepth 100000 in
theorem dotsA_any {w : World} {B k l : Nat} {v xv : Value} {pss : List (List (Value × Value))} {zss : List (List Int)} {xs : List Int} (hv : Prr B w v pss) (hz : Ziss w pss zss l) (hx : Zl w xv xs k) (he : ∀ ys ∈ zss, ys.length = xs.length) (hk : k + l + xs.length < 35184372088832) :
    Calls Try.prog 81 #[xv, v] w (ListA w (zss.map (dotv xs)) (k + l + xs.length)) := by
  have X0 := hid hx
  obtain ⟨a1, c1, rfl, -, -, -⟩ := hx.form9
  obtain ⟨W0, hW⟩ : ∃ W0, w.alloc (.cells #[.slice a1 xs.length c1] 22) = W0 := ⟨_, rfl⟩
  obtain ⟨b0, sz0⟩ := alo1 w (.cells #[.slice a1 xs.length c1] 22)
  rw [hW] at b0 sz0
  have hp : W0.cell? ⟨w.heap.size, 0, none⟩ = some (.slice a1 xs.length c1) := by rw [← hW]; exact (Cel.new w 22 [.slice a1 xs.length c1]).at (i := 0) rfl
  have HC := hid (eachDotsA_any (hv.now b0) (hz.now b0) hp (X0.out.now b0) he hk)
  obtain ⟨a0, c0, rfl, -, -, -⟩ := hv.form
  have G0 := hid b0
  have EW := hid hW
  clear hv hz hx he hk b0 hW sz0 hp X0
  generalize zss.map (dotv xs) = RS at *
  generalize k + l + xs.length = kk at *
  go_enter Try.func81, Try.ntmps81
  go_wp2_with fail
  rw [EW.out]
  refine HC.out.mono ?_
  rintro e w1 ⟨g, rfl, p1, p2, b⟩
  have FIN : Hid (ListA w RS kk (.returned (.slice (some ⟨g, 0, none⟩) RS.length RS.length)) w1) := ⟨g, rfl, Nat.le_trans G0.out.size p1, p2, below_step G0.out b⟩
  generalize RS.length = RL at *
  clear HC G0 EW p1 p2 b
  go_wp2
  go_ret
  exact FIN.out
/-- A row times a matrix. -/
def vecL (m c : Nat) (xs ys : List Int) : List Int := (colsL m c ys 0).map (dotv xs)
theorem vecL_length {m c : Nat} {xs ys : List Int} : (vecL m c xs ys).length = c := by simp [vecL, colsL]
def ListO (w : World) (c : Nat) (zs : List Int) (k : Nat) (e : Ending) (w' : World) : Prop := ∃ g, e = .returned (.tuple #[.slice (some ⟨g, 0, none⟩) c c, .int .i64 0]) ∧ w.heap.size ≤ g ∧ AllZ w' g zs k ∧ Below w.heap.size w w'
set_option maxHeartbeats 1600000 in
set_option maxRecDepth 100000 in
theorem vecMul_yes {w : World} {xv v : Value} {m c k l : Nat} {xs ys : List Int} (hx : Zl w xv xs k) (hxl : xs.length = m) (h : Mx w v m c ys l) (hk : k + l + m < 35184372088832) :
    Calls Try.prog 78 #[xv, v] w (ListO w c (vecL m c xs ys) (k + l + m)) := by
  have M0 := h
  have X0 := hid hx
  obtain ⟨at_, ps, rfl, pa1, pa2, pa3, hr, hc⟩ := h
  obtain ⟨aa, ca, rfl, -, -, -, -⟩ := pa1.form
  obtain ⟨a1, c1, rfl, -, -, -⟩ := hx.form9
  have HLA : Hid (ps.length = m * c) := by unfold Hid; rw [pa2.1, pa3]
  obtain ⟨la, hla⟩ : ∃ la, ps.length = la := ⟨_, rfl⟩
  rw [hla] at M0 pa1 ⊢
  rw [hxl] at X0 ⊢
  obtain ⟨W0, hW⟩ : ∃ W0, w.alloc (matO m c (.slice aa la ca)) = W0 := ⟨_, rfl⟩
  obtain ⟨b0, sz0⟩ := alo1 w (matO m c (.slice aa la ca))
  rw [hW] at b0 sz0
  have pa : Cel W0 w.heap.size 39 (matc m c (.slice aa la ca)) := by rw [← hW]; exact Cel.new w _ _
  have PA := hid pa
  have HCK := hid (check_yes (M0.now b0))
  have P1 := hid (pa1.now b0)
  have P2 := hid (pa2.now b0)
  have P3 := hid pa3
  replace X0 := hid (X0.out.now b0)
  have x0 := pa.at (i := 0) rfl
  have x1 := pa.at (i := 1) rfl
  have x2 := pa.at (i := 2) rfl
  rw [← hW] at x0 x1 x2
  have G := hid b0
  have EW := hid hW
  have HK := hid hk
  have HXL := hid hxl
  have hmm : ((m : Int) != (m : Int)) = false := by simp
  clear M0 pa1 pa2 pa3 hx b0 sz0 hW pa hk hxl hla
  go_enter Try.func78, Try.ntmps78
  go_wp2_with fail
  rw [EW.out]
  clear EW x0 x1 x2
  refine HCK.out.mono ?_
  rintro e w1 ⟨rfl, b⟩
  replace PA := hid (PA.out.step b)
  replace P1 := hid (P1.out.now b)
  replace P2 := hid (P2.out.now b)
  replace X0 := hid (X0.out.now b)
  replace G := hid (below_step G.out b)
  have HC := hid (columnsOf_any P1.out HLA.out P2.out.isI hr hc)
  have x0 := PA.out.at (i := 0) rfl
  have x1 := PA.out.at (i := 1) rfl
  have x2 := PA.out.at (i := 2) rfl
  clear HCK b
  go_wp2_with fail
  clear x0 x1 x2
  refine HC.out.mono ?_
  rintro e w2 ⟨u, rfl, pr, b⟩
  replace X0 := hid (X0.out.now b)
  have ZS := hid (ziss_cols (P2.out.now b) P3.out)
  replace G := hid (below_step G.out b)
  have HD := hid (dotsA_any pr ZS.out X0.out (fun ys hy => by rw [HXL.out]; exact cols_len _ hy) (by rw [HXL.out]; exact HK.out))
  obtain ⟨au, cu, rfl, -, -, -⟩ := pr.form
  rw [HXL.out] at HD
  have EVL : Hid ((colsL m c ys 0).map (dotv xs) = vecL m c xs ys) := rfl
  rw [EVL.out] at HD
  have EL : Hid ((vecL m c xs ys).length = c) := vecL_length
  clear HC b P1 P2 X0 pr ZS EVL
  generalize vecL m c xs ys = RS at *
  generalize (colsL m c ps zpair).length = nc at *
  go_wp2_with fail
  refine HD.out.mono ?_
  rintro e w3 ⟨g, rfl, hg, hz, b⟩
  rw [EL.out]
  have FIN : Hid (ListO w c RS (k + l + m) (.returned (.tuple #[.slice (some ⟨g, 0, none⟩) c c, .int .i64 0])) w3) := ⟨g, rfl, Nat.le_trans G.out.size hg, hz, below_step G.out b⟩
  clear HD hg hz b EL G
  go_wp2
  go_ret2
  exact FIN.out
end Go.Proofs.Ytnpcfohimlfbdaa
