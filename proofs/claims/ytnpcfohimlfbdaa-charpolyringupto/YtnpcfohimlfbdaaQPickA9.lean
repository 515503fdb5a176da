/-
  PickA9: what Pick hands to each.
-/
import Derived.Test.YtnpcfohimlfbdaaQAj16ToInts9
namespace Go.Proofs.Ytnpcfohimlfbdaa
open Go.RowKit
set_option linter.unusedVariables false

/-- An entry of a list of lists. -/
def ent9 (zss : List (List Int)) (i j : Nat) : Int := (zss.getD i []).getD j 0
set_option maxHeartbeats 800000 in
set_option maxRecDepth 100000 in
theorem pick11_any {w : World} {B pb ib k i j : Nat} {v : Value} {pss : List (List (Value × Value))} {zss : List (List Int)} (hp : w.cell? ⟨pb, 0, none⟩ = some v) (hv : Prr B w v pss) (hz : Ziss w pss zss k) (hi : w.cell? ⟨ib, 0, none⟩ = some (.int .i64 (i : Int))) (hil : i < pss.length) (hjl : j < (zss.getD i []).length) :
    Calls Try.prog 71 #[.int .i64 (j : Int), .pointer (some ⟨pb, 0, none⟩), .pointer (some ⟨ib, 0, none⟩)] w (GivesZ w (ent9 zss i j) k) := by
  obtain ⟨W0, hW⟩ : ∃ W0, w.alloc zbox = W0 := ⟨_, rfl⟩
  obtain ⟨b0, sz0⟩ := alo1 w zbox
  rw [hW] at b0 sz0
  have P3 : Hid (Duo W0 w.heap.size (.bool false) (.slice none 0 0)) := by unfold Hid; rw [← hW]; exact Duo.new w _ _
  obtain ⟨a0, c0, rfl, hc0, hn0, hf0⟩ := hv.form
  obtain ⟨b1, o1, rfl⟩ := hf0 (fun e => by rw [e] at hil; simp at hil)
  have hpi : pss[i]? = some pss[i] := List.getElem?_eq_getElem hil
  obtain ⟨u, k0, pu⟩ := hv.at (i := i) hpi
  have hzl := zl_of pu (hz.2 i _ hpi)
  obtain ⟨a1, c1, rfl, hc1, hn1, hf1⟩ := hzl.form9
  obtain ⟨b2, o2, rfl⟩ := hf1 (fun e => by rw [e] at hjl; simp at hjl)
  obtain ⟨nf, xf, adf, qf, e0, e1, zf⟩ := hzl.at9 (i := j) hjl
  rw [getD_at] at zf
  have HS := hid (least_z (zf.now b0))
  have k1 : (w.alloc zbox).cell? ⟨pb, 0, none⟩ = some (.slice (some ⟨b1, o1, none⟩) pss.length c0) := by rw [hW]; exact cnow b0 hp
  have k2 : (w.alloc zbox).cell? ⟨ib, 0, none⟩ = some (.int .i64 (i : Int)) := by rw [hW]; exact cnow b0 hi
  have k3 : (w.alloc zbox).cell? ⟨b1, o1 + i, none⟩ = some (.slice (some ⟨b2, o2, none⟩) (zss.getD i []).length c1) := by rw [hW]; exact cnow b0 k0
  have k4 : (w.alloc zbox).cell? ⟨b2, o2 + j * 2, none⟩ = some (.bool nf) := by rw [hW]; exact cnow b0 e0
  have k5 : (w.alloc zbox).cell? ⟨b2, o2 + j * 2 + 1, none⟩ = some (.slice adf xf.length qf) := by rw [hW]; exact cnow b0 e1
  have hi' : (i : Int) < (pss.length : Int) := by omega
  have hj' : (j : Int) < ((zss.getD i []).length : Int) := by omega
  have G0 := hid b0
  have EW := hid hW
  have SZ := hid sz0
  have EE : Hid (ent9 zss i j = (zss.getD i []).getD j 0) := rfl
  rw [EE.out]
  clear b0 hW sz0 hp hv hz hi hf0 hf1 hpi k0 pu hzl e0 e1 zf EE
  generalize (zss.getD i []).getD j 0 = dd at *
  generalize (zss.getD i []).length = ln at *
  generalize pss.length = lp at *
  go_enter Try.func71, Try.ntmps71
  go_wp2_with fail
  rw [EW.out]
  refine HS.out.mono ?_
  rintro e w1 ⟨r, rfl, m1, b⟩
  obtain ⟨nr, xr, ar, cr, rfl⟩ := m1.parts
  have P31 := hid (P3.out.step b)
  have G1 := hid (below_step G0.out b)
  have HM := hid m1
  have HB : Hid (w.heap.size < W0.heap.size) := by unfold Hid; rw [SZ.out]; omega
  have r0 := P31.out.c0
  have r1 := P31.out.c1
  have f0 := P31.out.fz 0
  have f1 := P31.out.fz 1
  clear HS P3 G0 EW m1 b SZ k1 k2 k3 k4 k5
  go_wp2
  exact bodyPost_ret (zback Try.results71 (P31.out.set _ _) _ (by rfl)) rfl ⟨_, rfl, (HM.out.mono (Nat.le_of_lt HB.out)).box P31.out _ _, bset (bset G1.out (Nat.le_refl _)) (Nat.le_refl _)⟩

abbrev fnPick2 (pb ib : Nat) : Value := .func (.func 71) #[] #[.pointer (some ⟨pb, 0, none⟩), .pointer (some ⟨ib, 0, none⟩)]
set_option maxHeartbeats 1600000 in
set_option maxRecDepth 100000 in
theorem eachPick2_any {w : World} {B pb ib k i : Nat} {v jv : Value} {pss : List (List (Value × Value))} {zss : List (List Int)} {js : List Nat} (hj : In9 w jv (js.map (fun n : Nat => (n : Int)))) (hp : w.cell? ⟨pb, 0, none⟩ = some v) (hv : Prr B w v pss) (hz : Ziss w pss zss k) (hi : w.cell? ⟨ib, 0, none⟩ = some (.int .i64 (i : Int))) (hil : i < pss.length) (hjl : ∀ j ∈ js, j < (zss.getD i []).length) :
    Calls Try.prog 70 #[jv, fnPick2 pb ib] w (Listed w (js.map (ent9 zss i)) k) := by
  have J0 := hid hj
  have V0 := hid hv
  have Z0 := hid hz
  have P0 := hid hp
  have I0 := hid hi
  have HIL := hid hil
  have HJL : Hid (∀ j (h : j < js.length), js[j] < (zss.getD i []).length) := fun j h => hjl _ (List.getElem_mem h)
  have HMP : Hid (js.map (ent9 zss i) = (List.range js.length).map fun j => ent9 zss i (js.getD j 0)) := by
    unfold Hid
    apply List.ext_getElem
    · simp
    · intro j h1 h2
      simp at h1
      simp [h1]
  obtain ⟨a0, c0, rfl, hc0, hn0, hf0⟩ := hj.form
  obtain ⟨n, hn⟩ : ∃ n, js.length = n := ⟨_, rfl⟩
  rw [List.length_map, hn] at J0 hc0 hn0 ⊢
  rw [hn] at HMP
  have HN := hid hn
  have F0 := hid hf0
  clear hj hv hz hp hi hil hjl hf0 hn
  generalize js.map (ent9 zss i) = RS at *
  go_enter Try.func70, Try.ntmps70
  go_wp2_with (at_make; refine wpList_make_pairs9 _ rfl _ _ rfl _ _ n n rfl rfl rfl rfl (Nat.le_refl _) (by omega) ?_)
  intro w1 hrow hb1 hsz1
  have H0 : Hid (EachH w w.heap.size n (fun j => ent9 zss i (js.getD j 0)) k n (.int .i64 0) w1) := ⟨0, rfl, Nat.zero_le _, by omega, Fil.start hrow _ _, hb1⟩
  clear hrow hb1 hsz1
  go_wp2_with fail
  go_loopg [13] n (fun gk s13 wx => EachH w w.heap.size n (fun j => ent9 zss i (js.getD j 0)) k gk s13 wx)
  case atStart => exact H0.out
  case round =>
    clear H0
    obtain ⟨t, rfl, hin, hg, hfil, hG⟩ := hrel
    have FI := hid hfil
    have G := hid hG
    have HG := hid hg
    clear hfil hG hg
    by_cases hlt : t < n
    · have hlt' : (t : Int) < (n : Int) := by omega
      obtain ⟨b1, o1, rfl⟩ := F0.out (fun e => by have := HN.out; simp at e; rw [e] at this; simp at this; omega)
      have ht : t < js.length := by rw [HN.out]; exact hlt
      have k0 := (J0.out.now G.out).at (i := t) (by rw [List.length_map]; exact ht)
      rw [List.getElem_map] at k0
      have HS := hid (pick11_any (cnow G.out P0.out) (V0.out.now G.out) (Z0.out.now G.out) (cnow G.out I0.out) HIL.out (HJL.out t ht))
      have ej : js[t] = js.getD t 0 := by simp [ht]
      rw [ej] at k0 HS
      have hw := wrapI9 (i := t) (by omega)
      clear ej ht
      generalize hjt : js.getD t 0 = jt at *
      have HJT := hid hjt
      clear hjt
      go_wp2_with fail
      refine HS.out.mono ?_
      rintro e w1 ⟨r, rfl, m1, b⟩
      have FI1 := hid (FI.out.step b)
      have G1 := hid (below_step G.out b)
      have M1 := hid m1.zc
      obtain ⟨nr, xr, ar, cr, rfl⟩ := m1.parts
      obtain ⟨m0, am, lm, cm, e0, e1, e2, e3⟩ := FI1.out.cells hlt
      have HN1 : Hid (EachH w w.heap.size n (fun j => ent9 zss i (js.getD j 0)) k (n - (t + 1)) (.int .i64 ((t + 1 : Nat) : Int)) ((w1.setCell ⟨w.heap.size, t * 2, none⟩ (.bool nr)).setCell ⟨w.heap.size, t * 2 + 1, none⟩ (.slice ar xr.length cr))) :=
        ⟨t + 1, rfl, by omega, rfl, FI1.out.put hlt (by rw [HJT.out]; exact M1.out), bset (bset G1.out (Nat.le_refl _)) (Nat.le_refl _)⟩
      have HMM : Hid (n - (t + 1) < gk) := by unfold Hid; rw [HG.out]; omega
      clear HS FI G HG FI1 G1 M1 m1 b k0 HJT
      go_wp2_with fail
      go_roundg (n - (t + 1))
      case rel => exact HN1.out
      case measure => exact HMM.out
    · have hlt' : ¬ (t : Int) < (n : Int) := by omega
      obtain rfl : t = n := by omega
      obtain ⟨ps, p1, p2⟩ := FI.out.done (B := w.heap.size) (Nat.le_refl _) (by omega)
      rw [← HMP.out] at p2
      have FIN : Hid (Listed w RS k (.returned (.slice (some ⟨w.heap.size, 0, none⟩) t t)) wr) := ⟨_, ps, rfl, p1, p2, G.out⟩
      clear FI G HG p1 p2
      go_wp2
      go_ret
      exact FIN.out
set_option maxHeartbeats 800000 in
set_option maxRecDepth 100000 in
theorem pick1_any {w : World} {B pb cb k i : Nat} {v jv : Value} {pss : List (List (Value × Value))} {zss : List (List Int)} {js : List Nat} (hc : w.cell? ⟨cb, 0, none⟩ = some jv) (hj : In9 w jv (js.map (fun n : Nat => (n : Int)))) (hp : w.cell? ⟨pb, 0, none⟩ = some v) (hv : Prr B w v pss) (hz : Ziss w pss zss k) (hil : i < pss.length) (hjl : ∀ j ∈ js, j < (zss.getD i []).length) :
    Calls Try.prog 69 #[.int .i64 (i : Int), .pointer (some ⟨cb, 0, none⟩), .pointer (some ⟨pb, 0, none⟩)] w (Listed w (js.map (ent9 zss i)) k) := by
  obtain ⟨W0, hW⟩ : ∃ W0, w.alloc (.cells #[.int .i64 (i : Int)] 3) = W0 := ⟨_, rfl⟩
  obtain ⟨b0, sz0⟩ := alo1 w (.cells #[.int .i64 (i : Int)] 3)
  rw [hW] at b0 sz0
  have hi : W0.cell? ⟨w.heap.size, 0, none⟩ = some (.int .i64 (i : Int)) := by rw [← hW]; exact (Cel.new w 3 [.int .i64 (i : Int)]).at (i := 0) rfl
  have HC := hid (eachPick2_any (hj.now b0) (cnow b0 hp) (hv.now b0) (hz.now b0) hi hil hjl)
  obtain ⟨a0, c0, rfl, -, -, -⟩ := hj.form
  have k0 : (w.alloc (.cells #[.int .i64 (i : Int)] 3)).cell? ⟨cb, 0, none⟩ = some (.slice a0 (js.map (fun n : Nat => (n : Int))).length c0) := by rw [hW]; exact cnow b0 hc
  have G0 := hid b0
  have EW := hid hW
  clear hc hj hp hv hz hil hjl b0 hW sz0 hi
  generalize js.map (ent9 zss i) = RS at *
  generalize (js.map (fun n : Nat => (n : Int))).length = lj at *
  go_enter Try.func69, Try.ntmps69
  go_wp2_with fail
  rw [EW.out]
  refine HC.out.mono ?_
  rintro e w1 ⟨u, ps, rfl, p1, p2, b⟩
  have FIN : Hid (Listed w RS k (.returned u) w1) := ⟨u, ps, rfl, p1.mono G0.out.size, p2, below_step G0.out b⟩
  clear HC G0 EW p1 p2 b k0
  go_wp2
  go_ret
  exact FIN.out
end Go.Proofs.Ytnpcfohimlfbdaa
