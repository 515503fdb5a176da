/-
  Prod9: rows by columns: product.
-/
import Derived.Test.YtachdicdfhfoaaaQCols9
namespace Go.Proofs.Ytachdicdfhfoaaa
open Go.RowKit
set_option linter.unusedVariables false

def Zcss (w : World) (pss : List (List (Value × Value))) (zss : List (List Int)) (k : Nat) : Prop := pss.length = zss.length ∧ ∀ (j : Nat) (ps : List (Value × Value)), pss[j]? = some ps → Zcs w ps (zss.getD j []) k
theorem Zcs.append {w : World} {ps qs : List (Value × Value)} {zs ys : List Int} {k : Nat} (h : Zcs w ps zs k) (h' : Zcs w qs ys k) : Zcs w (ps ++ qs) (zs ++ ys) k := by
  refine ⟨by simp [h.1, h'.1], fun j p z hp hz => ?_⟩
  by_cases q : j < ps.length
  · rw [List.getElem?_append_left q] at hp
    rw [List.getElem?_append_left (by rw [← h.1]; exact q)] at hz
    exact h.2 j p z hp hz
  · rw [List.getElem?_append_right (by omega)] at hp
    rw [List.getElem?_append_right (by rw [← h.1]; omega), ← h.1] at hz
    exact h'.2 _ p z hp hz
theorem Zcss.flat {w : World} {k : Nat} : ∀ {pss : List (List (Value × Value))} {zss : List (List Int)}, Zcss w pss zss k → Zcs w pss.flatten zss.flatten k
  | [], [], _ => ⟨rfl, fun j p z hp => by simp at hp⟩
  | [], z :: zss, h => by have := h.1; simp at this
  | p :: pss, [], h => by have := h.1; simp at this
  | p :: pss, z :: zss, h => by
    have h1 := h.2 0 p rfl
    have h2 : Zcss w pss zss k := ⟨by have := h.1; simpa using this, fun j ps hp => by simpa using h.2 (j + 1) ps (by simpa using hp)⟩
    simpa using Zcs.append h1 (Zcss.flat h2)
theorem Zcss.now {w w' : World} {pss : List (List (Value × Value))} {zss : List (List Int)} {k : Nat} (h : Zcss w pss zss k) (hb : Below w.heap.size w w') : Zcss w' pss zss k := ⟨h.1, fun j ps hp => (h.2 j ps hp).now hb⟩
theorem Zis.isI {w : World} {ps : List (Value × Value)} {zs : List Int} {k : Nat} (h : Zis w ps zs k) : ∀ p ∈ ps, IsI p := fun p hp => by
  obtain ⟨j, hj, e⟩ := List.getElem_of_mem hp
  have h1 : ps[j]? = some p := by rw [List.getElem?_eq_getElem hj, e]
  have h2 : zs[j]? = some (zs[j]'(by rw [← h.1]; exact hj)) := List.getElem?_eq_getElem _
  exact (h.2 j p _ h1 h2).isI
def Gridded (w : World) (zss : List (List Int)) (k : Nat) (e : Ending) (w' : World) : Prop := ∃ u pss, e = .returned u ∧ Prr w.heap.size w' u pss ∧ Zcss w' pss zss k ∧ Below w.heap.size w w'
theorem filR_grid {w : World} {g n B k : Nat} {zss : List (List Int)} (h : FilR w g n n (fun j u => ∃ ps, Prs B w u ps ∧ Zcs w ps (zss.getD j []) k)) (hl : zss.length = n) (hn : n ≤ 1048576) : ∃ pss, Prr B w (.slice (some ⟨g, 0, none⟩) n n) pss ∧ Zcss w pss zss k := by
  have h0 := h
  obtain ⟨vs, h1, h2, hw, h3⟩ := h
  obtain ⟨q, hq⟩ := Deep.choose_lt (α := List (Value × Value)) (n := n) (p := fun j ps => ∀ u, vs[j]? = some u → Prs B w u ps ∧ Zcs w ps (zss.getD j []) k) (fun j hj => by
    obtain ⟨ps, p1, p2⟩ := h3 j _ hj (List.getElem?_eq_getElem (by omega))
    refine ⟨ps, fun u hu => ?_⟩
    rw [List.getElem?_eq_getElem (by omega), Option.some.injEq] at hu
    rw [← hu]
    exact ⟨p1, p2⟩)
  have key : ∀ j ps, ((List.range n).map q)[j]? = some ps → j < n ∧ ps = q j := fun j ps hp => by
    have hj : j < n := by simpa using (List.getElem?_eq_some_iff.1 hp).1
    rw [List.getElem?_map, List.getElem?_range hj] at hp
    exact ⟨hj, by simpa using hp.symm⟩
  have hv : ∀ j (hj : j < n), vs[j]? = some (vs[j]'(by omega)) := fun j hj => List.getElem?_eq_getElem (by omega)
  refine ⟨(List.range n).map q, ⟨some ⟨g, 0, none⟩, n, by simp, by simp, by simpa using hn, .inr ⟨g, 0, rfl, h1.blk, fun j ps hp => ?_⟩⟩, by simp [hl], fun j ps hp => ?_⟩
  · obtain ⟨hj, rfl⟩ := key j ps hp
    exact ⟨_, by rw [Nat.zero_add]; exact h1.at (hv j hj), (hq j hj _ (hv j hj)).1⟩
  · obtain ⟨hj, rfl⟩ := key j ps hp
    exact (hq j hj _ (hv j hj)).2
set_option maxHeartbeats 1600000 in
set_option maxRecDepth 100000 in
theorem product1_any {w : World} {B pb k l : Nat} {cv xv : Value} {pss : List (List (Value × Value))} {zss : List (List Int)} {xs : List Int} (hp : w.cell? ⟨pb, 0, none⟩ = some cv) (hv : Prr B w cv pss) (hz : Ziss w pss zss l) (hx : Zl w xv xs k) (he : ∀ ys ∈ zss, ys.length = xs.length) (hk : k + l + xs.length < 35184372088832) :
    Calls Try.prog 75 #[xv, .pointer (some ⟨pb, 0, none⟩)] w (Listed w (zss.map (dotv xs)) (k + l + xs.length)) := by
  have HC := hid (dots_any hv hz hx he hk)
  obtain ⟨a1, c1, rfl, -, -, -⟩ := hx.form9
  obtain ⟨a0, c0, rfl, -, -, -⟩ := hv.form
  clear hv hz hx he hk
  generalize zss.map (dotv xs) = RS at *
  generalize k + l + xs.length = kk at *
  go_enter Try.func75, Try.ntmps75
  go_wp2_with fail
  refine HC.out.mono ?_
  rintro e w1 ⟨u, ps, rfl, p1, p2, b⟩
  have FIN : Hid (Listed w RS kk (.returned u) w1) := ⟨u, ps, rfl, p1, p2, b⟩
  clear HC p1 p2 b
  go_wp2
  go_ret
  exact FIN.out
abbrev fnProd (pb : Nat) : Value := .func (.func 75) #[] #[.pointer (some ⟨pb, 0, none⟩)]
def GridH (w : World) (g n k : Nat) (zss : List (List Int)) (gk : Nat) (s : Value) (wx : World) : Prop :=
  ∃ i : Nat, s = .int .i64 (i : Int) ∧ i ≤ n ∧ gk = n - i ∧ FilR wx g n i (fun j u => ∃ ps, Prs (g + 1) wx u ps ∧ Zcs wx ps (zss.getD j []) k) ∧ Below w.heap.size w wx
set_option maxHeartbeats 1600000 in
set_option maxRecDepth 100000 in
theorem eachRows_any {w : World} {B B' pb k l m : Nat} {v cv : Value} {pss qss : List (List (Value × Value))} {zss yss : List (List Int)} (hv : Prr B w v pss) (hz : Ziss w pss zss k) (hp : w.cell? ⟨pb, 0, none⟩ = some cv) (hc : Prr B' w cv qss) (hy : Ziss w qss yss l) (he : ∀ ys ∈ yss, ys.length = m) (hm : ∀ xs ∈ zss, xs.length = m) (hk : k + l + m < 35184372088832) :
    Calls Try.prog 74 #[v, fnProd pb] w (Gridded w (zss.map fun xs => yss.map (dotv xs)) (k + l + m)) := by
  have V0 := hid hv
  have Z0 := hid hz
  have C0 := hid hp
  have D0 := hid hc
  have Y0 := hid hy
  have HE := hid he
  have HXM : Hid (∀ j, j < zss.length → (zss.getD j []).length = m) := fun j hj => by
    have e : zss.getD j [] = zss[j] := by simp [hj]
    rw [e]
    exact hm _ (List.getElem_mem hj)
  have HK := hid hk
  obtain ⟨RS, hRS⟩ : ∃ RS, (zss.map fun xs => yss.map (dotv xs)) = RS := ⟨_, rfl⟩
  have HR : Hid (∀ j, j < zss.length → RS.getD j [] = yss.map (dotv (zss.getD j []))) := fun j hj => by rw [← hRS]; simp [hj]
  have HRL : Hid (RS.length = zss.length) := by unfold Hid; rw [← hRS]; simp
  rw [hRS]
  obtain ⟨a0, c0, rfl, hc0, hn0, hf0⟩ := hv.form
  obtain ⟨n, hn⟩ : ∃ n, pss.length = n := ⟨_, rfl⟩
  have hzl := hz.1
  rw [hn] at V0 hc0 hn0 hzl ⊢
  rw [← hzl] at HR HXM HRL
  have HN := hid hn
  have F0 := hid hf0
  clear hv hz hp hc hy he hm hk hf0 hn hzl hRS
  go_enter Try.func74, Try.ntmps74
  go_wp2_with (at_make; refine wpList_make_rows _ rfl _ _ rfl _ _ n n rfl rfl rfl rfl (Nat.le_refl _) (by omega) ?_)
  intro w1 hrow hb1 hsz1
  have H0 : Hid (GridH w w.heap.size n (k + l + m) RS n (.int .i64 0) w1) := ⟨0, rfl, Nat.zero_le _, by omega, FilR.start hrow _, hb1⟩
  clear hrow hb1 hsz1
  go_wp2_with fail
  go_loopg [13] n (fun gk s13 wx => GridH w w.heap.size n (k + l + m) RS gk s13 wx)
  case atStart => exact H0.out
  case round =>
    clear H0
    obtain ⟨i, rfl, hin, hg, hfil, hG⟩ := hrel
    have FI := hid hfil
    have G := hid hG
    have HG := hid hg
    clear hfil hG hg
    by_cases hlt : i < n
    · have hlt' : (i : Int) < (n : Int) := by omega
      obtain ⟨b1, o1, rfl⟩ := F0.out (fun e => by have := HN.out; rw [e] at this; simp at this; omega)
      have hpi : pss[i]? = some (pss[i]'(by rw [HN.out]; exact hlt)) := List.getElem?_eq_getElem (by rw [HN.out]; exact hlt)
      obtain ⟨u, k0, pu⟩ := (V0.out.now G.out).at (i := i) hpi
      have HS := hid (product1_any (cnow G.out C0.out) (D0.out.now G.out) (Y0.out.now G.out) (zl_of pu ((Z0.out.2 i _ hpi).now G.out)) (fun ys hys => by rw [HXM.out i hlt]; exact HE.out ys hys) (by rw [HXM.out i hlt]; exact HK.out))
      rw [HXM.out i hlt, ← HR.out i hlt] at HS
      obtain ⟨au, cu, rfl, -, -, -, -⟩ := pu.form
      have hw := wrapI9 (i := i) (by omega)
      clear hpi pu
      go_wp2_with fail
      refine HS.out.mono ?_
      rintro e w1 ⟨r, ps, rfl, p1, p2, b⟩
      have FI1 : Hid (FilR w1 w.heap.size n i (fun j u => ∃ ps, Prs (w.heap.size + 1) w1 u ps ∧ Zcs w1 ps (RS.getD j []) (k + l + m))) := FI.out.step b (fun j u _ ⟨ps, q1, q2⟩ => ⟨ps, q1.now b, q2.now b⟩)
      have G1 := hid (below_step G.out b)
      have M1 := hid (p1.mono (show w.heap.size + 1 ≤ wr.heap.size by have := FI.out.blk; omega))
      have M2 := hid p2
      obtain ⟨ar, cr, rfl, -, -, -, -⟩ := p1.form
      obtain ⟨u0, e0, e1⟩ := FI1.out.cells hlt
      have HN1 : Hid (GridH w w.heap.size n (k + l + m) RS (n - (i + 1)) (.int .i64 ((i + 1 : Nat) : Int)) (w1.setCell ⟨w.heap.size, i, none⟩ (.slice ar ps.length cr))) :=
        ⟨i + 1, rfl, by omega, rfl, FI1.out.put hlt (fun j u _ ⟨qs, q1, q2⟩ => ⟨qs, q1.off (Nat.lt_succ_self _), q2.wk (FI1.out.wk hlt _)⟩) ⟨ps, M1.out.off (Nat.lt_succ_self _), M2.out.wk (FI1.out.wk hlt _)⟩ (noS _ _ _), bset G1.out (Nat.le_refl _)⟩
      have HMM : Hid (n - (i + 1) < gk) := by unfold Hid; rw [HG.out]; omega
      clear HS FI G HG FI1 G1 M1 M2 p1 p2 b k0
      go_wp2_with fail
      go_roundg (n - (i + 1))
      case rel => exact HN1.out
      case measure => exact HMM.out
    · have hlt' : ¬ (i : Int) < (n : Int) := by omega
      obtain rfl : i = n := by omega
      obtain ⟨qs, q1, q2⟩ := filR_grid FI.out HRL.out hn0
      have FIN : Hid (Gridded w RS (k + l + m) (.returned (.slice (some ⟨w.heap.size, 0, none⟩) i i)) wr) := ⟨_, qs, rfl, q1.mono (Nat.le_succ _), q2, G.out⟩
      clear FI G HG q1 q2
      go_wp2
      go_ret
      exact FIN.out
end Go.Proofs.Ytachdicdfhfoaaa
