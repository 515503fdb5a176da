/-
  QAwake10ToRows9: Awake10, Rows9, joined.
-/
import Derived.Test.YtachdicdfhfoaaaQSet10
import Derived.Test.YtachdicdfhfoaaaQDot9

/- Awake10 -/
namespace Go.Proofs.Ytachdicdfhfoaaa
open Go.RowKit Go.ChangeMaps Go.MapKept
set_option linter.unusedVariables false

theorem below_grown {w W w' : World} {b : Nat} (h : Below w.heap.size w W) (hg : W.grownBy w' (some b)) (hb : w.heap.size ≤ b) : Below w.heap.size w w' :=
  ⟨hg.os.trans h.os, hg.tape.trans h.tape, hg.output.trans h.output, Nat.le_trans h.size hg.size, fun i hi => (hg.block i (Nat.lt_of_lt_of_le hi h.size) (fun e => by simp at e; omega)).trans (h.block i hi)⟩
theorem nm_none (w : World) (k : Nat) : Nm w (fun _ => Option.none) (fun _ _ => 0) k := fun i j => .inl ⟨rfl, rfl⟩
theorem five_is {zs : List Int} {n : Bool} (hc : Canon zs) (h : iv n zs = 5) : zs = [5] := by
  have h0 := val_nonneg hc.1
  cases n
  · rw [iv_pos] at h
    exact canon_inj hc ⟨wf_word (by omega) WF.nil, by decide⟩ (by rw [h]; decide)
  · rw [iv_neg] at h
    omega
set_option maxHeartbeats 3200000 in
set_option maxRecDepth 100000 in
theorem awake10 (w : World) : Calls Try.prog 6 #[] w (Says w (.bool true)) := by
  go_enter Try.func6, Try.ntmps6
  go_wp2_with fail
  refine (new_small (w := w) (r := 2) (c := 3) (by decide) (by decide)).mono ?_
  rintro e w1 ⟨g, b, rfl, hg, hm, hgg, hbb, b1⟩
  have HG := hid hg
  have HM := hid hm
  have HB := hid hbb
  have G := hid b1
  clear hg hm hgg hbb b1
  obtain ⟨V1, hV⟩ : ∃ V1, w1.alloc (.cells #[.int .u64 5] 62) = V1 := ⟨_, rfl⟩
  have sl : Sl V1.heap.size V1 (.slice (some ⟨w1.heap.size, 0, none⟩) 1 1) [5] := by
    rw [← hV]
    have := Row.new_sl w1 [5] (wf_word (by omega) WF.nil) (by decide)
    simpa [ws] using this
  have bV : Below w1.heap.size w1 V1 := by rw [← hV]; exact (Below.refl _ _).alloc (Nat.le_refl _) _
  have ZI : Hid (Zi V1 (.agg #[.bool false, .slice (some ⟨w1.heap.size, 0, none⟩) 1 1]) 5 1) := ⟨false, [5], _, _, rfl, sl, by decide, by decide⟩
  replace HG := hid (HG.out.now bV)
  replace HM := hid (HM.out.now bV)
  replace G := hid (below_step G.out bV)
  have EV := hid hV
  clear hV sl bV
  go_wp2_with fail
  rw [EV.out]
  refine (set_new (i := 1) (j := 2) (k := 1) HG.out HM.out (nm_none _ _) (by unfold maxLen; omega) (by decide) (by decide) ZI.out rfl (by decide) (by decide)).mono ?_
  rintro e w2 ⟨f', rfl, hm, hf, -, hgr⟩
  have q1 : putN ((fun _ => Option.none : Nat × Nat → Option Value) (1, 2)) 5 0 = 1 := by decide
  rw [q1] at hm
  replace HG := hid (HG.out.cl (HM.out.cl hgr))
  replace G := hid (below_grown G.out hgr HB.out)
  replace HM := hid hm
  have HF := hid hf
  clear hm hf hgr q1 EV ZI
  go_wp2_with fail
  refine (get_any (i := 1) (j := 2) HG.out HM.out HF.out (by decide) (by decide)).mono ?_
  rintro e w3 ⟨v, rfl, m3, b3⟩
  have q2 : setF (fun _ _ => 0) (1, 2) 5 1 2 = 5 := by decide
  rw [q2] at m3
  obtain ⟨n, zs, a, c, rfl, hmine, hcan, -, hiv, -⟩ := m3
  obtain rfl := five_is hcan hiv
  replace HG := hid (HG.out.now b3)
  replace HM := hid (HM.out.now b3)
  replace G := hid (below_step G.out b3)
  have SL := hid hmine.sl
  clear b3 hmine hcan hiv q2 HF
  obtain ⟨V2, hV⟩ : ∃ V2, w3.alloc (duo (.bool n) (.slice a 1 c)) = V2 := ⟨_, rfl⟩
  have PD : Duo V2 w3.heap.size (.bool n) (.slice a 1 c) := by rw [← hV]; exact heap_alloc_new w3 _
  have bV : Below w3.heap.size w3 V2 := by rw [← hV]; exact (Below.refl _ _).alloc (Nat.le_refl _) _
  replace HG := hid (HG.out.now bV)
  replace HM := hid (HM.out.now bV)
  replace G := hid (below_step G.out bV)
  replace SL := hid (SL.out.now bV)
  have EV := hid hV
  have y1 := PD.c1
  clear PD bV hV
  go_wp2_with fail
  rw [EV.out]
  refine (len_any HG.out HM.out).mono ?_
  rintro e w4 ⟨rfl, hw4⟩
  have hw5 := hw4.symm
  subst hw5
  obtain ⟨V3, hV⟩ : ∃ V3, V2.alloc (.cells #[.int .u64 5] 62) = V3 := ⟨_, rfl⟩
  have sl : Sl V3.heap.size V3 (.slice (some ⟨V2.heap.size, 0, none⟩) 1 1) [5] := by
    rw [← hV]
    have := Row.new_sl V2 [5] (wf_word (by omega) WF.nil) (by decide)
    simpa [ws] using this
  have bV : Below V2.heap.size V2 V3 := by rw [← hV]; exact (Below.refl _ _).alloc (Nat.le_refl _) _
  replace SL := hid (SL.out.now bV)
  replace G := hid (below_step G.out bV)
  have EV3 := hid hV
  have SL2 := hid sl
  clear sl bV hV hw4 HG HM EV
  go_wp2_with fail
  rw [EV3.out]
  refine (same_any SL.out SL2.out).mono ?_
  rintro e w5 ⟨rfl, nn, rfl⟩
  rw [same_self]
  have FIN : Hid (Says w (.bool true) (.returned (.bool true)) (V3.drewN nn)) := ⟨rfl, below_drewN G.out nn⟩
  clear SL SL2 G EV3
  go_wp2
  go_ret
  exact FIN.out
end Go.Proofs.Ytachdicdfhfoaaa

/- Rows9 -/
namespace Go.Proofs.Ytachdicdfhfoaaa
open Go.RowKit
set_option linter.unusedVariables false

/-- A list of lists of pairs; the inner ones lie from block B on. -/
def Prr (B : Nat) (w : World) (v : Value) (pss : List (List (Value × Value))) : Prop :=
  ∃ a c, v = .slice a pss.length c ∧ pss.length ≤ c ∧ pss.length ≤ 1048576 ∧ (pss = [] ∨ ∃ b off, a = some ⟨b, off, none⟩ ∧ b < w.heap.size ∧ ∀ (j : Nat) (ps : List (Value × Value)), pss[j]? = some ps → ∃ u, w.cell? ⟨b, off + j, none⟩ = some u ∧ Prs B w u ps)
theorem Prr.now {B : Nat} {w w' : World} {v : Value} {pss : List (List (Value × Value))} (h : Prr B w v pss) (hb : Below w.heap.size w w') : Prr B w' v pss := by
  obtain ⟨a, c, h1, h2, h3, h4⟩ := h
  refine ⟨a, c, h1, h2, h3, ?_⟩
  rcases h4 with h4 | ⟨b, off, h5, h6, h7⟩
  · exact .inl h4
  · refine .inr ⟨b, off, h5, Nat.lt_of_lt_of_le h6 hb.size, fun j ps hp => ?_⟩
    obtain ⟨u, q1, q2⟩ := h7 j ps hp
    exact ⟨u, (hb.cell (p := ⟨b, off + j, none⟩) h6).trans q1, q2.now hb⟩
theorem Prr.form {B : Nat} {w : World} {v : Value} {pss : List (List (Value × Value))} (h : Prr B w v pss) : ∃ a c, v = .slice a pss.length c ∧ pss.length ≤ c ∧ pss.length ≤ 1048576 ∧ (pss ≠ [] → ∃ b off, a = some ⟨b, off, none⟩) := by
  obtain ⟨a, c, h1, h2, h3, h4⟩ := h
  refine ⟨a, c, h1, h2, h3, fun hne => ?_⟩
  rcases h4 with h4 | ⟨b, off, h5, h6, h7⟩
  · exact absurd h4 hne
  · exact ⟨b, off, h5⟩
theorem Prr.at {B : Nat} {w : World} {b off l c : Nat} {pss : List (List (Value × Value))} (h : Prr B w (.slice (some ⟨b, off, none⟩) l c) pss) {i : Nat} {ps : List (Value × Value)} (hi : pss[i]? = some ps) : ∃ u, w.cell? ⟨b, off + i, none⟩ = some u ∧ Prs B w u ps := by
  obtain ⟨a', c', h1, h2, h3, h4⟩ := h
  rcases h4 with h4 | ⟨b', off', h5, h6, h7⟩
  · subst h4; simp at hi
  · simp only [Value.slice.injEq] at h1
    obtain ⟨rfl, -, -⟩ := h1
    simp only [Option.some.injEq, Addr.mk.injEq, and_true] at h5
    obtain ⟨rfl, rfl⟩ := h5
    exact h7 i ps hi
theorem Prr.mono {B B' : Nat} {w : World} {v : Value} {pss : List (List (Value × Value))} (h : Prr B w v pss) (hB : B' ≤ B) : Prr B' w v pss := by
  obtain ⟨a, c, h1, h2, h3, h4⟩ := h
  refine ⟨a, c, h1, h2, h3, ?_⟩
  rcases h4 with h4 | ⟨b, off, h5, h6, h7⟩
  · exact .inl h4
  · refine .inr ⟨b, off, h5, h6, fun j ps hp => ?_⟩
    obtain ⟨u, q1, q2⟩ := h7 j ps hp
    exact ⟨u, q1, q2.mono hB⟩
/-- A row of slices that a loop fills. -/
def FilR (wx : World) (g n i : Nat) (P : Nat → Value → Prop) : Prop := ∃ vs, RowL9 wx g vs ∧ vs.length = n ∧ (∀ u ∈ vs, NoW u) ∧ ∀ (j : Nat) (u : Value), j < i → vs[j]? = some u → P j u
theorem FilR.start {w : World} {g n : Nat} (h : RowL9 w g (List.replicate n (.slice none 0 0))) (P : Nat → Value → Prop) : FilR w g n 0 P := ⟨_, h, by simp, (fun u hu => by rw [List.eq_of_mem_replicate hu]; exact noS _ _ _), fun j u hj => by omega⟩
theorem FilR.step {w w' : World} {g n i : Nat} {P P' : Nat → Value → Prop} (h : FilR w g n i P) (hb : Below w.heap.size w w') (hP : ∀ j u, j < i → P j u → P' j u) : FilR w' g n i P' := by
  obtain ⟨vs, h1, h2, hw, h3⟩ := h
  exact ⟨vs, h1.step hb, h2, hw, fun j u hj hu => hP j u hj (h3 j u hj hu)⟩
theorem FilR.put {w : World} {g n i : Nat} {P P' : Nat → Value → Prop} {x : Value} (h : FilR w g n i P) (hi : i < n) (hP : ∀ j u, j < i → P j u → P' j u) (hx : P' i x) (hn : NoW x) : FilR (w.setCell ⟨g, i, none⟩ x) g n (i + 1) P' := by
  obtain ⟨vs, h1, h2, hw, h3⟩ := h
  refine ⟨vs.set i x, h1.set i x, by simpa using h2, (fun u hu => by
    rcases List.mem_or_eq_of_mem_set hu with q | rfl
    · exact hw u q
    · exact hn), fun j u hj hu => ?_⟩
  by_cases q : j = i
  · subst q
    rw [List.getElem?_set_self (by omega), Option.some.injEq] at hu
    subst hu
    exact hx
  · rw [List.getElem?_set_ne (by omega)] at hu
    exact hP j u (by omega) (h3 j u (by omega) hu)
theorem FilR.blk {w : World} {g n i : Nat} {P : Nat → Value → Prop} (h : FilR w g n i P) : g < w.heap.size := by
  obtain ⟨vs, h1, h2, hw, h3⟩ := h
  exact h1.blk
theorem FilR.wk {w : World} {g n i j : Nat} {P : Nat → Value → Prop} (h : FilR w g n i P) (hj : j < n) (x : Value) : Wk w (w.setCell ⟨g, j, none⟩ x) := by
  obtain ⟨vs, h1, h2, hw, h3⟩ := h
  exact h1.wk (List.getElem?_eq_getElem (by omega)) (hw _ (List.getElem_mem (l := vs) (n := j) (by omega))) x
theorem FilR.cells {w : World} {g n i j : Nat} {P : Nat → Value → Prop} (h : FilR w g n i P) (hj : j < n) : ∃ u, w.cell? ⟨g, j, none⟩ = some u ∧ w.frozen? ⟨g, j, none⟩ = false := by
  obtain ⟨vs, h1, h2, hw, h3⟩ := h
  exact ⟨vs[j]'(by omega), h1.at (List.getElem?_eq_getElem (by omega)), h1.fz _⟩
theorem FilR.done {w : World} {g n B : Nat} {pss : List (List (Value × Value))} {P : Nat → Value → Prop} (h : FilR w g n n P) (hn : n ≤ 1048576) (hl : pss.length = n) (hP : ∀ j u ps, P j u → pss[j]? = some ps → Prs B w u ps) : Prr B w (.slice (some ⟨g, 0, none⟩) n n) pss := by
  obtain ⟨vs, h1, h2, hw, h3⟩ := h
  refine ⟨_, _, by rw [hl], by omega, by omega, .inr ⟨g, 0, rfl, h1.blk, fun j ps hp => ?_⟩⟩
  have hj : j < n := by have := (List.getElem?_eq_some_iff.1 hp).1; omega
  have hv : vs[j]? = some (vs[j]'(by omega)) := List.getElem?_eq_getElem (by omega)
  refine ⟨_, ?_, hP j _ ps (h3 j _ hj hv) hp⟩
  rw [Nat.zero_add]
  exact h1.at hv

theorem slice_mid (w : World) (b off n c lo hi : Nat) (h : lo ≤ hi) (h1 : hi ≤ c) (h2 : lo < c) : (Instr.slice 22 (.slice (some ⟨b, off, none⟩) n c) (some (.int .i64 (lo : Int))) (some (.int .i64 (hi : Int))) none).run Try.prog w = .ok (.slice (some ⟨b, off + 2 * lo, none⟩) (hi - lo) (c - lo)) w := by
  have i3 : (lo : Int) ≤ (hi : Int) := by omega
  have i1 : (0 : Int) ≤ (lo : Int) := by omega
  have i2 : (0 : Int) ≤ (hi : Int) := by omega
  have i5 : (hi : Int) ≤ (c : Int) := by omega
  have i4 : ¬ c = lo := by omega
  go_simp
theorem slice_zero (w : World) (a : Option Addr) (c : Nat) : (Instr.slice 22 (.slice a 0 c) (some (.int .i64 (0 : Int))) (some (.int .i64 (0 : Int))) none).run Try.prog w = .ok (.slice a 0 c) w := by
  have i5 : (0 : Int) ≤ (c : Int) := by omega
  rcases a with _ | ⟨b, off, sp⟩
  · go_simp
  · by_cases q : c = 0
    · subst q; go_simp
    · go_simp
end Go.Proofs.Ytachdicdfhfoaaa
