/-
  QRows9ToRowsOf9: Rows9, RowsOf9, joined.
-/
import Derived.Test.YtnpcfohimlfbdaaQDot9

/- Rows9 -/
namespace Go.Proofs.Ytnpcfohimlfbdaa
open Go.RowKit
set_option linter.unusedVariables false

/-- A list of lists of pairs; the inner ones lie from block B on. -/
def Prr (B : Nat) (w : World) (v : Value) (pss : List (List (Value × Value))) : Prop :=
  ∃ a c, v = .slice a pss.length c ∧ pss.length ≤ c ∧ pss.length ≤ 1048576 ∧ (pss = [] ∨ ∃ b off, a = some ⟨b, off, none⟩ ∧ b < w.heap.size ∧ ∀ (j : Nat) (ps : List (Value × Value)), pss[j]? = some ps → ∃ u, w.cell? ⟨b, off + j, none⟩ = some u ∧ Prs B w u ps)
theorem Prr.now {B : Nat} {w w' : World} {v : Value} {pss : List (List (Value × Value))} (h : Prr B w v pss) (hb : Below w.heap.size w w') : Prr B w' v pss := by
  obtain ⟨a, c, h1, h2, h3, h4⟩ := h
  refine ⟨a, c, h1, h2, h3, ?_⟩
  rcases h4 with h4 | ⟨b, off, h5, h6, h7⟩
  · exact .inl h4
  · refine .inr ⟨b, off, h5, Nat.lt_of_lt_of_le h6 hb.size, fun j ps hp => ?_⟩
    obtain ⟨u, q1, q2⟩ := h7 j ps hp
    exact ⟨u, (hb.cell (p := ⟨b, off + j, none⟩) h6).trans q1, q2.now hb⟩
theorem Prr.form {B : Nat} {w : World} {v : Value} {pss : List (List (Value × Value))} (h : Prr B w v pss) : ∃ a c, v = .slice a pss.length c ∧ pss.length ≤ c ∧ pss.length ≤ 1048576 ∧ (pss ≠ [] → ∃ b off, a = some ⟨b, off, none⟩) := by
  obtain ⟨a, c, h1, h2, h3, h4⟩ := h
  refine ⟨a, c, h1, h2, h3, fun hne => ?_⟩
  rcases h4 with h4 | ⟨b, off, h5, h6, h7⟩
  · exact absurd h4 hne
  · exact ⟨b, off, h5⟩
theorem Prr.at {B : Nat} {w : World} {b off l c : Nat} {pss : List (List (Value × Value))} (h : Prr B w (.slice (some ⟨b, off, none⟩) l c) pss) {i : Nat} {ps : List (Value × Value)} (hi : pss[i]? = some ps) : ∃ u, w.cell? ⟨b, off + i, none⟩ = some u ∧ Prs B w u ps := by
  obtain ⟨a', c', h1, h2, h3, h4⟩ := h
  rcases h4 with h4 | ⟨b', off', h5, h6, h7⟩
  · subst h4; simp at hi
  · simp only [Value.slice.injEq] at h1
    obtain ⟨rfl, -, -⟩ := h1
    simp only [Option.some.injEq, Addr.mk.injEq, and_true] at h5
    obtain ⟨rfl, rfl⟩ := h5
    exact h7 i ps hi
theorem Prr.mono {B B' : Nat} {w : World} {v : Value} {pss : List (List (Value × Value))} (h : Prr B w v pss) (hB : B' ≤ B) : Prr B' w v pss := by
  obtain ⟨a, c, h1, h2, h3, h4⟩ := h
  refine ⟨a, c, h1, h2, h3, ?_⟩
  rcases h4 with h4 | ⟨b, off, h5, h6, h7⟩
  · exact .inl h4
  · refine .inr ⟨b, off, h5, h6, fun j ps hp => ?_⟩
    obtain ⟨u, q1, q2⟩ := h7 j ps hp
    exact ⟨u, q1, q2.mono hB⟩
/-- A row of slices that a loop fills. -/
def FilR (wx : World) (g n i : Nat) (P : Nat → Value → Prop) : Prop := ∃ vs, RowL9 wx g vs ∧ vs.length = n ∧ (∀ u ∈ vs, NoW u) ∧ ∀ (j : Nat) (u : Value), j < i → vs[j]? = some u → P j u
theorem FilR.start {w : World} {g n : Nat} (h : RowL9 w g (List.replicate n (.slice none 0 0))) (P : Nat → Value → Prop) : FilR w g n 0 P := ⟨_, h, by simp, (fun u hu => by rw [List.eq_of_mem_replicate hu]; exact noS _ _ _), fun j u hj => by omega⟩
theorem FilR.step {w w' : World} {g n i : Nat} {P P' : Nat → Value → Prop} (h : FilR w g n i P) (hb : Below w.heap.size w w') (hP : ∀ j u, j < i → P j u → P' j u) : FilR w' g n i P' := by
  obtain ⟨vs, h1, h2, hw, h3⟩ := h
  exact ⟨vs, h1.step hb, h2, hw, fun j u hj hu => hP j u hj (h3 j u hj hu)⟩
theorem FilR.put {w : World} {g n i : Nat} {P P' : Nat → Value → Prop} {x : Value} (h : FilR w g n i P) (hi : i < n) (hP : ∀ j u, j < i → P j u → P' j u) (hx : P' i x) (hn : NoW x) : FilR (w.setCell ⟨g, i, none⟩ x) g n (i + 1) P' := by
  obtain ⟨vs, h1, h2, hw, h3⟩ := h
  refine ⟨vs.set i x, h1.set i x, by simpa using h2, (fun u hu => by
    rcases List.mem_or_eq_of_mem_set hu with q | rfl
    · exact hw u q
    · exact hn), fun j u hj hu => ?_⟩
  by_cases q : j = i
  · subst q
    rw [List.getElem?_set_self (by omega), Option.some.injEq] at hu
    subst hu
    exact hx
  · rw [List.getElem?_set_ne (by omega)] at hu
    exact hP j u (by omega) (h3 j u (by omega) hu)
theorem FilR.blk {w : World} {g n i : Nat} {P : Nat → Value → Prop} (h : FilR w g n i P) : g < w.heap.size := by
  obtain ⟨vs, h1, h2, hw, h3⟩ := h
  exact h1.blk
theorem FilR.wk {w : World} {g n i j : Nat} {P : Nat → Value → Prop} (h : FilR w g n i P) (hj : j < n) (x : Value) : Wk w (w.setCell ⟨g, j, none⟩ x) := by
  obtain ⟨vs, h1, h2, hw, h3⟩ := h
  exact h1.wk (List.getElem?_eq_getElem (by omega)) (hw _ (List.getElem_mem (l := vs) (n := j) (by omega))) x
theorem FilR.cells {w : World} {g n i j : Nat} {P : Nat → Value → Prop} (h : FilR w g n i P) (hj : j < n) : ∃ u, w.cell? ⟨g, j, none⟩ = some u ∧ w.frozen? ⟨g, j, none⟩ = false := by
  obtain ⟨vs, h1, h2, hw, h3⟩ := h
  exact ⟨vs[j]'(by omega), h1.at (List.getElem?_eq_getElem (by omega)), h1.fz _⟩
theorem slice_mid (w : World) (b off n c lo hi : Nat) (h : lo ≤ hi) (h1 : hi ≤ c) (h2 : lo < c) : (Instr.slice 22 (.slice (some ⟨b, off, none⟩) n c) (some (.int .i64 (lo : Int))) (some (.int .i64 (hi : Int))) none).run Try.prog w = .ok (.slice (some ⟨b, off + 2 * lo, none⟩) (hi - lo) (c - lo)) w := by
  have i3 : (lo : Int) ≤ (hi : Int) := by omega
  have i1 : (0 : Int) ≤ (lo : Int) := by omega
  have i2 : (0 : Int) ≤ (hi : Int) := by omega
  have i5 : (hi : Int) ≤ (c : Int) := by omega
  have i4 : ¬ c = lo := by omega
  go_simp
theorem slice_zero (w : World) (a : Option Addr) (c : Nat) : (Instr.slice 22 (.slice a 0 c) (some (.int .i64 (0 : Int))) (some (.int .i64 (0 : Int))) none).run Try.prog w = .ok (.slice a 0 c) w := by
  have i5 : (0 : Int) ≤ (c : Int) := by omega
  rcases a with _ | ⟨b, off, sp⟩
  · go_simp
  · by_cases q : c = 0
    · subst q; go_simp
    · go_simp
end Go.Proofs.Ytnpcfohimlfbdaa

/- RowsOf9 -/
namespace Go.Proofs.Ytnpcfohimlfbdaa
open Go.RowKit
set_option linter.unusedVariables false

def rowsL {α : Type} (r c : Nat) (ps : List α) : List (List α) := (List.range r).map fun i => (ps.drop (i * c)).take c
theorem rowsL_at {α : Type} {r c i : Nat} {ps : List α} (h : i < r) : (rowsL r c ps)[i]? = some ((ps.drop (i * c)).take c) := by simp [rowsL, h]
/-- The value of a matrix. -/
abbrev matv (r c : Nat) (at_ : Value) : Value := .agg #[.int .i64 (r : Int), .int .i64 (c : Int), at_]
abbrev matc (r c : Nat) (at_ : Value) : List Value := [.int .i64 (r : Int), .int .i64 (c : Int), at_]
/-- A piece, as rowsOf cuts it. -/
theorem cut_row {B : Nat} {w : World} {a : Option Addr} {n cap r c i : Nat} {ps : List (Value × Value)} (h : Prs B w (.slice a n cap) ps) (hl : ps.length = r * c) (hi : i < r) :
    ∃ a' cap', (∀ wx, (Instr.slice 22 (.slice a n cap) (some (.int .i64 ((i * c : Nat) : Int))) (some (.int .i64 (((i + 1) * c : Nat) : Int))) none).run Try.prog wx = .ok (.slice a' c cap') wx) ∧ Prs B w (.slice a' c cap') ((ps.drop (i * c)).take c) := by
  have h0 := h
  obtain ⟨a', c', h1, h2, h3, -, h4⟩ := h
  simp only [Value.slice.injEq] at h1
  obtain ⟨rfl, rfl, rfl⟩ := h1
  by_cases hc : c = 0
  · subst hc
    have e0 : ps = [] := List.eq_nil_of_length_eq_zero (by simpa using hl)
    subst e0
    refine ⟨a, cap, fun wx => ?_, ?_⟩
    · simpa using slice_zero wx a cap
    · simpa using h0
  · rcases h4 with rfl | ⟨b, off, rfl, h5', h6, h7⟩
    · rcases Nat.mul_eq_zero.1 (show r * c = 0 by simpa using hl.symm) with q | q <;> omega
    · have e1 : (i + 1) * c ≤ r * c := Nat.mul_le_mul_right c hi
      have e2 : (i + 1) * c = i * c + c := by rw [Nat.add_mul, Nat.one_mul]
      refine ⟨some ⟨b, off + i * c * 2, none⟩, cap - i * c, fun wx => ?_, h0.piece (by omega)⟩
      have := slice_mid wx b off ps.length cap (i * c) ((i + 1) * c) (by omega) (by omega) (by omega)
      rw [show (i + 1) * c - i * c = c by omega, Nat.mul_comm 2] at this
      exact this
def RowsH (w0 w : World) (B : Nat) (at_ : Value) (g r c : Nat) (ps : List (Value × Value)) (gk : Nat) (s : Value) (wx : World) : Prop :=
  ∃ i : Nat, s = .int .i64 (i : Int) ∧ i ≤ r ∧ gk = r - i ∧ FilR wx g r i (fun j u => Prs B w0 u ((ps.drop (j * c)).take c)) ∧ Cel wx w.heap.size 39 (matc r c at_) ∧ Below w.heap.size w wx
/-- The rows' own block is new; what stands in it lay there already. -/
def RowedX (w0 w : World) (B r c : Nat) (ps : List (Value × Value)) (e : Ending) (w' : World) : Prop := ∃ g, e = .returned (.slice (some ⟨g, 0, none⟩) r r) ∧ w.heap.size ≤ g ∧ g < w'.heap.size ∧ (∀ i, i < r → ∃ ai ci, w'.cell? ⟨g, i, none⟩ = some (.slice ai c ci) ∧ Prs B w0 (.slice ai c ci) ((ps.drop (i * c)).take c)) ∧ Below w.heap.size w w'
def Rowed (w : World) (B : Nat) (pss : List (List (Value × Value))) (e : Ending) (w' : World) : Prop := ∃ u, e = .returned u ∧ Prr B w' u pss ∧ Below w.heap.size w w'
theorem wrapM9 {i c : Nat} (hi : i ≤ 64) (hc : c ≤ 64) : IntKind.i64.wrap ((i : Int) * (c : Int)) = ((i * c : Nat) : Int) := by
  have h : i * c ≤ 64 * 64 := Nat.mul_le_mul hi hc
  rw [show (i : Int) * (c : Int) = ((i * c : Nat) : Int) by simp]
  rw [wrap_is] <;> omega
set_option maxHeartbeats 1600000 in
set_option maxRecDepth 100000 in
theorem rowsOf_at {w0 w : World} {B r c : Nat} {at_ : Value} {ps : List (Value × Value)} (ha : Prs B w0 at_ ps) (hl : ps.length = r * c) (hr : r ≤ 64) (hc : c ≤ 64) :
    Calls Try.prog 67 #[matv r c at_] w (RowedX w0 w B r c ps) := by
  have A0 := hid ha
  obtain ⟨a0, c0, rfl, hc0, hn0, -, hf0⟩ := ha.form
  obtain ⟨n, hn⟩ : ∃ n, ps.length = n := ⟨_, rfl⟩
  have HL := hid hl
  rw [hn] at A0 hc0 hn0 ⊢
  clear ha hf0 hl hn
  obtain ⟨W0, hW⟩ : ∃ W0, w.alloc (.cells #[.int .i64 (r : Int), .int .i64 (c : Int), .slice a0 n c0] 39) = W0 := ⟨_, rfl⟩
  obtain ⟨b0, sz0⟩ := alo1 w (.cells #[.int .i64 (r : Int), .int .i64 (c : Int), .slice a0 n c0] 39)
  rw [hW] at b0 sz0
  have P1 : Hid (Cel W0 w.heap.size 39 (matc r c (.slice a0 n c0))) := by unfold Hid; rw [← hW]; exact Cel.new w _ _
  have c1 : (w.alloc (.cells #[.int .i64 (r : Int), .int .i64 (c : Int), .slice a0 n c0] 39)).cell? ⟨w.heap.size, 0, none⟩ = some (.int .i64 (r : Int)) := by rw [hW]; exact P1.out.at (i := 0) rfl
  have G0 := hid b0
  have EW := hid hW
  have SZ := hid sz0
  clear b0 hW sz0
  go_enter Try.func67, Try.ntmps67
  go_wp2_with (at_make; rw [EW.out]; refine wpList_make_rows _ rfl _ _ rfl _ _ r r rfl rfl rfl rfl (Nat.le_refl _) (by omega) ?_)
  intro w1 hrow hb1 hsz1
  have H0 : Hid (RowsH w0 w B (.slice a0 n c0) W0.heap.size r c ps r (.int .i64 0) w1) := ⟨0, rfl, Nat.zero_le _, by omega, FilR.start hrow _, P1.out.step hb1, below_step G0.out hb1⟩
  have HGE : Hid (w.heap.size < W0.heap.size) := by unfold Hid; rw [SZ.out]; omega
  clear hrow hb1 hsz1 P1 G0 EW SZ c1
  generalize W0.heap.size = g at *
  go_wp2_with fail
  go_loopg [10] r (fun gk s10 wx => RowsH w0 w B (.slice a0 n c0) g r c ps gk s10 wx)
  case atStart => exact H0.out
  case round =>
    clear H0
    obtain ⟨i, rfl, hin, hg, hfil, hcel, hG⟩ := hrel
    have FI := hid hfil
    have P1 := hid hcel
    have G := hid hG
    have HG := hid hg
    clear hfil hcel hG hg
    by_cases hlt : i < r
    · have hlt' : (i : Int) < (r : Int) := by omega
      obtain ⟨a', cap', hs, hp⟩ := cut_row (i := i) (c := c) A0.out HL.out hlt
      have HP := hid hp
      have hw := wrapI9 (i := i) (by omega)
      have hm0 := wrapM9 (i := i) (c := c) (by omega) hc
      have hm1 := wrapM9 (i := i + 1) (c := c) (by omega) hc
      rw [show ((i + 1 : Nat) : Int) = (i : Int) + 1 by omega] at hm1
      have HN1 : Hid (RowsH w0 w B (.slice a0 n c0) g r c ps (r - (i + 1)) (.int .i64 ((i + 1 : Nat) : Int)) (wr.setCell ⟨g, i, none⟩ (.slice a' c cap'))) :=
        ⟨i + 1, rfl, by omega, rfl, FI.out.put hlt (fun j u _ q => q) HP.out (noS _ _ _), P1.out.ne (by have := HGE.out; omega), bset G.out (by have := HGE.out; omega)⟩
      clear hp HP
      generalize i * c = lo at *
      generalize (i + 1) * c = hi at *
      have hm2 := hm0
      have hm3 := hm1
      rw [IntKind.wrap_i64] at hm2 hm3
      have k1 := P1.out.at (i := 1) rfl
      have k2 := P1.out.at (i := 2) rfl
      obtain ⟨u0, e0, e1⟩ := FI.out.cells hlt
      have HMM : Hid (r - (i + 1) < gk) := by unfold Hid; rw [HG.out]; omega
      clear FI P1 G HG
      go_wp2_with fail
      go_roundg (r - (i + 1))
      case rel => exact HN1.out
      case measure => exact HMM.out
    · have hlt' : ¬ (i : Int) < (r : Int) := by omega
      obtain rfl : i = r := by omega
      have FIN : Hid (RowedX w0 w B i c ps (.returned (.slice (some ⟨g, 0, none⟩) i i)) wr) := by
        refine ⟨g, rfl, Nat.le_of_lt HGE.out, FI.out.blk, fun j hj => ?_, G.out⟩
        obtain ⟨vs, h1, h2, -, h3⟩ := FI.out
        have hv : vs[j]? = some (vs[j]'(by omega)) := List.getElem?_eq_getElem (by omega)
        have hp := h3 j _ hj hv
        obtain ⟨aj, cj, ej, -, -, -, -⟩ := hp.form
        have el : ((ps.drop (j * c)).take c).length = c := by
          have h5 : (j + 1) * c ≤ i * c := Nat.mul_le_mul_right c hj
          have h6 : (j + 1) * c = j * c + c := by rw [Nat.add_mul, Nat.one_mul]
          have h7 := HL.out
          simp
          omega
        rw [el] at ej
        refine ⟨aj, cj, ?_, ?_⟩
        · rw [h1.at hv, ej]
        · rw [ej] at hp; exact hp
      clear FI P1 G HG
      go_wp2
      go_ret
      exact FIN.out
theorem rowsOf_any {w : World} {B r c : Nat} {at_ : Value} {ps : List (Value × Value)} (ha : Prs B w at_ ps) (hl : ps.length = r * c) (hr : r ≤ 64) (hc : c ≤ 64) :
    Calls Try.prog 67 #[matv r c at_] w (Rowed w B (rowsL r c ps)) := by
  refine (rowsOf_at ha hl hr hc).mono ?_
  rintro e w' ⟨g, rfl, h1, h2, h3, h4⟩
  refine ⟨_, rfl, ⟨some ⟨g, 0, none⟩, r, by simp [rowsL], by simp [rowsL], by simp [rowsL]; omega, .inr ⟨g, 0, rfl, h2, fun j qs hq => ?_⟩⟩, h4⟩
  have hj : j < r := by simpa [rowsL] using (List.getElem?_eq_some_iff.1 hq).1
  rw [rowsL_at hj, Option.some.injEq] at hq
  obtain ⟨ai, ci, q1, q2⟩ := h3 j hj
  rw [← hq, Nat.zero_add]
  exact ⟨_, q1, q2.now h4⟩
end Go.Proofs.Ytnpcfohimlfbdaa
