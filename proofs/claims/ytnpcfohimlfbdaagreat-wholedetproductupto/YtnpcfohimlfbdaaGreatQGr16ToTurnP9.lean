/-
 QGr16ToTurnP9: Gr16, Mu13, Trace9, TurnP9, joined.
-/
import Derived.Test.YtnpcfohimlfbdaaGreatQSgn16ToOpenSt11
import Derived.Test.YtnpcfohimlfbdaaGreatQRows11
import Derived.Test.YtnpcfohimlfbdaaGreatQChk9ToMul9
import Derived.Test.YtnpcfohimlfbdaaGreatQSh11ToChkN9
import Derived.Test.YtnpcfohimlfbdaaGreatQTurn9

set_option maxRecDepth 100000
set_option maxHeartbeats 6400000
set_option linter.unusedVariables false
set_option linter.unusedSimpArgs false
namespace Go.Proofs.YtnpcfohimlfbdaaGreat
open Go.ChangeShapes Go.WideShapes Go.ChangeAt Go.RowKit

/-- By how much steps make numbers grow at most. -/
def grw : List Rs → Int
 | [] => 1
 | s :: r => (1 + (s.z.natAbs : Int)) * grw r
theorem grw_pos : ∀ rs : List Rs, 1 ≤ grw rs
 | [] => by simp [grw]
 | s :: r => by
  have h := grw_pos r
  have h2 : 1 * 1 ≤ (1 + (s.z.natAbs : Int)) * grw r := Int.mul_le_mul (by omega) h (by omega) (by omega)
  simpa [grw] using h2
theorem grw_le {q : Nat → Rs} {κ : Nat → Nat} : ∀ l : List Nat, (∀ i ∈ l, ((q i).z.natAbs : Int) < pw (κ i)) → grw (l.map q) ≤ pw (ksum (l.map κ))
 | [], _ => by simp [grw, ksum, pw]
 | i :: r, h => by
  have h1 := h i (by simp)
  have h2 := grw_le r (fun j hj => h j (by simp [hj]))
  have h3 := grw_pos (r.map q)
  simp only [List.map_cons, grw, ksum_cons, pw_plus]
  exact Int.mul_le_mul (by omega) h2 (by omega) (by have := pw_pos (κ i); omega)
theorem one_le_pw (n : Nat) : grw [] ≤ pw n := by have := pw_pos n; show (1 : Int) ≤ _; omega
def Bnd (M : Int) (m : List (List Int)) : Prop := ∀ row ∈ m, ∀ x ∈ row, (x.natAbs : Int) ≤ M
theorem Bnd.at {M : Int} {m : List (List Int)} (h : Bnd M m) (i : Nat) : ∀ x ∈ rowAt m i, (x.natAbs : Int) ≤ M := fun x hx => by
 unfold rowAt at hx
 rw [List.getD_eq_getElem?_getD] at hx
 by_cases q : i < m.length
 ·rw [List.getElem?_eq_getElem q] at hx
  exact h _ (List.getElem_mem q) x hx
 ·rw [List.getElem?_eq_none (by omega)] at hx
  simp at hx
theorem Bnd.set {M M' : Int} {m : List (List Int)} {r : List Int} (h : Bnd M m) (hM : M ≤ M') (hr : ∀ x ∈ r, (x.natAbs : Int) ≤ M') (i : Nat) : Bnd M' (m.set i r) := fun row hrow x hx => by
 rcases List.mem_or_eq_of_mem_set hrow with q | rfl
 ·exact Int.le_trans (h row q x hx) hM
 ·exact hr x hx
def St.gr : St → Int
 | .add _ _ z => 1 + (z.natAbs : Int)
 | _ => 1
theorem Bnd.run {M : Int} {m : List (List Int)} (hM0 : 0 ≤ M) (h : Bnd M m) (s : St) : Bnd (M * s.gr) (s.run m) := by
 cases s with
 | swap i j =>
  show Bnd (M * 1) _
  rw [Int.mul_one]
  exact (h.set (Int.le_refl _) (h.at j) i).set (Int.le_refl _) (h.at i) j
 | neg i =>
  show Bnd (M * 1) _
  rw [Int.mul_one]
  refine h.set (Int.le_refl _) (fun x hx => ?_) i
  simp only [negRow, List.mem_map] at hx
  obtain ⟨y, hy, rfl⟩ := hx
  have := h.at i y hy
  omega
 | add i j z =>
  have hz : (0 : Int) ≤ z.natAbs := by omega
  have hg : M * St.gr (.add i j z) = M + M * (z.natAbs : Int) := by show M * (1 + (z.natAbs : Int)) = _; rw [Int.mul_add, Int.mul_one]
  have hMz : 0 ≤ M * (z.natAbs : Int) := Int.mul_nonneg hM0 hz
  refine h.set (by rw [hg]; omega) (fun x hx => ?_) i
  unfold addRow at hx
  obtain ⟨t, ht, e⟩ := List.getElem_of_mem hx
  rw [List.getElem_zipWith] at e
  subst e
  rw [List.length_zipWith] at ht
  have h1 := h.at i _ (List.getElem_mem (show t < (rowAt m i).length by omega))
  have h2 := h.at j _ (List.getElem_mem (show t < (rowAt m j).length by omega))
  generalize (rowAt m i)[t]'(by omega) = x at *
  generalize (rowAt m j)[t]'(by omega) = y at *
  have h3 : ((z * y).natAbs : Int) ≤ M * (z.natAbs : Int) := by
   rw [Int.natAbs_mul, Int.natCast_mul, Int.mul_comm]
   exact Int.mul_le_mul_of_nonneg_right h2 hz
  rw [hg]
  omega
theorem Bnd.runs : ∀ {rs : List Rs} {M : Int} {m : List (List Int)}, 0 ≤ M → Bnd M m → Bnd (M * grw rs) (runs (sts rs) m)
 | [], M, m, _, h => by rw [show grw [] = 1 from rfl, Int.mul_one]; exact h
 | s :: r, M, m, h0, h => by
  have h1 : Bnd (M * (1 + (s.z.natAbs : Int))) (s.st.run m) := by
   have hg : s.st.gr ≤ 1 + (s.z.natAbs : Int) := by
    unfold Rs.st
    split
    ·show (1 : Int) ≤ _; omega
    ·split
     ·show (1 : Int) ≤ _; omega
     ·exact Int.le_refl _
   have := Bnd.run h0 h s.st
   exact fun row hrow x hx => Int.le_trans (this row hrow x hx) (Int.mul_le_mul_of_nonneg_left hg h0)
  have h2 := Bnd.runs (rs := r) (Int.mul_nonneg h0 (by omega)) h1
  show Bnd (M * ((1 + (s.z.natAbs : Int)) * grw r)) (Go.Proofs.YtnpcfohimlfbdaaGreat.runs (sts r) (s.st.run m))
  rw [← Int.mul_assoc]
  exact h2
theorem rowsT_lt {rs : List Rs} {r c k K : Nat} {zs : List Int} (hz : ∀ z ∈ zs, (z.natAbs : Int) < pw k) (hg : grw rs ≤ pw K) : ∀ z ∈ rowsT (sts rs) r c zs, (z.natAbs : Int) < pw (k + K) := fun z h => by
 unfold rowsT at h
 obtain ⟨row, h1, h2⟩ := List.mem_flatten.1 h
 have hp := pw_pos k
 have hb : Bnd (pw k - 1) (rowsL r c zs) := fun row hrow x hx => by
  simp only [rowsL, List.mem_map, List.mem_range] at hrow
  obtain ⟨i, -, rfl⟩ := hrow
  have := hz x (List.mem_of_mem_drop (List.mem_of_mem_take hx))
  omega
 have h3 := Bnd.runs (rs := rs) (by omega) hb row h1 z h2
 have h4 := grw_pos rs
 have h5 : (pw k - 1) * grw rs < pw k * grw rs := Int.mul_lt_mul_of_pos_right (by omega) (by omega)
 have h6 : pw k * grw rs ≤ pw k * pw K := Int.mul_le_mul_of_nonneg_left hg (by omega)
 rw [pw_plus]
 omega
theorem Mc.fit {w : World} {v : Value} {r c : Nat} {zs : List Int} {k l : Nat} (h : Mc w v r c zs k) (hz : ∀ z ∈ zs, (z.natAbs : Int) < pw l) : Mc w v r c zs l := by
 obtain ⟨a, ps, h1, h2, h3, h4⟩ := h
 exact ⟨a, ps, h1, h2, ⟨h3.1, fun j p z hp hz' => (h3.2 j p z hp hz').fit (hz z (List.mem_of_getElem? hz'))⟩, h4⟩
theorem Mx.lt {w : World} {v : Value} {r c : Nat} {zs : List Int} {k : Nat} (h : Mx w v r c zs k) : ∀ z ∈ zs, (z.natAbs : Int) < pw k := by
 obtain ⟨a, ps, h1, h2, h3, h4⟩ := h
 intro z hz
 obtain ⟨j, hj, e⟩ := List.getElem_of_mem hz
 exact (h3.2 j _ z (List.getElem?_eq_getElem (by rw [h3.1]; exact hj)) (by rw [List.getElem?_eq_getElem hj, e])).lt
theorem open_st16 {H : Type} {enc : TypeId × Value → H} {W : World} {fuel : Nat} {cs : List Value} {x : DataW H × List MemPlace}
  (hf : DataW.trod enc Tryz.prog W 0 (fun _ => true) true fuel 94 cs = some x) (hb : Rows.uptoBulk x.1 ≤ 1048576) :
  ∃ (kind I J : Int) (nv : Bool) (av : Option Addr) (lv cv : Nat) (z : Int) (k : Nat), cs = [.int .i64 kind, .int .i64 I, .int .i64 J, .bool nv, .slice av lv cv] ∧ Zi W (.agg #[.bool nv, .slice av lv cv]) z k ∧ k + 1 ≤ Rows.uptoBulk x.1 := by
 obtain ⟨y0, y1, y2, y3, n, hx, hl, t0, t1, t2, t3⟩ := Joins.trod_struct4 Tryz.underlying94 hf
 rw [Tryz.cellsSt11] at hl
 rw [hx] at hb ⊢
 simp only [Rows.uptoBulk, Rows.uptoBulkAll] at hb ⊢
 match cs, hl with
 | [c0, c1, c2, c3, c4], _ =>
  simp only [Tryz.cellsInt11, Tryz.cellsZ, List.drop_zero, List.drop_succ_cons, List.take_succ_cons, List.take_zero] at t0 t1 t2 t3
  obtain ⟨k, e0, _, _⟩ := DataW.trod_int Tryz.underlying3 t0
  obtain ⟨i, e1, _, _⟩ := DataW.trod_int Tryz.underlying3 t1
  obtain ⟨j, e2, _, _⟩ := DataW.trod_int Tryz.underlying3 t2
  obtain ⟨x0, x1, z, kz, e3, hz, hkz⟩ := open_int3 t3 (by omega)
  simp only [List.cons.injEq, and_true] at e0 e1 e2 e3
  obtain ⟨nv, av, lv, cv, q1, q2⟩ := hz.parts11
  obtain ⟨e3, e4⟩ := e3
  subst e0 e1 e2 e3 e4 q1 q2
  exact ⟨k, i, j, nv, av, lv, cv, z, kz, rfl, hz, by omega⟩
theorem open_sts16 {H : Type} {enc : TypeId × Value → H} {W : World} {a : Option Addr} {len cap : Nat} {d : DataW H} {p : List MemPlace}
  (h0 : DataW.Trod enc Tryz.prog W 0 (fun _ => true) true 25 (.slice a len cap) d p) (hb : Rows.uptoBulk d ≤ 1048576) : ∃ rs, Raws W (.slice a len cap) rs 1048576 ∧ grw rs ≤ pw 1048576 := by
 obtain ⟨fuel, hf⟩ := h0
 rcases Deep.open_slice Tryz.underlying25 hf with ⟨hcs, _⟩ | ⟨x, l, c, m, n, D, Pl, hcs, _, hl, hm, hmm, hx, hel⟩
 ·simp [Value.cells] at hcs
  obtain ⟨rfl, rfl, rfl⟩ := hcs
  exact ⟨[], ⟨none, 0, rfl, by simp, .inl rfl⟩, one_le_pw _⟩
 ·simp [Value.cells] at hcs
  obtain ⟨rfl, rfl, rfl⟩ := hcs
  simp only [if_true] at hmm
  subst hmm
  have hd : d = .slice ((List.range len).map D) ((List.range (m - len)).map fun j => D (len + j)) := congrArg Prod.fst hx
  rw [hd] at hb
  simp only [Rows.uptoBulk] at hb
  have e1 := bulk_len ((List.range len).map D)
  simp only [List.length_map, List.length_range] at e1
  rw [Tryz.cellsSt11] at hel
  by_cases he : len = 0
  ·subst he
   exact ⟨[], ⟨_, _, rfl, by simp, .inl rfl⟩, one_le_pw _⟩
  ·obtain ⟨b, off, spot⟩ := x
   obtain ⟨cs0, h10, h20⟩ := hel 0 (by omega)
   have hb0 : Rows.uptoBulk (D 0) ≤ 1048576 := by
    have := bulk_in (List.mem_map_of_mem (f := D) (List.mem_range.2 (show 0 < len by omega)))
    omega
   obtain ⟨_, _, _, _, _, _, _, _, rfl, _⟩ := open_st11 (x := (D 0, Pl 0)) h20 hb0
   have hc := (World.cells?_some h10).2.2 0 (by omega)
   rw [Deep.add_add] at hc
   simp only [Nat.zero_mul, Nat.add_zero, List.getElem?_cons_zero] at hc
   have hspot : spot = none := by simpa [Addr.add] using World.cell?_spot hc
   subst hspot
   have hblk : b < W.heap.size := by
    have := World.block_lt_of_cell? W _ hc
    simpa [Addr.add] using this
   obtain ⟨q, hq⟩ := Deep.choose_lt (α := Rs × Nat) (n := len) (p := fun k s => ∃ nv av lv cv,
     W.cell? ⟨b, off + k * 5, none⟩ = some (.int .i64 s.1.kind) ∧ W.cell? ⟨b, off + k * 5 + 1, none⟩ = some (.int .i64 s.1.i) ∧ W.cell? ⟨b, off + k * 5 + 2, none⟩ = some (.int .i64 s.1.j) ∧ W.cell? ⟨b, off + k * 5 + 3, none⟩ = some (.bool nv) ∧ W.cell? ⟨b, off + k * 5 + 4, none⟩ = some (.slice av lv cv) ∧
     Zi W (.agg #[.bool nv, .slice av lv cv]) s.1.z s.2 ∧ s.2 + 1 ≤ Rows.uptoBulk (D k)) (fun k hk => by
    obtain ⟨cs', h1, h2⟩ := hel k (by omega)
    have hbi : Rows.uptoBulk (D k) ≤ 1048576 := by
     have := bulk_in (List.mem_map_of_mem (f := D) (List.mem_range.2 hk))
     omega
    obtain ⟨kind, I, J, nv, av, lv, cv, z, kz, rfl, hz, hkz⟩ := open_st16 (x := (D k, Pl k)) h2 hbi
    have hk' := (World.cells?_some h1).2.2
    have e : ∀ j, (⟨b, off, none⟩ : Addr).add j = ⟨b, off + j, none⟩ := fun j => by unfold Addr.add; split <;> simp_all
    have c0 := hk' 0 (by omega)
    have c1 := hk' 1 (by omega)
    have c2 := hk' 2 (by omega)
    have c3 := hk' 3 (by omega)
    have c4 := hk' 4 (by omega)
    simp only [e] at c0 c1 c2 c3 c4
    exact ⟨(⟨kind, I, J, z⟩, kz), nv, av, lv, cv, c0, c1, c2, c3, c4, hz, hkz⟩)
   have ht := ksum_bulk (D := D) (q := fun i => (q i).2) (List.range len) (fun i hi => by
    obtain ⟨_, _, _, _, _, _, _, _, _, _, h⟩ := hq i (List.mem_range.1 hi)
    exact h)
   have hgr := grw_le (q := fun i => (q i).1) (κ := fun i => (q i).2) (List.range len) (fun i hi => by
    obtain ⟨_, _, _, _, _, _, _, _, _, h, _⟩ := hq i (List.mem_range.1 hi)
    exact h.lt)
   have hup := pw_up (m := ksum ((List.range len).map fun i => (q i).2)) (n := 1048576) (by omega)
   refine ⟨(List.range len).map fun i => (q i).1, ⟨some ⟨b, off, none⟩, m, by simp, by simp; omega, .inr ⟨b, off, rfl, hblk, fun j s hs => ?_⟩⟩, Int.le_trans hgr hup⟩
   have hj : j < len := by simpa using (List.getElem?_eq_some_iff.1 hs).1
   rw [List.getElem?_map, List.getElem?_range hj] at hs
   simp at hs
   subst hs
   obtain ⟨nv, av, lv, cv, q0, q1, q2, q3, q4, q5, q6⟩ := hq j hj
   have hbj := bulk_in (List.mem_map_of_mem (f := D) (List.mem_range.2 hj))
   exact ⟨nv, av, lv, cv, q0, q1, q2, q3, q4, q5.more (by omega)⟩
end Go.Proofs.YtnpcfohimlfbdaaGreat
namespace Go.Proofs.YtnpcfohimlfbdaaGreat
open Go.RowKit

abbrev twoR (r m : Nat) (r' c' : Int) (va vb : Value) : Obj := .cells #[.int .i64 (r : Int), .int .i64 (m : Int), va, .int .i64 r', .int .i64 c', vb] 24
def CkU (w : World) (gk : Nat) (s : Value) (wx : World) : Prop := ∃ i : Nat, s = .int .i64 (i : Int) ∧ i ≤ 1 ∧ gk = 1 - i ∧ Below w.heap.size w wx
theorem checkAll_un {w : World} {g r m : Nat} {r' c' : Int} {aa ab : Option Addr} {la ca lb cb : Nat} {xs : List Int} {k : Nat} (d : Cel w g 24 [.int .i64 (r : Int), .int .i64 (m : Int), .slice aa la ca, .int .i64 r', .int .i64 c', .slice ab lb cb])
  (ha : Mx w (matv r m (.slice aa la ca)) r m xs k) (hb : ¬ Snd r' c' lb) : Calls Tryz.prog 36 #[.slice (some ⟨g, 0, none⟩) 2 2] w fun e w' => e = .returned (.int .i64 1) ∧ Below w.heap.size w w' := by
 have D := hid d
 have HA := hid ha
 have HB := hid hb
 have H0 : Hid (CkU w 1 (.int .i64 0) w) := ⟨0, rfl, Nat.zero_le _, rfl, Below.refl _ _⟩
 clear d ha hb
 go_enter Tryz.func36, Tryz.ntmps36
 go_wp2_with fail
 go_loopg [8] 1 (fun gk s8 wx => CkU w gk s8 wx)
 case atStart => exact H0.out
 case round =>
  clear H0
  obtain ⟨i, rfl, hin, hg, hG⟩ := hrel
  have G := hid hG
  have HG := hid hg
  have HI := hid hin
  clear hG hg hin
  have hlt' : (i : Int) < 2 := by have := HI.out; omega
  have hw := wrapI9 (i := i) (by have := HI.out; omega)
  by_cases h0 : i = 0
  ·obtain ⟨e0, e1, e2⟩ : w.cell? ⟨g, i * 3, none⟩ = some (.int .i64 (r : Int)) ∧ w.cell? ⟨g, i * 3 + 1, none⟩ = some (.int .i64 (m : Int)) ∧ w.cell? ⟨g, i * 3 + 2, none⟩ = some (.slice aa la ca) := by
    subst h0
    exact ⟨D.out.at (i := 0) rfl, D.out.at (i := 1) rfl, D.out.at (i := 2) rfl⟩
   have k0 := cnow G.out e0
   have k1 := cnow G.out e1
   have k2 := cnow G.out e2
   obtain ⟨V1, hV⟩ : ∃ V1, wr.alloc (matO r m (.slice aa la ca)) = V1 := ⟨_, rfl⟩
   obtain ⟨b1', sz1⟩ := alo1 wr (matO r m (.slice aa la ca))
   rw [hV] at b1' sz1
   have P4 : Hid (Cel V1 wr.heap.size 24 (matc r m (.slice aa la ca))) := by unfold Hid; rw [← hV]; exact Cel.new wr _ _
   have GV := hid (below_step G.out b1')
   have HS := hid (check_yes (HA.out.now GV.out))
   have x0 := P4.out.at (i := 0) rfl
   have x1 := P4.out.at (i := 1) rfl
   have x2 := P4.out.at (i := 2) rfl
   rw [← hV] at x0 x1 x2
   have EV := hid hV
   have H0 := hid h0
   clear e0 e1 e2 b1' sz1 hV P4 G h0
   go_wp2_with fail
   rw [EV.out]
   refine HS.out.mono ?_
   rintro e w1 ⟨rfl, b⟩
   have HN1 : Hid (CkU w (1 - (i + 1)) (.int .i64 ((i + 1 : Nat) : Int)) w1) := ⟨i + 1, rfl, by have := H0.out; omega, rfl, below_step GV.out b⟩
   have HMM : Hid (1 - (i + 1) < gk) := by unfold Hid; rw [HG.out]; have := H0.out; omega
   clear HS GV b EV HG x0 x1 x2 k0 k1 k2 H0 HI
   go_wp2_with fail
   go_roundg (1 - (i + 1))
   case rel => exact HN1.out
   case measure => exact HMM.out
  ·obtain ⟨e0, e1, e2⟩ : w.cell? ⟨g, i * 3, none⟩ = some (.int .i64 r') ∧ w.cell? ⟨g, i * 3 + 1, none⟩ = some (.int .i64 c') ∧ w.cell? ⟨g, i * 3 + 2, none⟩ = some (.slice ab lb cb) := by
    obtain rfl : i = 1 := by have := HI.out; omega
    exact ⟨D.out.at (i := 3) rfl, D.out.at (i := 4) rfl, D.out.at (i := 5) rfl⟩
   have k0 := cnow G.out e0
   have k1 := cnow G.out e1
   have k2 := cnow G.out e2
   obtain ⟨V1, hV⟩ : ∃ V1, wr.alloc (.cells #[.int .i64 r', .int .i64 c', .slice ab lb cb] 24) = V1 := ⟨_, rfl⟩
   obtain ⟨b1', sz1⟩ := alo1 wr (.cells #[.int .i64 r', .int .i64 c', .slice ab lb cb] 24)
   rw [hV] at b1' sz1
   have P4 : Hid (Cel V1 wr.heap.size 24 [.int .i64 r', .int .i64 c', .slice ab lb cb]) := by unfold Hid; rw [← hV]; exact Cel.new wr _ _
   have GV := hid (below_step G.out b1')
   have HS := hid (check_no (w := V1) (a := ab) (cap := cb) HB.out)
   have x0 := P4.out.at (i := 0) rfl
   have x1 := P4.out.at (i := 1) rfl
   have x2 := P4.out.at (i := 2) rfl
   rw [← hV] at x0 x1 x2
   have EV := hid hV
   clear e0 e1 e2 b1' sz1 hV P4 G h0
   go_wp2_with fail
   rw [EV.out]
   refine HS.out.mono ?_
   rintro e w1 ⟨rfl, b⟩
   have FIN : Hid (Below w.heap.size w w1) := below_step GV.out b
   clear HS GV b EV HG x0 x1 x2 k0 k1 k2 HI
   go_wp2
   go_ret
   exact ⟨rfl, FIN.out⟩
theorem mul_un {w : World} {va : Value} {r m : Nat} {xs : List Int} {k : Nat} {r' c' : Int} {ab : Option Addr} {lb cb : Nat} (ha : Mx w va r m xs k) (hb : ¬ Snd r' c' lb) :
  Calls Tryz.prog 15 #[va, .agg #[.int .i64 r', .int .i64 c', .slice ab lb cb]] w (GivesME w 1) := by
 obtain ⟨aa, ca, rfl, hr, hm⟩ := ha.form
 generalize r * m = la at *
 obtain ⟨W0, hW⟩ : ∃ W0, ((w.alloc (matO r m (.slice aa la ca))).alloc (.cells [.int .i64 r', .int .i64 c', .slice ab lb cb].toArray 24)).alloc mbox = W0 := ⟨_, rfl⟩
 obtain ⟨b0, sz0⟩ := alloc3 w (matO r m (.slice aa la ca)) (.cells [.int .i64 r', .int .i64 c', .slice ab lb cb].toArray 24) mbox
 rw [hW] at b0 sz0
 obtain ⟨pa, pb, pr⟩ := three_boxes (o1 := matc r m (.slice aa la ca)) (o2 := [.int .i64 r', .int .i64 c', .slice ab lb cb]) hW
 obtain ⟨V1, hV⟩ : ∃ V1, W0.alloc (twoR r m r' c' (.slice aa la ca) (.slice ab lb cb)) = V1 := ⟨_, rfl⟩
 obtain ⟨b1, sz1⟩ := alo1 W0 (twoR r m r' c' (.slice aa la ca) (.slice ab lb cb))
 rw [hV] at b1 sz1
 have dd : Cel V1 W0.heap.size 24 [.int .i64 (r : Int), .int .i64 (m : Int), .slice aa la ca, .int .i64 r', .int .i64 c', .slice ab lb cb] := by rw [← hV]; exact Cel.new _ _ _
 have HCK := hid (checkAll_un dd ((ha.now b0).now b1) hb)
 have x0 := pa.at (i := 0) rfl
 have x1 := pa.at (i := 1) rfl
 have x2 := pa.at (i := 2) rfl
 have y0 := pb.at (i := 0) rfl
 have y1 := pb.at (i := 1) rfl
 have y2 := pb.at (i := 2) rfl
 rw [← hW] at x0 x1 x2 y0 y1 y2
 have PR := hid (pr.step b1)
 have G1 := hid (below_step b0 b1)
 have EQ : Hid ((((w.alloc (matO r m (.slice aa la ca))).alloc (.cells #[.int .i64 r', .int .i64 c', .slice ab lb cb] 24)).alloc mbox).alloc (twoR r m r' c' (.slice aa la ca) (.slice ab lb cb)) = V1) := by unfold Hid; rw [← hV, ← hW]
 have SW : Hid (W0.heap.size = w.heap.size + 1 + 1 + 1) := sz0
 rw [SW.out] at HCK
 clear ha hb b0 sz0 hW pa pb pr b1 sz1 hV dd
 go_enter Tryz.func15, Tryz.ntmps15
 go_wp2_with fail
 rw [EQ.out]
 refine HCK.out.mono ?_
 rintro e w1 ⟨rfl, b⟩
 have PR1 := hid (PR.out.step b)
 have G2 := hid (below_step G1.out b)
 have r0 := PR1.out.at (i := 0) rfl
 have r1 := PR1.out.at (i := 1) rfl
 have r2 := PR1.out.at (i := 2) rfl
 have f0 := PR1.out.fz 0
 have f1 := PR1.out.fz 1
 have f2 := PR1.out.fz 2
 have FIN : Hid (GivesME w 1 (.returned (.tuple #[mzero, .int .i64 1])) (put3 w1 (w.heap.size + 1 + 1) (.int .i64 0) (.int .i64 0) (.slice none 0 0))) := ⟨rfl, below_put3 G2.out (by omega) _ _ _⟩
 have PF := hid (PR1.out.put3 (.int .i64 0) (.int .i64 0) (.slice none 0 0))
 clear HCK b x0 x1 x2 y0 y1 y2 EQ PR G1 PR1
 go_wp2
 exact bodyPost_ret (mback1 Tryz.results15 PF.out _ (by rfl) (by rfl)) rfl FIN.out

end Go.Proofs.YtnpcfohimlfbdaaGreat
namespace Go.Proofs.YtnpcfohimlfbdaaGreat

theorem turn_at {r c i j : Nat} {zs : List Int} (hi : i < r) (hj : j < c) : (turnL9 r c zs).getD (j * r + i) 0 = zs.getD (i * c + j) 0 := by
 unfold turnL9
 rw [flat_getD hi cols_len (by simp [colsL]; exact hj)]
 have e1 : (colsL r c zs 0).getD j [] = colL c zs 0 r j := by simp [colsL, hj]
 rw [e1]
 simp [colL, hi]
end Go.Proofs.YtnpcfohimlfbdaaGreat
