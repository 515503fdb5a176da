/-
  RowOps10: row, drop, lay.
-/
import Derived.Test.YtachdicdfhfoaaaQByR10ToMulP10
namespace Go.Proofs.Ytachdicdfhfoaaa
open Go.RowKit Go.ChangeMaps Go.MapKept
set_option linter.unusedVariables false

/-- The form of an integer's value. -/
def IsZ (v : Value) : Prop := ∃ (m : Bool) (a : Option Addr) (l c : Nat), v = .agg #[.bool m, .slice a l c]
def AllZ (f : Nat × Nat → Option Value) : Prop := ∀ s v, f s = some v → IsZ v
theorem Nm.allZ {w : World} {f : Nat × Nat → Option Value} {F : Nat → Nat → Int} {k : Nat} (h : Nm w f F k) : AllZ f := fun s v hs => by
  obtain ⟨-, z⟩ := h.at hs
  obtain ⟨m, xs, a, c, e, -⟩ := z
  exact ⟨m, a, xs.length, c, e⟩
theorem rowf_skip {f : Nat × Nat → Option Value} {left : Nat × Nat → Bool} {i i' j : Nat} (hne : i' ≠ i) : ∀ s, rowf f left i s = rowf f (fun x => left x && !decide (x = (i', j))) i s := fun s => rowf_other (fun e => hne e.symm) s
theorem rowf_start {f : Nat × Nat → Option Value} {i : Nat} : ∀ s, Option.none = rowf f (fun s => (f s).isSome) i s := fun s => by
  unfold rowf
  by_cases e : s.1 = i ∧ (f s).isSome = false
  · rw [if_pos e]
    exact (Option.not_isSome_iff_eq_none.1 (by simp [e.2])).symm
  · rw [if_neg e]
def HypRow (w : World) (b n i : Nat) (f : Nat × Nat → Option Value) (gk : Nat) (wx : World) : Prop :=
  ∃ left m, Rg spv spok wx b (w.heap.size + 1) f n left gk ∧ Mp spv spok wx w.heap.size (rowf f left i) m ∧ Below w.heap.size w wx
def RowedG (w : World) (i : Nat) (f : Nat × Nat → Option Value) (e : Ending) (w' : World) : Prop := ∃ m, e = .returned (.map (some w.heap.size)) ∧ Mp spv spok w' w.heap.size (rowf f (fun _ => false) i) m ∧ Below w.heap.size w w'
set_option maxHeartbeats 3200000 in
set_option maxRecDepth 100000 in
theorem row_any {w : World} {b r c n i : Nat} {f : Nat × Nat → Option Value} (hm : Mp spv spok w b f n) (hz : AllZ f) (hw : Wi f r c) (hr : r ≤ 1048576) (hc : c ≤ 1048576) :
    Calls Try.prog 43 #[.map (some b), .int .i64 (i : Int)] w (RowedG w i f) := by
  obtain ⟨W0, hW⟩ : ∃ W0, w.alloc (.map #[] 0) = W0 := ⟨_, rfl⟩
  obtain ⟨b0, sz0⟩ := alo1 w (.map #[] 0)
  rw [hW] at b0 sz0
  have MB : Mp spv spok W0 w.heap.size (fun _ => Option.none) 0 := by rw [← hW]; exact Mp.made spv spok w
  have HM0 : Hid (Mp spv spok (w.alloc (.map #[] 0)) b f n) := by unfold Hid; rw [hW]; exact hm.now b0
  have hmk := fun w => run_makeMap (P := Try.prog) 66 w
  have HMB := hid MB
  have HZZ := hid hz
  have HWI := hid hw
  have HRC := hid (And.intro hr hc)
  have HLB := hid hm.lt
  have EW := hid hW
  have SZ := hid sz0
  have G0 := hid b0
  clear hm hz hw hr hc b0 sz0 hW MB
  go_enter Try.func43, Try.ntmps43
  go_wp2_with (first | (at_range; refine wpList_range10 _ rfl _ _ rfl _ _ ks10 Try.map10 b n f rfl HM0.out ?_; intro w4 hrg hbw hsz) | go_in)
  go_frame
  rw [EW.out] at hrg hbw hsz
  rw [SZ.out] at hrg hsz
  try simp only [World.size_alloc]
  have H0 : Hid (HypRow w b n i f n w4) := ⟨_, 0, hrg, (HMB.out.now hbw).ext rowf_start, below_step G0.out hbw⟩
  clear hrg hbw hsz HM0 HMB EW SZ G0 hmk
  go_loopg [6] n (fun gk s4 wx => HypRow w b n i f gk wx)
  case atStart => exact H0.out
  case round =>
    clear H0
    obtain ⟨left, mm, hrg, hmm, hG⟩ := hrel
    have RG := hid hrg
    have MM := hid hmm
    have G := hid hG
    clear hrg hmm hG
    go_wp2_with (first | (at_next; refine wpList_next10 _ rfl _ rfl _ ks10 b (w.heap.size + 1) n f left gk rfl RG.out ?_ ?_) | go_in)
    · intro hl
      have FIN : Hid (RowedG w i f (.returned (.map (some w.heap.size))) wr) := ⟨mm, rfl, by rw [← (funext hl.out : left = fun _ => false)]; exact MM.out, G.out⟩
      clear RG MM G hl
      go_wp2
      go_ret
      exact FIN.out
    · intro i' j v w5 cnt hca hen
      obtain ⟨hok, hfs, hls, hrg, hlt, hgr, hsz⟩ := hca.out
      clear hca
      obtain ⟨m, a, l, c0, rfl⟩ := HZZ.out _ _ hfs
      have hlt5 : w.heap.size < w5.heap.size := Nat.lt_of_lt_of_le MM.out.lt hgr.size
      have RG1 := hid hrg
      have MM1 := hid (MM.out.kept hgr (fun e => by simp at e))
      have G1 := hid (below_grown G.out hgr (by omega))
      have HLS := hid hls
      have HOK := hid hok
      have HFS := hid hfs
      have HLT := hid hlt
      clear hls hok hfs hrg hgr hsz RG MM G hlt
      obtain ⟨V6, hV⟩ : ∃ V6, (w5.alloc (.cells #[.int .i64 (i' : Int), .int .i64 (j : Int)] 71)).alloc (duo (.bool m) (.slice a l c0)) = V6 := ⟨_, rfl⟩
      obtain ⟨b6, sz6⟩ := alloc2 w5 (.cells #[.int .i64 (i' : Int), .int .i64 (j : Int)] 71) (duo (.bool m) (.slice a l c0))
      rw [hV] at b6 sz6
      have PS : Cel V6 w5.heap.size 71 [.int .i64 (i' : Int), .int .i64 (j : Int)] := by
        rw [← hV]
        exact (Cel.new w5 71 [.int .i64 (i' : Int), .int .i64 (j : Int)]).step ((Below.refl _ _).alloc (Nat.le_refl _) _)
      have PV : Duo V6 (w5.heap.size + 1) (.bool m) (.slice a l c0) := by
        rw [← hV]
        have := heap_alloc_new (w5.alloc (.cells #[.int .i64 (i' : Int), .int .i64 (j : Int)] 71)) (duo (.bool m) (.slice a l c0))
        simpa [Duo] using this
      have s0 := PS.at (i := 0) rfl
      have s1 := PS.at (i := 1) rfl
      have v0 := PV.c0
      have v1 := PV.c1
      rw [← hV] at s0 s1 v0 v1
      have EV := hid hV
      have RG2 := hid (RG1.out.now b6)
      have MM2 := hid (MM1.out.now b6)
      have G2 := hid (below_step G1.out b6)
      simp only [spv] at hen ⊢
      clear hV b6 sz6 RG1 MM1 G1 PS PV
      by_cases hi : i' = i
      · subst hi
        have ht : ((i' : Int) == (i' : Int)) = true := by simp
        have HMx : Hid (Mp spv spok ((w5.alloc (.cells #[.int .i64 (i' : Int), .int .i64 (j : Int)] 71)).alloc (duo (.bool m) (.slice a l c0))) w.heap.size (rowf f left i') mm) := by unfold Hid; rw [EV.out]; exact MM2.out
        have HRR : Hid (mm < maxLen) := wide_room HRC.out.1 HRC.out.2 (MM2.out.count2 (rowf_wi HWI.out))
        go_wp2_with (first | (at_mapUpdate; refine wpList_store10h _ rfl _ _ _ _ rfl _ _ ks10 Try.map10 w.heap.size mm (rowf f left i') rfl HMx.out HRR.out (i', j) _ rfl rfl HOK.out ?_) | go_in)
        intro w9 hst
        obtain ⟨p1, p2⟩ := hst.out
        rw [EV.out] at p2
        have HN1 : Hid (HypRow w b n i' f cnt w9) := ⟨_, _, RG2.out.kept p2 (fun e => by have := HLB.out; simp at e; omega) (fun e => by simp at e), p1.ext (rowf_same HFS.out HLS.out), below_grown G2.out p2 (Nat.le_refl _)⟩
        clear hst p1 p2 RG2 MM2 G2 HMx s0 s1 v0 v1 EV hen
        go_wp2_with fail
        go_roundg cnt
        case rel => exact HN1.out
        case measure => exact HLT.out
      · have ht : ((i' : Int) == (i : Int)) = false := by simp; omega
        have HN1 : Hid (HypRow w b n i f cnt V6) := ⟨_, _, RG2.out, MM2.out.ext (rowf_skip hi), G2.out⟩
        clear RG2 MM2 G2 hi
        go_wp2_with fail
        rw [EV.out]
        go_roundg cnt
        case rel => exact HN1.out
        case measure => exact HLT.out
/-- Without what of row i has come. -/
def drf (f : Nat × Nat → Option Value) (left : Nat × Nat → Bool) (i : Nat) : Nat × Nat → Option Value := fun s => if s.1 = i ∧ left s = false then Option.none else f s
theorem drf_start {f : Nat × Nat → Option Value} {i : Nat} : ∀ s, f s = drf f (fun s => (f s).isSome) i s := fun s => by
  unfold drf
  by_cases e : s.1 = i ∧ (f s).isSome = false
  · rw [if_pos e]
    exact Option.not_isSome_iff_eq_none.1 (by simp [e.2])
  · rw [if_neg e]
theorem drf_same {f : Nat × Nat → Option Value} {left : Nat × Nat → Bool} {i j : Nat} : ∀ s, upd (drf f left i) (i, j) Option.none s = drf f (fun x => left x && !decide (x = (i, j))) i s := fun s => by
  unfold upd drf
  by_cases e : s = (i, j)
  · subst e; simp
  · simp [e]
theorem drf_skip {f : Nat × Nat → Option Value} {left : Nat × Nat → Bool} {i i' j : Nat} (hne : i' ≠ i) : ∀ s, drf f left i s = drf f (fun x => left x && !decide (x = (i', j))) i s := fun s => by
  unfold drf
  by_cases e : s = (i', j)
  · subst e; simp [hne]
  · simp [e]
theorem Rg.ext {w : World} {b r n cnt : Nat} {f f' : Nat × Nat → Option Value} {left left' : Nat × Nat → Bool} (h : Rg spv spok w b r f n left cnt) (e : ∀ s, f s = f' s) (e' : ∀ s, left s = left' s) : Rg spv spok w b r f' n left' cnt := by
  rw [← (funext e : f = f'), ← (funext e' : left = left')]; exact h
/-- delete within the loop, at the operation. -/
def DroppedR (w : World) (b r n cnt : Nat) (f : Nat × Nat → Option Value) (left : Nat × Nat → Bool) (s : Nat × Nat) (w' : World) : Prop := ∃ n' cnt', Rg spv spok w' b r (upd f s Option.none) n' (fun x => left x && !decide (x = s)) cnt' ∧ cnt' ≤ cnt ∧ w.grownBy w' (some b)
theorem wpList_dropR10 {P : Program} (w : World) {ops : Array Oper} {rest : List Oper} {o : Oper} {a : Act} {Q : Exit → Act → World → Prop} (hg : o.guard = none) (m x : Operand) (t k : TypeId) (hop : o.op = Op.call { callee := Callee.builtin Builtin.delete, args := #[m, x], argTypes := #[t, k] }) (e : TypeId) (K : Ks P k spv spok) (ht : P.underlying t = some (.map k e))
    (b r n cnt : Nat) (f : Nat × Nat → Option Value) (left : Nat × Nat → Bool) (hm : a.eval m = .map (some b)) (h : Rg spv spok w b r f n left cnt) (s : Nat × Nat) (hx : a.eval x = spv s) (hs : spok s)
    (hK : ∀ w', Hid (DroppedR w b r n cnt f left s w') → wpList P ops Q rest (a.put o.dst (.tuple #[])) w') : wpList P ops Q (o :: rest) a w := by
  refine wpList_plain hg fun K' hK' => ?_
  obtain ⟨w', cnt', hrun, r1, r2, r3, r4⟩ := h.drop K ht hs o.type
  unfold Oper.wp
  simp [execOp, hop, resolve, invoke, builtin, hm, hx, hrun, Result.andThen]
  exact hK' _ _ (hK w' ⟨_, cnt', r1, r2, r3⟩)
def HypDr (w : World) (b i : Nat) (f : Nat × Nat → Option Value) (gk : Nat) (wx : World) : Prop :=
  ∃ left n, Rg spv spok wx b w.heap.size (drf f left i) n left gk ∧ w.grownBy wx (some b)
def DropD (w : World) (b i : Nat) (f : Nat × Nat → Option Value) (e : Ending) (w' : World) : Prop := ∃ m, e = .returned (.tuple #[]) ∧ Mp spv spok w' b (fun s => if s.1 = i then Option.none else f s) m ∧ w.grownBy w' (some b)
set_option maxHeartbeats 3200000 in
set_option maxRecDepth 100000 in
theorem drop_any {w : World} {b n i : Nat} {f : Nat × Nat → Option Value} (hm : Mp spv spok w b f n) : Calls Try.prog 44 #[.map (some b), .int .i64 (i : Int)] w (DropD w b i f) := by
  have HM0 := hid hm
  have HLB := hid hm.lt
  clear hm
  go_enter Try.func44, Try.ntmps44
  go_wp2_with (first | (at_range; refine wpList_range10 _ rfl _ _ rfl _ _ ks10 Try.map10 b n f rfl HM0.out ?_; intro w4 hrg hbw hsz) | go_in)
  go_frame
  have H0 : Hid (HypDr w b i f n w4) := ⟨_, n, hrg.ext drf_start (fun _ => rfl), gb_below ⟨rfl, rfl, rfl, Nat.le_refl _, fun _ _ _ => rfl⟩ hbw⟩
  clear hrg hbw hsz HM0
  go_loopg [4] n (fun gk s4 wx => HypDr w b i f gk wx)
  case atStart => exact H0.out
  case round =>
    clear H0
    obtain ⟨left, n', hrg, hG⟩ := hrel
    have RG := hid hrg
    have G := hid hG
    clear hrg hG
    go_wp2_with (first | (at_next; refine wpList_next10 _ rfl _ rfl _ ks10 b w.heap.size n' (drf f left i) left gk rfl RG.out ?_ ?_) | go_in)
    · intro hl
      have FIN : Hid (DropD w b i f (.returned (.tuple #[])) wr) := ⟨n', rfl, RG.out.mp.ext (fun s => by simp [drf, show left s = false from hl.out s]), G.out⟩
      clear RG G hl
      go_wp2
      first
        | (refine bodyPost_ret (results_none rfl _ _ _) rfl ?_)
        | ((try simp only [Exit.inBlock, Exit.then]); refine bodyPost_end (results_none rfl _ _ _) rfl ?_)
      exact FIN.out
    · intro i' j v w5 cnt hca hen
      obtain ⟨hok, hfs, hls, hrg, hlt, hgr, hsz⟩ := hca.out
      clear hca
      have RG1 := hid hrg
      have G1 := hid (gb_it G.out hgr (Nat.le_refl _))
      have HOK := hid hok
      have HLT := hid hlt
      clear hls hok hfs hrg hgr hsz RG G hlt
      obtain ⟨V6, hV⟩ : ∃ V6, w5.alloc (.cells #[.int .i64 (i' : Int), .int .i64 (j : Int)] 71) = V6 := ⟨_, rfl⟩
      obtain ⟨b6, sz6⟩ := alo1 w5 (.cells #[.int .i64 (i' : Int), .int .i64 (j : Int)] 71)
      rw [hV] at b6 sz6
      have PS : Cel V6 w5.heap.size 71 [.int .i64 (i' : Int), .int .i64 (j : Int)] := by rw [← hV]; exact Cel.new w5 71 [.int .i64 (i' : Int), .int .i64 (j : Int)]
      have s0 := PS.at (i := 0) rfl
      have s1 := PS.at (i := 1) rfl
      rw [← hV] at s0 s1
      have EV := hid hV
      have RG2 := hid (RG1.out.now b6)
      have G2 := hid (gb_below G1.out b6)
      simp only [spv] at hen ⊢
      clear hV b6 sz6 RG1 G1 PS
      by_cases hi : i' = i
      · subst hi
        have ht : ((i' : Int) == (i' : Int)) = true := by simp
        have HRx : Hid (Rg spv spok (w5.alloc (.cells #[.int .i64 (i' : Int), .int .i64 (j : Int)] 71)) b w.heap.size (drf f left i') n' (fun x => left x && !decide (x = (i', j))) cnt) := by unfold Hid; rw [EV.out]; exact RG2.out
        go_wp2_with (first | (at_delete; refine wpList_dropR10 _ rfl _ _ _ _ rfl _ ks10 Try.map10 b w.heap.size n' cnt (drf f left i') _ rfl HRx.out (i', j) rfl HOK.out ?_) | go_in)
        intro w9 hst
        obtain ⟨n9, cnt9, p1, p2, p3⟩ := hst.out
        rw [EV.out] at p3
        have HN1 : Hid (HypDr w b i' f cnt9 w9) := ⟨_, n9, (p1.ext drf_same (fun s => by show ((left s && !decide (s = (i', j))) && !decide (s = (i', j))) = (left s && !decide (s = (i', j))); cases left s <;> cases decide (s = (i', j)) <;> rfl)), gb_b G2.out p3⟩
        have HMM : Hid (cnt9 < gk) := by have := HLT.out; unfold Hid; omega
        clear hst p1 p2 p3 RG2 G2 HRx s0 s1 EV hen
        go_wp2_with fail
        go_roundg cnt9
        case rel => exact HN1.out
        case measure => exact HMM.out
      · have ht : ((i' : Int) == (i : Int)) = false := by simp; omega
        have HN1 : Hid (HypDr w b i f cnt V6) := ⟨_, n', RG2.out.ext (drf_skip hi) (fun _ => rfl), G2.out⟩
        clear RG2 G2 hi
        go_wp2_with fail
        rw [EV.out]
        go_roundg cnt
        case rel => exact HN1.out
        case measure => exact HLT.out
/-- Row i is what of row p of another map has come. -/
def lyf (f fr : Nat × Nat → Option Value) (left : Nat × Nat → Bool) (i p : Nat) : Nat × Nat → Option Value := fun s => if s.1 = i then (if left (p, s.2) then Option.none else fr (p, s.2)) else f s
theorem lyf_start {f fr : Nat × Nat → Option Value} {i p : Nat} (h : ∀ j, f (i, j) = Option.none) : ∀ s, f s = lyf f fr (fun s => (fr s).isSome) i p s := fun s => by
  unfold lyf
  by_cases e : s.1 = i
  · rw [if_pos e]
    have : f s = Option.none := by have := h s.2; rwa [← e] at this
    rw [this]
    cases q : fr (p, s.2) <;> simp [q]
  · rw [if_neg e]
theorem lyf_step {f fr : Nat × Nat → Option Value} {left : Nat × Nat → Bool} {i p j : Nat} {v : Value} (hv : fr (p, j) = some v) : ∀ s, upd (lyf f fr left i p) (i, j) (some v) s = lyf f fr (fun x => left x && !decide (x = (p, j))) i p s := fun s => by
  obtain ⟨s1, s2⟩ := s
  unfold upd lyf
  by_cases e1 : s1 = i
  · subst e1
    by_cases e2 : s2 = j
    · subst e2; simp [hv]
    · simp [e2]
  · simp [e1]
theorem lyf_wi {f fr : Nat × Nat → Option Value} {left : Nat × Nat → Bool} {i p r c : Nat} (h : Wi f r c) (h' : Wi fr r c) (hi : i < r) : Wi (lyf f fr left i p) r c := fun s v hs => by
  unfold lyf at hs
  split at hs
  · rename_i e
    split at hs
    · cases hs
    · exact ⟨by omega, (h' (p, s.2) v hs).2⟩
  · exact h s v hs
def HypLy (w : World) (b br n i p : Nat) (f fr : Nat × Nat → Option Value) (gk : Nat) (wx : World) : Prop :=
  ∃ left m, Rg spv spok wx br w.heap.size fr n left gk ∧ Mp spv spok wx b (lyf f fr left i p) m ∧ w.grownBy wx (some b)
def Layed (w : World) (b i p : Nat) (f fr : Nat × Nat → Option Value) (e : Ending) (w' : World) : Prop := ∃ m, e = .returned (.tuple #[]) ∧ Mp spv spok w' b (fun s => if s.1 = i then fr (p, s.2) else f s) m ∧ w.grownBy w' (some b)
set_option maxHeartbeats 3200000 in
set_option maxRecDepth 100000 in
theorem lay_any {w : World} {b br r c n m0 i p : Nat} {f fr : Nat × Nat → Option Value} (hb : Mp spv spok w b f m0) (hw : Wi f r c) (hm : Mp spv spok w br fr n) (hw' : Wi fr r c) (hz : AllZ fr) (hrow : ∀ s v, fr s = some v → s.1 = p) (hnone : ∀ j, f (i, j) = Option.none) (hne : b ≠ br) (hi : i < r) (hr : r ≤ 1048576) (hc : c ≤ 1048576) :
    Calls Try.prog 45 #[.map (some b), .int .i64 (i : Int), .map (some br)] w (Layed w b i p f fr) := by
  have HM0 := hid hm
  have HB0 := hid hb
  have HZZ := hid hz
  have HWI := hid hw
  have HWR := hid hw'
  have HROW := hid hrow
  have HNN := hid hnone
  have HNE := hid hne
  have HI := hid hi
  have HRC := hid (And.intro hr hc)
  have HLB := hid (And.intro hb.lt hm.lt)
  clear hm hb hz hw hw' hrow hnone hne hi hr hc
  go_enter Try.func45, Try.ntmps45
  go_wp2_with (first | (at_range; refine wpList_range10 _ rfl _ _ rfl _ _ ks10 Try.map10 br n fr rfl HM0.out ?_; intro w4 hrg hbw hsz) | go_in)
  go_frame
  have H0 : Hid (HypLy w b br n i p f fr n w4) := ⟨_, m0, hrg, (HB0.out.now hbw).ext (lyf_start HNN.out), gb_below ⟨rfl, rfl, rfl, Nat.le_refl _, fun _ _ _ => rfl⟩ hbw⟩
  clear hrg hbw hsz HM0 HB0
  go_loopg [6] n (fun gk s4 wx => HypLy w b br n i p f fr gk wx)
  case atStart => exact H0.out
  case round =>
    clear H0
    obtain ⟨left, mm, hrg, hmm, hG⟩ := hrel
    have RG := hid hrg
    have MM := hid hmm
    have G := hid hG
    clear hrg hmm hG
    go_wp2_with (first | (at_next; refine wpList_next10 _ rfl _ rfl _ ks10 br w.heap.size n fr left gk rfl RG.out ?_ ?_) | go_in)
    · intro hl
      have FIN : Hid (Layed w b i p f fr (.returned (.tuple #[])) wr) := ⟨mm, rfl, MM.out.ext (fun s => by simp [lyf, show left (p, s.2) = false from hl.out _]), G.out⟩
      clear RG MM G hl
      go_wp2
      first
        | (refine bodyPost_ret (results_none rfl _ _ _) rfl ?_)
        | ((try simp only [Exit.inBlock, Exit.then]); refine bodyPost_end (results_none rfl _ _ _) rfl ?_)
      exact FIN.out
    · intro p' j v w5 cnt hca hen
      obtain ⟨hok, hfs, hls, hrg, hlt, hgr, hsz⟩ := hca.out
      clear hca
      obtain rfl : p' = p := HROW.out _ _ hfs
      obtain ⟨m, a, l, c0, rfl⟩ := HZZ.out _ _ hfs
      have RG1 := hid hrg
      have MM1 := hid (MM.out.kept hgr (fun e => by have := HLB.out; simp at e; omega))
      have G1 := hid (gb_it G.out hgr (Nat.le_refl _))
      have HOK : Hid (spok (i, j)) := ⟨by have := HI.out; have := HRC.out; show i < 1048576; omega, hok.2⟩
      have HFS := hid hfs
      have HLT := hid hlt
      clear hls hok hfs hrg hgr hsz RG MM G hlt
      obtain ⟨V6, hV⟩ : ∃ V6, (w5.alloc (.cells #[.int .i64 (p' : Int), .int .i64 (j : Int)] 71)).alloc (duo (.bool m) (.slice a l c0)) = V6 := ⟨_, rfl⟩
      obtain ⟨b6, sz6⟩ := alloc2 w5 (.cells #[.int .i64 (p' : Int), .int .i64 (j : Int)] 71) (duo (.bool m) (.slice a l c0))
      rw [hV] at b6 sz6
      have PS : Cel V6 w5.heap.size 71 [.int .i64 (p' : Int), .int .i64 (j : Int)] := by
        rw [← hV]
        exact (Cel.new w5 71 [.int .i64 (p' : Int), .int .i64 (j : Int)]).step ((Below.refl _ _).alloc (Nat.le_refl _) _)
      have PV : Duo V6 (w5.heap.size + 1) (.bool m) (.slice a l c0) := by
        rw [← hV]
        have := heap_alloc_new (w5.alloc (.cells #[.int .i64 (p' : Int), .int .i64 (j : Int)] 71)) (duo (.bool m) (.slice a l c0))
        simpa [Duo] using this
      have s0 := PS.at (i := 0) rfl
      have s1 := PS.at (i := 1) rfl
      have v0 := PV.c0
      have v1 := PV.c1
      rw [← hV] at s0 s1 v0 v1
      have EV := hid hV
      have RG2 := hid (RG1.out.now b6)
      have MM2 := hid (MM1.out.now b6)
      have G2 := hid (gb_below G1.out b6)
      simp only [spv] at hen ⊢
      clear hV b6 sz6 RG1 MM1 G1 PS PV
      have HMx : Hid (Mp spv spok ((w5.alloc (.cells #[.int .i64 (p' : Int), .int .i64 (j : Int)] 71)).alloc (duo (.bool m) (.slice a l c0))) b (lyf f fr left i p') mm) := by unfold Hid; rw [EV.out]; exact MM2.out
      have HRR : Hid (mm < maxLen) := wide_room HRC.out.1 HRC.out.2 (MM2.out.count2 (lyf_wi HWI.out HWR.out HI.out))
      go_wp2_with (first | (at_mapUpdate; refine wpList_store10h _ rfl _ _ _ _ rfl _ _ ks10 Try.map10 b mm (lyf f fr left i p') rfl HMx.out HRR.out (i, j) _ rfl rfl HOK.out ?_) | go_in)
      intro w9 hst
      obtain ⟨p1, p2⟩ := hst.out
      rw [EV.out] at p2
      have HN1 : Hid (HypLy w b br n i p' f fr cnt w9) := ⟨_, _, RG2.out.kept p2 (fun e => HNE.out (by simpa using e.symm)) (fun e => by have := HLB.out; simp at e; omega), p1.ext (lyf_step HFS.out), gb_b G2.out p2⟩
      clear hst p1 p2 RG2 MM2 G2 HMx s0 s1 v0 v1 EV hen
      go_wp2_with fail
      go_roundg cnt
      case rel => exact HN1.out
      case measure => exact HLT.out
end Go.Proofs.Ytachdicdfhfoaaa
