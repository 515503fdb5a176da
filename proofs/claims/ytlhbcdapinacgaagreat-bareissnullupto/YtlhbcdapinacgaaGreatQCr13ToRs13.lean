/-
  QCr13ToRs13: Cr13, Rs13, joined.
-/
import Derived.Test.YtlhbcdapinacgaaGreatQBz13ToSt13
import Derived.Test.YtlhbcdapinacgaaGreatQPk13ToSd13
import Derived.Test.YtlhbcdapinacgaaGreatQGi10ToUp13
import Derived.Test.YtlhbcdapinacgaaGreatQEach9ToColsP9

/- Cr13 -/
namespace Go.Proofs.YtlhbcdapinacgaaGreat
set_option linter.unusedVariables false

theorem su_cut {r : Nat} {f : Nat → Int} : ∀ {m : Nat}, r ≤ m → (∀ k, r ≤ k → k < m → f k = 0) → su m f = su r f
  | 0, h, _ => by
    obtain rfl : r = 0 := by omega
    rfl
  | m + 1, h, hz => by
    by_cases e : r = m + 1
    · subst e; rfl
    · show su m f + f m = su r f
      rw [su_cut (m := m) (by omega) (fun k h1 h2 => hz k h1 (by omega)), hz m (by omega) (by omega)]
      omega
theorem Stz.more {A : Nat → Nat → Int} {n i : Nat} {rs cs : List Nat} {odd : Bool} (h : Stz A n i rs cs odd) {row : Nat} (hr : row < i) (M : Nat → Nat) (hM : ∀ b, b < rs.length + 1 → M b < n) : det (rs.length + 1) (fun a b => A ((rs ++ [row]).getD a 0) (M b)) = 0 := by
  have old : ∀ a, a < rs.length → (rs ++ [row]).getD a 0 = rs.getD a 0 := fun a ha => by simp [List.getElem?_append_left ha]
  have new : (rs ++ [row]).getD rs.length 0 = row := by simp
  by_cases hm : row ∈ rs
  · obtain ⟨t, ht, e⟩ := List.getElem_of_mem hm
    have et : rs.getD t 0 = row := by simp [ht, e]
    exact (det_alt (rs.length + 1)).same (i := t) (k := rs.length) (by omega) (by omega) (by omega) fun j hj => by rw [old t ht, new, et]
  · obtain ⟨k, h1, h2, h3⟩ := h.drop row hr hm
    obtain ⟨e, e0, he⟩ := mi_lin A (gd rs) (gd cs) k row
    refine det_dep (r := rs.length) _ (by omega) (fun q => if q < k then e q else if q = rs.length then e k else 0) ?_ fun j hj => ?_
    · rw [if_neg (by omega), if_pos rfl, e0]
      exact h.nz k h1
    · have hz := h3 (M j) (hM j hj)
      rw [he] at hz
      show su rs.length _ + (if rs.length < k then e rs.length else if rs.length = rs.length then e k else 0) * A ((rs ++ [row]).getD rs.length 0) (M j) = 0
      rw [su_cut (r := k) h1 fun q q1 q2 => by rw [if_neg (by omega), if_neg (by omega)]; simp]
      rw [if_neg (by omega), if_pos rfl, new]
      have e1 : su k (fun q => (if q < k then e q else if q = rs.length then e k else 0) * A ((rs ++ [row]).getD q 0) (M j)) = su k fun a => e a * A (bor k (gd rs) row a) (M j) := su_congr fun q hq => by rw [if_pos hq, old q (by omega), bor_lt hq]
      rw [e1]
      have e2 : su (k + 1) (fun a => e a * A (bor k (gd rs) row a) (M j)) = su k (fun a => e a * A (bor k (gd rs) row a) (M j)) + e k * A row (M j) := by
        show _ + e k * A (bor k (gd rs) row k) (M j) = _
        rw [bor_eq]
      rw [← e2]
      exact hz
theorem Stz.dne {A : Nat → Nat → Int} {n i : Nat} {rs cs : List Nat} {odd : Bool} (h : Stz A n i rs cs odd) : detS A rs cs odd ≠ 0 := by
  have h1 := h.nz rs.length (Nat.le_refl _)
  unfold detS
  cases odd <;> simp [sgb] <;> exact h1
/-- Rising integers with the same members. -/
theorem upI_eq : ∀ {l m : List Int}, l.Pairwise (· < ·) → m.Pairwise (· < ·) → (∀ x, x ∈ l ↔ x ∈ m) → l = m
  | [], [], _, _, _ => rfl
  | [], b :: m, _, _, h => by have := (h b).2 (by simp); simp at this
  | a :: l, [], _, _, h => by have := (h a).1 (by simp); simp at this
  | a :: l, b :: m, hl, hm, h => by
    rw [List.pairwise_cons] at hl hm
    have e : a = b := by
      rcases List.mem_cons.1 ((h a).1 (by simp)) with q | q
      · exact q
      · rcases List.mem_cons.1 ((h b).2 (by simp)) with q2 | q2
        · exact q2.symm
        · have := hm.1 a q; have := hl.1 b q2; omega
    subst e
    congr 1
    refine upI_eq hl.2 hm.2 fun x => ⟨fun hx => ?_, fun hx => ?_⟩
    · rcases List.mem_cons.1 ((h x).1 (by simp [hx])) with q | q
      · subst q; have := hl.1 x hx; omega
      · exact q
    · rcases List.mem_cons.1 ((h x).2 (by simp [hx])) with q | q
      · subst q; have := hm.1 x hx; omega
      · exact q
theorem ins_perm (c : Nat) : ∀ l : List Nat, (ins c l).Perm (c :: l)
  | [] => List.Perm.refl _
  | x :: l => by
    unfold ins
    split
    · exact List.Perm.refl _
    · exact ((ins_perm c l).cons x).trans (List.Perm.swap _ _ _)
theorem fold_perm : ∀ cs l : List Nat, (cs.foldl (fun l c => ins c l) l).Perm (cs ++ l)
  | [], l => List.Perm.refl _
  | c :: cs, l => by
    rw [List.foldl_cons]
    exact ((fold_perm cs (ins c l)).trans ((ins_perm c l).append_left cs)).trans List.perm_middle
theorem srt_perm (cs : List Nat) : (srt cs).Perm cs := by
  have := fold_perm cs []
  rw [List.append_nil] at this
  exact this
theorem sorted_srt {cs : List Nat} (h1 : (srt cs).Pairwise (· < ·)) (h2 : (srt cs).length = cs.length) (h3 : ∀ c, c ∈ srt cs ↔ c ∈ cs) : (cs.map fun (a : Nat) => (a : Int)).mergeSort (fun x y => decide (x ≤ y)) = (srt cs).map fun (a : Nat) => (a : Int) := by
  have hn : cs.Nodup := (srt_perm cs).nodup_iff.1 (h1.imp fun hab => Nat.ne_of_lt hab)
  have hperm := List.mergeSort_perm (cs.map fun (a : Nat) => (a : Int)) (fun x y => decide (x ≤ y))
  have hs : ((cs.map fun (a : Nat) => (a : Int)).mergeSort (fun x y => decide (x ≤ y))).Pairwise fun a b => decide (a ≤ b) = true := List.pairwise_mergeSort (fun a b c h1 h2 => by simp at *; omega) (fun a b => by simp; omega) _
  have hnd : ((cs.map fun (a : Nat) => (a : Int)).mergeSort (fun x y => decide (x ≤ y))).Nodup := hperm.nodup_iff.2 (by
    refine List.Pairwise.map _ (fun a b hab => ?_) hn
    omega)
  refine upI_eq ?_ ?_ fun x => ?_
  · have := hs.and hnd
    exact this.imp fun ⟨p, q⟩ => by simp at p; omega
  · rw [List.pairwise_map]
    exact h1.imp fun hab => by omega
  · rw [hperm.mem_iff]
    simp only [List.mem_map]
    exact ⟨fun ⟨a, ha, e⟩ => ⟨a, (h3 a).2 ha, e⟩, fun ⟨a, ha, e⟩ => ⟨a, (h3 a).1 ha, e⟩⟩
end Go.Proofs.YtlhbcdapinacgaaGreat

/- Rs13 -/
namespace Go.Proofs.YtlhbcdapinacgaaGreat
open Go.RowKit Go.Shelf
set_option linter.unusedVariables false

def RiH (w : World) (l : List Nat) (gk : Nat) (s5 s6 : Value) (wx : World) : Prop := ∃ (t : Nat) (p : Int), s5 = .int .i64 p ∧ s6 = .int .i64 (t : Int) ∧ t ≤ l.length ∧ gk = l.length - t ∧ (∀ j, t ≤ j → j < l.length → p < (l.getD j 0 : Nat)) ∧ wx = w
set_option maxHeartbeats 1600000 in
set_option maxRecDepth 100000 in
theorem rising13 {B : Nat} {w : World} {v : Value} {l : List Nat} {n : Nat} (h : Ivs B w v l) (hu : l.Pairwise (· < ·)) (hn : ∀ x ∈ l, x < n) (hl : l.length ≤ 64) : Calls Tryz.prog 25 #[v, .int .i64 (n : Int)] w (Tru w) := by
  have H0 : Hid (RiH w l l.length (.int .i64 (-1)) (.int .i64 0) w) := ⟨0, -1, rfl, rfl, Nat.zero_le _, rfl, fun j _ _ => by omega, rfl⟩
  have HUP : Hid (∀ t j, t < j → j < l.length → l.getD t 0 < l.getD j 0) := fun t j h1 h2 => up_lt hu h1 h2
  have HN : Hid (∀ t, t < l.length → l.getD t 0 < n) := fun t ht => hn _ (by simp [ht])
  obtain ⟨aa, cap, rfl, hcap, hgg⟩ := h.form
  have HI := hid h
  have HGG := hid hgg
  obtain ⟨ll, hll⟩ : ∃ ll, l.length = ll := ⟨_, rfl⟩
  have ELL := hid hll
  rw [hll] at HI hl hcap H0 ⊢
  clear h hu hn hgg hll
  go_enter Tryz.func25, Tryz.ntmps25
  go_wp2_with fail
  go_loopg [5, 6] ll (fun gk s5 s6 wx => RiH w l gk s5 s6 wx)
  case atStart => exact H0.out
  case round =>
    clear H0
    obtain ⟨t, p, rfl, rfl, htl, hgk, hp, hwx⟩ := hrel
    rw [ELL.out] at htl hgk
    rw [hwx]
    clear hwx wr
    have HP := hid hp
    have HG := hid hgk
    clear hp hgk
    by_cases hlt : t < ll
    · have hlt' : (t : Int) < (ll : Int) := by omega
      have hw := wrapI9 (i := t) (by omega)
      have HMM : Hid (ll - (t + 1) < gk) := by unfold Hid; rw [HG.out]; omega
      obtain ⟨g, rfl⟩ := HGG.out (by rw [ELL.out]; omega)
      have c0 := HI.out.at (i := t) (by rw [ELL.out]; exact hlt)
      have HN1 : Hid (RiH w l (ll - (t + 1)) (.int .i64 ((l.getD t 0 : Nat) : Int)) (.int .i64 ((t + 1 : Nat) : Int)) w) := ⟨t + 1, _, rfl, rfl, by rw [ELL.out]; omega, by rw [ELL.out], fun j h1 h2 => by have := HUP.out t j h1 h2; omega, rfl⟩
      have q1 : ¬ ((l.getD t 0 : Nat) : Int) ≤ p := by have := HP.out t (Nat.le_refl _) (by rw [ELL.out]; exact hlt); omega
      have q2 : ¬ (n : Int) ≤ ((l.getD t 0 : Nat) : Int) := by have := HN.out t (by rw [ELL.out]; exact hlt); omega
      generalize l.getD t 0 = x at *
      clear HI HG HP HUP HN HGG ELL
      go_wp2_with fail
      go_roundg (ll - (t + 1))
      case rel => exact HN1.out
      case measure => exact HMM.out
    · have hlt' : ¬ (t : Int) < (ll : Int) := by omega
      clear HI HG HP HUP HN HGG
      go_wp2
      go_ret
      exact ⟨rfl, Below.refl _ _⟩
theorem step_append_ivs (w : World) {ops : Array Oper} {o : Oper} {a : Act} {K : Act → World → Prop} {Q : Exit → Act → World → Prop} {E : Prop}
    (hgd : o.guard = none) (s x : Operand) (hop : o.op = .call { callee := .builtin .append, args := #[s, x], argTypes := #[38, 38] })
    (B : Nat) (v : Value) (l : List Nat) (t : Nat) (hs : a.eval s = v) (hP : Ivs B w v l) (gx : Nat) (hx : a.eval x = .slice (some ⟨gx, 0, none⟩) 1 1) (hc : w.cell? ⟨gx, 0, none⟩ = some (.int .i64 (t : Int))) (hlen : l.length ≤ 1000000) (hBs : B ≤ w.heap.size)
    (hK : ∀ g' l' cap' w', l' = l.length + 1 → Hid (Ivs B w' (.slice (some ⟨g', 0, none⟩) l' cap') (l ++ [t])) → Hid (w.grownBy w' v.ownBlock) → Hid (v.ownBlock = some g' ∨ g' = w.heap.size) → K (a.put o.dst (.slice (some ⟨g', 0, none⟩) l' cap')) w') :
    if Region.wanted o (yielded ops a.tmps) = true then Oper.wp Tryz.prog o a w K Q else E := by
  obtain ⟨i, hi, hz, hsz, hby⟩ := info_parts Tryz.infoI13
  refine step_append_lies w hgd s x 38 hop B 3 i (.int .i64 0) 1 8 Tryz.underlying38 hi hz hsz hby rfl (by omega) v l.length _ hs hP ⟨gx, 0, none⟩ 1 1 [.int .i64 (t : Int)] hx rfl ?_ ?_ (by omega) (by unfold maxLen; omega) (by omega) hBs w.heap.size rfl ?_
  · intro j u' hj
    match j, hj with
    | 0, hj => simp at hj; subst hj; rw [head_add13]; exact hc
  · intro u' hu'
    simp at hu'
    subst hu'
    rfl
  · intro g' cap' w' k1 k2 k3 k4
    refine hK _ _ _ w' rfl ?_ k2 k3
    unfold Hid Ivs
    rw [List.length_append, List.length_cons, List.length_nil, List.map_append]
    exact k1
/-- The two lists, from the world W0 ahead of them on; W is where the statement began. -/
structure R15 (w W0 W X : World) (rv cv : Value) (rs cs : List Nat) : Prop where
  ty : Ty 3 W X
  b0 : Below W0.heap.size W0 X
  bw : Below w.heap.size w X
  r : Ivs W0.heap.size X rv rs
  c : Ivs W0.heap.size X cv cs
  ne : ∀ b, rv.ownBlock = some b → cv.ownBlock ≠ some b
theorem R15.now {w W0 W X X' : World} {rv cv : Value} {rs cs : List Nat} (h : R15 w W0 W X rv cv rs cs) (hb : Below X.heap.size X X') : R15 w W0 W X' rv cv rs cs :=
  ⟨h.ty.trans (Ty.of hb), below_step h.b0 hb, below_step h.bw hb, h.r.now hb, h.c.now hb, h.ne⟩
theorem Ivs.lt13 {B b : Nat} {w : World} {v : Value} {l : List Nat} (h : Ivs B w v l) (hb : v.ownBlock = some b) : b < w.heap.size := (Array.getElem?_eq_some_iff.1 (h.blk hb).2.choose_spec).1
theorem R15.addR {w W0 W X X' : World} {rv cv : Value} {rs cs : List Nat} {g' l' cap' row : Nat} (h : R15 w W0 W X rv cv rs cs) (hw : w.heap.size ≤ W0.heap.size) (hI : Ivs W0.heap.size X' (.slice (some ⟨g', 0, none⟩) l' cap') (rs ++ [row])) (hg : X.grownBy X' rv.ownBlock) (hb : rv.ownBlock = some g' ∨ g' = X.heap.size) :
    R15 w W0 W X' (.slice (some ⟨g', 0, none⟩) l' cap') cv (rs ++ [row]) cs := by
  refine ⟨h.ty.trans (Ty.grown h.r hg), below_own h.b0 h.b0.size h.r hg, below_own h.bw h.bw.size (owns_mono11 h.r hw : Ivs w.heap.size X rv rs) hg, hI, ?_, ?_⟩
  · refine h.c.keep fun b L hb2 e => ?_
    rw [hg.block b (h.c.lt13 hb2) (fun q => h.ne b q.symm hb2)]
    exact e
  · intro b hb1 hb2
    simp only [Value.ownBlock, Option.some.injEq] at hb1
    subst hb1
    rcases hb with q | q
    · exact h.ne _ q hb2
    · have := h.c.lt13 hb2; omega
theorem R15.addC {w W0 W X X' : World} {rv cv : Value} {rs cs : List Nat} {g' l' cap' col : Nat} (h : R15 w W0 W X rv cv rs cs) (hw : w.heap.size ≤ W0.heap.size) (hI : Ivs W0.heap.size X' (.slice (some ⟨g', 0, none⟩) l' cap') (cs ++ [col])) (hg : X.grownBy X' cv.ownBlock) (hb : cv.ownBlock = some g' ∨ g' = X.heap.size) :
    R15 w W0 W X' rv (.slice (some ⟨g', 0, none⟩) l' cap') rs (cs ++ [col]) := by
  refine ⟨h.ty.trans (Ty.grown h.c hg), below_own h.b0 h.b0.size h.c hg, below_own h.bw h.bw.size (owns_mono11 h.c hw : Ivs w.heap.size X cv cs) hg, ?_, hI, ?_⟩
  · refine h.r.keep fun b L hb2 e => ?_
    rw [hg.block b (h.r.lt13 hb2) (fun q => h.ne b hb2 q.symm)]
    exact e
  · intro b hb1 hb2
    simp only [Value.ownBlock, Option.some.injEq] at hb2
    subst hb2
    rcases hb with q | q
    · exact h.ne _ hb1 q
    · have := h.r.lt13 hb1; omega
/-- A block that came since stays when a list of before grows. -/
theorem cell_grown13 {X X' : World} {v u : Value} {g N : Nat} (hg : X.grownBy X' v.ownBlock) (hv : ∀ b, v.ownBlock = some b → b < N) (hN : N ≤ g) (hc : X.cell? ⟨g, 0, none⟩ = some u) : X'.cell? ⟨g, 0, none⟩ = some u := by
  have hlt : g < X.heap.size := by
    apply Classical.byContradiction
    intro q
    have e : X.heap[g]? = none := by simp; omega
    simp [World.cell?, e] at hc
  exact (World.cell?_of_block (a := ⟨g, 0, none⟩) (hg.block g hlt (fun q => by have := hv g q.symm; omega))).trans hc
theorem Ty.new13 {T : TypeId} {W X : World} {bk i : Nat} {u : Value} (h : Ty T W X) (hb : W.heap.size ≤ bk) : Ty T W (X.setCell ⟨bk, i, none⟩ u) :=
  ⟨by have := h.1; simpa using this, fun b L T' fr e hne => by
    have hlt := (Array.getElem?_eq_some_iff.1 e).1
    exact (Below.heap_setCell X ⟨bk, i, none⟩ u b (fun q => by simp at q; omega)).trans (h.2 b L T' fr e hne)⟩
/-- A square matrix in a box, made where the lists grew. -/
def PkN (w W wx : World) (s1 s2 : Value) (k : Nat) (zs : List Int) : Prop :=
  ∃ bk ap lp qp, s1 = .pointer (some ⟨bk, 0, none⟩) ∧ s2 = .int .i64 0 ∧ Below w.heap.size w wx ∧ Ty 3 W wx ∧ Cel wx bk 24 [.int .i64 (k : Int), .int .i64 (k : Int), .slice ap lp qp] ∧ Mx wx (matv k k (.slice ap lp qp)) k k zs 1048576
theorem pkn_put {w W X : World} {bk k la qa : Nat} {aa : Option Addr} {zs : List Int} (d : Cel X bk 24 [.int .i64 0, .int .i64 0, .slice none 0 0]) (m : Mx X (matv k k (.slice aa la qa)) k k zs 1048576) (hb : Below w.heap.size w X) (ht : Ty 3 W X) (hs : W.heap.size ≤ bk) (hw : w.heap.size ≤ W.heap.size) :
    PkN w W (((X.setCell ⟨bk, 0, none⟩ (.int .i64 (k : Int))).setCell ⟨bk, 1, none⟩ (.int .i64 (k : Int))).setCell ⟨bk, 2, none⟩ (.slice aa la qa)) (.pointer (some ⟨bk, 0, none⟩)) (.int .i64 0) k zs := by
  have d1 := d.set 0 (.int .i64 (k : Int))
  have d2 := d1.set 1 (.int .i64 (k : Int))
  have d3 := d2.set 2 (.slice aa la qa)
  have hs' := Nat.le_trans hw hs
  exact ⟨bk, aa, la, qa, rfl, rfl, bset (bset (bset hb hs') hs') hs', ((ht.new13 hs).new13 hs).new13 hs, d3, ((m.off13 d mats13).off13 d1 mats13).off13 d2 mats13⟩
/-- Three that may come up. -/
theorem wpAnyT_three {P : Program} {md : Region.Mode} {ops : Array Oper} {Q : Exit → Act → World → Prop} {S : World → Prop} {n i j l : Nat} {oi oj ol : Oper} {fuel : Nat} {listed : Array Bool} {a : Act} {w : World} (hr : Region.ready md ops listed = [i, j, l]) (hi : ops[i]? = some oi) (hj : ops[j]? = some oj) (hl : ops[l]? = some ol)
    (h1 : ∀ K' : Act → World → Prop, Shut (∀ a w, (i < n → S w) → wpAnyT P md ops Q S n fuel (listed.setIfInBounds i true) a w → K' a w) → if Region.wanted oi (yielded ops a.tmps) = true then Oper.wp P oi a w K' Q else K' (a.put oi.dst undef) w)
    (h2 : ∀ K' : Act → World → Prop, Shut (∀ a w, (j < n → S w) → wpAnyT P md ops Q S n fuel (listed.setIfInBounds j true) a w → K' a w) → if Region.wanted oj (yielded ops a.tmps) = true then Oper.wp P oj a w K' Q else K' (a.put oj.dst undef) w)
    (h3 : ∀ K' : Act → World → Prop, Shut (∀ a w, (l < n → S w) → wpAnyT P md ops Q S n fuel (listed.setIfInBounds l true) a w → K' a w) → if Region.wanted ol (yielded ops a.tmps) = true then Oper.wp P ol a w K' Q else K' (a.put ol.dst undef) w) :
    wpAnyT P md ops Q S n (fuel + 1) listed a w := by
  refine ⟨fun h0 => (by rw [hr] at h0; cases h0), fun q hq => ?_⟩
  rw [hr] at hq
  rcases List.mem_cons.1 hq with rfl | hq
  · exact wpOp_step hi (fun K' hK => h1 K' (fun a w hS hW => hK a w ⟨hS, hW⟩))
  · rcases List.mem_cons.1 hq with rfl | hq
    · exact wpOp_step hj (fun K' hK => h2 K' (fun a w hS hW => hK a w ⟨hS, hW⟩))
    · obtain rfl := List.mem_singleton.1 hq
      exact wpOp_step hl (fun K' hK => h3 K' (fun a w hS hW => hK a w ⟨hS, hW⟩))
structure B15 (W0 X : World) : Prop where
  b0 : Below W0.heap.size W0 X
def Bel (a b : World) : Prop := Below a.heap.size a b
theorem Bel.on13 {a b c : World} (h : Bel a b) (h' : Below b.heap.size b c) : Bel a c := below_step h h'
theorem core_det13 {r c rl : Nat} {xs : List Int} {rs cs : List Nat} {odd : Bool} (h : Stz (en c xs) c r rs cs odd) (hl : rs.length = rl) : det rl (en rl (pickL r c xs rs (srt cs))) = detS (en c xs) rs cs odd := by
  have h2 : (srt cs).length = rl := by rw [h.srt.2.1, h.len, hl]
  rw [pick_det (fun i hi => h.lt i hi) (fun j hj => h.cl j ((h.srt.2.2 j).1 hj)) hl h2, h.core, hl]
theorem more_det13 {r c rl i j : Nat} {xs : List Int} {rs cs : List Nat} {odd : Bool} (h : Stz (en c xs) c r rs cs odd) (hl : rs.length = rl) (hi : i < r) (hj : j < c) : det (rl + 1) (en (rl + 1) (pickL r c xs (rs ++ [i]) (srt cs ++ [j]))) = 0 := by
  have h2 : (srt cs).length = rl := by rw [h.srt.2.1, h.len, hl]
  have hm : ∀ x ∈ srt cs ++ [j], x < c := fun x hx => by
    rcases List.mem_append.1 hx with q | q
    · exact h.cl x ((h.srt.2.2 x).1 q)
    · simp at q; omega
  rw [pick_det (fun x hx => by
    rcases List.mem_append.1 hx with q | q
    · exact h.lt x q
    · simp at q; omega) hm (by simp [hl]) (by simp [h2])]
  have := h.more (row := i) hi (fun b => (srt cs ++ [j]).getD b 0) (fun b hb => hm _ (by
    have hb' : b < (srt cs ++ [j]).length := by simp [h2]; omega
    show (srt cs ++ [j]).getD b 0 ∈ srt cs ++ [j]
    rw [List.getD_eq_getElem?_getD, List.getElem?_eq_getElem hb']
    exact List.getElem_mem hb'))
  rw [hl] at this
  exact this
end Go.Proofs.YtlhbcdapinacgaaGreat
