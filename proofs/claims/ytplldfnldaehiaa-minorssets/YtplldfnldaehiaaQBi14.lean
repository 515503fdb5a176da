/-
  Bi14: a book of lists of numbers: what its marking and its growing keep, step by step.
-/
import Derived.Test.YtplldfnldaehiaaQSm14
import Derived.ArgAppend
import Derived.OwnWalk
namespace Go.Proofs.Ytplldfnldaehiaa
open Go.RowKit
set_option linter.unusedVariables false

/-- The mark of place j of the list with the number i. -/
def signW (i j : Nat) : Int := 4323455642275676160 + (i : Int) * 1048576 + (j : Int)
theorem sign_any (i j : Nat) (hi : i ≤ 2097152) (hj : j ≤ 35184372088832) (w : World) :
    Calls Try.prog 27 #[.int .i64 (i : Int), .int .i64 (j : Int)] w fun e w' => e = .returned (.int .u64 (signW i j)) ∧ w' = w := by
  unfold signW
  go_enter Try.func27, Try.ntmps27
  go_wp2
  go_ret
  exact ⟨rfl, rfl⟩

def signs (i n : Nat) : List Int := (List.range n).map (signW i)
theorem signs_len (i n : Nat) : (signs i n).length = n := by simp [signs]
theorem signs_get {i n k : Nat} (h : k < (signs i n).length) : (signs i n)[k] = signW i k := by simp [signs]
theorem signs_succ (i n : Nat) : signs i (n + 1) = signs i n ++ [signW i n] := by simp [signs, List.range_succ]
theorem length_wi14 (xs : List Int) : (wi10 xs).length = xs.length := by simp [wi10]
theorem wi_set14 (zs : List Int) (r : List Value) (j : Nat) (h : j < zs.length) (x : Int) : (wi10 zs ++ r).set j (.int .i64 x) = wi10 (zs.set j x) ++ r := by
  rw [List.set_append_left _ _ (by rw [length_wi14]; exact h)]
  simp [wi10, List.map_set]
theorem RowI10.set14 {w : World} {g : Nat} {L : List Value} (h : RowI10 w g L) (i : Nat) (u : Value) : RowI10 (w.setCell ⟨g, i, none⟩ u) g (L.set i u) := by
  unfold RowI10 at h ⊢
  simp [World.setCell, Array.getElem?_modify, h]
theorem signI {i j : Nat} (hi : i ≤ 2097152) (hj : j ≤ 35184372088832) : IntKind.i64.wrap (signW i j) = signW i j := by rw [wrap_is] <;> (unfold signW; omega)
/-- The slice value v is nil, or lies at the head of a row of its own, and holds the words zs; its room is the row's, or it has none. -/
def OwI (w : World) (v : Value) (zs : List Int) : Prop :=
  w.ownsRow 0 3 1 v zs.length (wi10 zs) ∨ ∃ g r, v = .slice (some ⟨g, 0, none⟩) zs.length zs.length ∧ RowI10 w g (wi10 zs ++ r) ∧ zs.length ≤ 35184372088832
theorem OwI.nil (w : World) : OwI w (.slice none 0 0) [] := .inl (World.ownsRow_nil w 0 _ 1)
theorem OwI.keep {w w' : World} {v : Value} {zs : List Int} (h : OwI w v zs) (hk : ∀ g, v.ownBlock = some g → w'.heap[g]? = w.heap[g]?) : OwI w' v zs := by
  rcases h with ⟨h1, h2 | ⟨g, cap, cur, h2, h3, h4, h5⟩⟩ | ⟨g, r, h2, h3, h4⟩
  · exact .inl ⟨h1, .inl h2⟩
  · exact .inl ⟨h1, .inr ⟨g, cap, cur, h2, h3, (hk g (by rw [h2]; rfl)).trans h4, h5⟩⟩
  · exact .inr ⟨g, r, h2, (hk g (by rw [h2]; rfl)).trans h3, h4⟩
theorem OwI.lt {w : World} {v : Value} {zs : List Int} (h : OwI w v zs) {g : Nat} (hg : v.ownBlock = some g) : g < w.heap.size := by
  rcases h with h | ⟨g', r, h2, h3, _⟩
  · exact (World.ownsRow.lt h g hg).2
  · rw [h2] at hg
    simp [Value.ownBlock] at hg
    subst hg
    exact h3.lt
theorem OwI.form {w : World} {v : Value} {zs : List Int} (h : OwI w v zs) :
    (v = .slice none 0 0 ∧ zs = []) ∨ ∃ g cap, v = .slice (some ⟨g, 0, none⟩) zs.length cap ∧ g < w.heap.size ∧ (∀ j (h : j < zs.length), w.cell? ⟨g, j, none⟩ = some (.int .i64 zs[j])) ∧ ∀ j, w.frozen? ⟨g, j, none⟩ = false := by
  rcases h with h | ⟨g, r, h2, h3, _⟩
  · have h' := h
    obtain ⟨h1, ⟨h2, h3⟩ | ⟨g, cap, cur, h2, h3, h4, h5, h6, h7, h8⟩⟩ := h
    · exact .inl ⟨h2, List.eq_nil_of_length_eq_zero h3⟩
    · refine .inr ⟨g, cap, h2, (World.ownsRow.lt h' g (by rw [h2]; rfl)).2, fun j hj => ?_, fun j => by simp [World.frozen?, h4]⟩
      have := World.ownsRow.cells h' (g := g) (by rw [h2]; rfl) j (.int .i64 zs[j]) (by simp [wi10, hj])
      have e : (⟨g, 0, none⟩ : Addr).add j = ⟨g, j, none⟩ := by unfold Addr.add; split <;> simp_all
      rwa [e] at this
  · exact .inr ⟨g, _, h2, h3.lt, fun j hj => h3.num hj, fun j => h3.frozen j⟩
theorem wi_set_any14 (zs : List Int) (r : List Value) (j : Nat) (x : Int) : ∃ r', (wi10 zs ++ r).set j (.int .i64 x) = wi10 (zs.set j x) ++ r' := by
  by_cases h : j < zs.length
  · exact ⟨r, wi_set14 zs r j h x⟩
  · refine ⟨r.set (j - zs.length) (.int .i64 x), ?_⟩
    have e : zs.set j x = zs := List.set_eq_of_length_le (by omega)
    rw [List.set_append_right _ _ (by rw [length_wi14]; omega), length_wi14, e]
theorem OwI.set {w : World} {v : Value} {zs : List Int} (h : OwI w v zs) {g : Nat} (hg : v.ownBlock = some g) (j : Nat) (x : Int) : OwI (w.setCell ⟨g, j, none⟩ (.int .i64 x)) v (zs.set j x) := by
  rcases h with ⟨h1, ⟨h2, h3⟩ | ⟨g', cap, cur, h2, h3, h4, h5, h6, h7, h8⟩⟩ | ⟨g', r, h2, h3, h4⟩
  · rw [h2] at hg; cases hg
  · obtain rfl : g' = g := by rw [h2] at hg; simpa [Value.ownBlock] using hg
    refine .inl ⟨by simp [length_wi14], .inr ⟨g', cap, cur.setIfInBounds j (.int .i64 x), by simpa using h2, h3, ?_, by simpa using h5, h6, by simpa using h7, ?_⟩⟩
    · simp [World.setCell, Array.getElem?_modify, h4]
    · rw [Array.toList_setIfInBounds, List.length_set, List.take_set, Nat.mul_one]
      rw [Nat.mul_one] at h8
      rw [h8]
      simp [wi10, List.map_set]
  · obtain rfl : g' = g := by rw [h2] at hg; simpa [Value.ownBlock] using hg
    obtain ⟨r', e⟩ := wi_set_any14 zs r j x
    refine .inr ⟨g', r', by simpa using h2, ?_, by simpa using h4⟩
    rw [← e]
    exact h3.set14 j _


theorem owI_prefix {w w' : World} {g cap n : Nat} {zs ys : List Int} {x : Int} {u : Value} (hn : zs.length = n) (h : w.ownsRow 0 3 1 (.slice (some ⟨g, 0, none⟩) n cap) n (wi10 zs))
    (h' : w'.ownsRow 0 3 1 (.slice (some ⟨g, 0, none⟩) (n + 1) cap) (n + 1) (wi10 zs ++ [.int .i64 x])) (hu : OwI w u ys) (hp : ys <+: zs) (hb : u.ownBlock = some g) : OwI w' u ys := by
  obtain ⟨_, ⟨h2, _⟩ | ⟨g1, cap1, cur1, h2, _, h4, _, _, h7, _⟩⟩ := h
  · cases h2
  obtain ⟨_, ⟨k2, _⟩ | ⟨g2, cap2, cur2, k2, _, k4, _, _, k7, k8⟩⟩ := h'
  · cases k2
  simp only [Value.slice.injEq, Option.some.injEq, Addr.mk.injEq, and_true] at h2 k2
  obtain ⟨rfl, _, rfl⟩ := h2
  obtain ⟨rfl, _, rfl⟩ := k2
  obtain ⟨t, ht⟩ := hp
  have hl : ys.length ≤ n := by rw [← hn, ← ht]; simp
  rw [Nat.mul_one] at k8
  have htake : cur2.toList.take ys.length = wi10 ys := by
    have : cur2.toList.take ys.length = (cur2.toList.take (n + 1)).take ys.length := by rw [List.take_take, Nat.min_eq_left (by omega)]
    rw [this, k8, ← ht, wi10, List.map_append, List.append_assoc, List.take_append_of_le_length (by simp), List.take_of_length_le (by simp)]
    rfl
  rcases hu with ⟨m1, ⟨m2, m3⟩ | ⟨g3, cap3, cur3, m2, m3, m4, m5, m6, m7, m8⟩⟩ | ⟨g3, r3, m2, m3, m4⟩
  · rw [m2] at hb; cases hb
  · obtain rfl : g3 = g := by rw [m2] at hb; simpa [Value.ownBlock] using hb
    have e : cur3 = cur1 := by
      have := m4.symm.trans h4
      simpa using this
    subst e
    exact .inl ⟨m1, .inr ⟨g3, cap3, cur2, m2, m3, k4, m5, m6, by rw [k7, ← m7, h7], by rw [Nat.mul_one]; exact htake⟩⟩
  · obtain rfl : g3 = g := by rw [m2] at hb; simpa [Value.ownBlock] using hb
    refine .inr ⟨g3, cur2.toList.drop ys.length, m2, ?_, m4⟩
    unfold RowI10
    rw [← htake, List.take_append_drop, Array.toArray_toList]
    exact k4

theorem wpList_append_markI (w : World) {ops : Array Oper} {rest : List Oper} {o : Oper} {a : Act} {Q : Exit → Act → World → Prop}
    (hg : o.guard = none) (s x : Operand) (hop : o.op = Op.call { callee := Callee.builtin Builtin.append, args := #[s, x], argTypes := #[29, 29] })
    (v : Value) (zs : List Int) (c : Int) (hs : a.eval s = v) (hown : OwI w v zs) (hmx : zs.length + 1 ≤ 17592186044000)
    (ad : Addr) (hx : a.eval x = .slice (some ad) 1 1) (hc : w.cell? ad = some (.int .i64 c))
    (hK : ∀ v' w', Hid (OwI w' v' (zs ++ [c])) → Hid (v'.ownBlock = v.ownBlock ∨ ∃ g, v'.ownBlock = some g ∧ w.heap.size ≤ g) → Hid (w.grownBy w' v.ownBlock) →
      Hid (∀ u ys, OwI w u ys → ys <+: zs → u.ownBlock = v.ownBlock → OwI w' u ys) → Hid (∃ b k, v' = .slice (some ⟨b, 0, none⟩) (zs.length + 1) k) → wpList Try.prog ops Q rest (a.put o.dst v') w') :
    wpList Try.prog ops Q (o :: rest) a w := by
  obtain ⟨i, hi, hz, hsz, hb⟩ := info_parts Try.infoI10
  have hnews : ∀ j u, ([.int .i64 c] : List Value)[j]? = some u → w.cell? (ad.add j) = some u := fun j u hj => by
    match j, hj with
    | 0, hj => simp at hj; subst hj; simpa [Addr.add] using hc
  have h1c : ∀ u ∈ ([.int .i64 c] : List Value), u.oneCell' = true := fun u hu => by simp at hu; subst hu; rfl
  have grow : ∀ v' w', w'.ownsRow w.heap.size 3 1 v' (zs.length + 1) (wi10 zs ++ [.int .i64 c]) → w.grownBy w' none → wpList Try.prog ops Q rest (a.put o.dst v') w' := fun v' w' ho hgr => by
    have hf : ∃ g cap, v' = .slice (some ⟨g, 0, none⟩) (zs.length + 1) cap ∧ w.heap.size ≤ g := by
      obtain ⟨_, ⟨_, h2⟩ | ⟨g, cap, _, h2, h3, _⟩⟩ := ho
      · omega
      · exact ⟨g, cap, h2, h3⟩
    obtain ⟨g, cap, hv', hgg⟩ := hf
    refine hK v' w' ?_ (.inr ⟨g, by rw [hv']; rfl, hgg⟩) ⟨hgr.os, hgr.tape, hgr.output, hgr.size, fun k hk _ => hgr.block k hk (by simp)⟩ (fun u ys hu _ _ => hu.keep fun k hk => hgr.block k (hu.lt hk) (by simp)) ⟨g, cap, hv'⟩
    obtain ⟨h1, h2 | ⟨g', cap', cur, h2, _, h4⟩⟩ := ho
    · exact absurd h2.2 (by omega)
    · unfold Hid OwI
      rw [show (zs ++ [c]).length = zs.length + 1 by simp, show wi10 (zs ++ [c]) = wi10 zs ++ [.int .i64 c] by simp [wi10]]
      exact .inl ⟨h1, .inr ⟨g', cap', cur, h2, Nat.zero_le _, h4⟩⟩
  have hbytes : (zs.length + 1) * 8 ≤ 140737488355328 := by omega
  have hml : zs.length + 1 ≤ maxLen := by unfold maxLen; omega
  rcases hown with hown | ⟨g, r, h2, h3, h4⟩
  rotate_left
  · refine wpList_append_grows w hg s x 29 hop 3 i _ 1 8 Try.underlying29 hi hz hsz hb rfl (by omega) (some ⟨g, 0, none⟩) zs.length zs.length (wi10 zs) (hs.trans h2) (fun e => by cases e) (by simp [length_wi14]) (fun b e => ?_) ad 1 1 [.int .i64 c] hx rfl hnews h1c (by omega) hml hbytes ?_
    · cases e
      intro j u hj
      have hj' : j < zs.length := by
        have := (List.getElem?_eq_some_iff.1 hj).1
        simpa [length_wi14] using this
      have e : (⟨g, 0, none⟩ : Addr).add j = ⟨g, j, none⟩ := by unfold Addr.add; split <;> simp_all
      rw [e, h3.num hj', ← hj]
      simp [wi10, hj']
    · exact grow
  have hown' := hown
  obtain ⟨h1, ⟨h2, h3⟩ | ⟨g, cap, cur, h2, h3, h4, h5, h6, h7, h8⟩⟩ := hown
  · have hz0 : zs = [] := List.eq_nil_of_length_eq_zero h3
    subst hz0
    refine wpList_append_grows w hg s x 29 hop 3 i _ 1 8 Try.underlying29 hi hz hsz hb rfl (by omega) none 0 0 [] (hs.trans h2) (fun _ => ⟨rfl, rfl⟩) rfl (fun b e => by cases e) ad 1 1 [.int .i64 c] hx rfl hnews h1c (by omega) hml hbytes ?_
    exact grow
  · by_cases hfit : zs.length + 1 ≤ cap
    · refine wpList_append_fits w hg s x 29 hop 0 3 i 1 Try.underlying29 hi hsz g zs.length cap (wi10 zs) (hs.trans h2) (by rw [← h2]; exact hown') ad 1 1 [.int .i64 c] hx rfl hnews h1c hfit ?_
      intro w' ho hgr
      have hvb : v.ownBlock = some g := by rw [h2]; rfl
      refine hK _ w' ?_ (.inl (by rw [hvb]; rfl)) (by rw [hvb]; exact hgr) (fun u ys hu hp hub => owI_prefix (x := c) rfl (by rw [← h2]; exact hown') ho hu hp (hub.trans hvb)) ⟨g, cap, rfl⟩
      unfold Hid OwI
      rw [show (zs ++ [c]).length = zs.length + 1 by simp, show wi10 (zs ++ [c]) = wi10 zs ++ [.int .i64 c] by simp [wi10]]
      exact .inl ho
    · refine wpList_append_grows w hg s x 29 hop 3 i _ 1 8 Try.underlying29 hi hz hsz hb rfl (by omega) (some ⟨g, 0, none⟩) zs.length cap (wi10 zs) (hs.trans h2) (fun e => by cases e) h1 (fun b e => ?_) ad 1 1 [.int .i64 c] hx rfl hnews h1c (by omega) hml hbytes ?_
      · cases e
        exact fun j u hj => World.ownsRow.cells hown' (g := g) (by rw [h2]; rfl) j u hj
      · exact grow


/-- Block g is one of the lists' own. -/
def BlkI (n : Nat) (U : Nat → Value) (g : Nat) : Prop := ∃ i, i < n ∧ (U i).ownBlock = some g

/-- A book of n lists, each with a row of its own. -/
structure BkI (w : World) (bb gb n : Nat) (U : Nat → Value) (L : Nat → Nat) : Prop where
  n_le : n ≤ 2000000
  bb_lt : bb < w.heap.size
  gb_lt : gb < w.heap.size
  head : ∃ c, w.cell? ⟨bb, 2, none⟩ = some (.slice (some ⟨gb, 0, none⟩) n c)
  item : ∀ i, i < n → w.cell? ⟨gb, i, none⟩ = some (U i)
  own : ∀ i, i < n → ∃ zs, zs.length = L i ∧ OwI w (U i) zs
  len : ∀ i, i < n → L i ≤ 1000000
  apart : ∀ i j, i < n → j < n → i ≠ j → ∀ g, (U i).ownBlock = some g → (U j).ownBlock ≠ some g
  bb_free : ¬ BlkI n U bb
  gb_free : ¬ BlkI n U gb

theorem BkI.lt {w : World} {bb gb n : Nat} {U : Nat → Value} {L : Nat → Nat} (h : BkI w bb gb n U L) {i g : Nat} (hi : i < n) (hg : (U i).ownBlock = some g) : g < w.heap.size := by
  obtain ⟨zs, _, ho⟩ := h.own i hi
  exact ho.lt hg

/-- The lists ahead of k are marked; of list k the first j places. -/
def MarkingI (w wr : World) (n : Nat) (U : Nat → Value) (L : Nat → Nat) (k j : Nat) : Prop :=
  Touch (BlkI n U) w wr ∧ ∀ i, i < n → ∃ zs, zs.length = L i ∧ OwI wr (U i) zs ∧ (i < k → zs = signs i (L i)) ∧ (i = k → ∀ t (h : t < zs.length), t < j → zs[t] = signW k t)

theorem BkI.marking {w : World} {bb gb n : Nat} {U : Nat → Value} {L : Nat → Nat} (h : BkI w bb gb n U L) : MarkingI w w n U L 0 0 :=
  ⟨Touch.refl _ _, fun i hi => by obtain ⟨zs, h1, h2⟩ := h.own i hi; exact ⟨zs, h1, h2, fun q => by omega, fun _ t _ q => by omega⟩⟩
theorem MarkingI.next {w wr : World} {n : Nat} {U : Nat → Value} {L : Nat → Nat} {k j : Nat} (h : MarkingI w wr n U L k j) (hj : L k ≤ j) : MarkingI w wr n U L (k + 1) 0 :=
  ⟨h.1, fun i hi => by
    obtain ⟨zs, h1, h2, h3, h4⟩ := h.2 i hi
    refine ⟨zs, h1, h2, fun q => ?_, fun _ t _ q => by omega⟩
    by_cases e : i = k
    · subst e
      exact List.ext_getElem (by rw [h1, signs_len]) (fun t q1 q2 => by rw [signs_get]; exact h4 rfl t q1 (by omega))
    · exact h3 (by omega)⟩
theorem MarkingI.step {w wr : World} {bb gb n : Nat} {U : Nat → Value} {L : Nat → Nat} {k j g : Nat} (hB : BkI w bb gb n U L) (h : MarkingI w wr n U L k j) (hk : k < n) (hg : (U k).ownBlock = some g) :
    MarkingI w (wr.setCell ⟨g, j, none⟩ (.int .i64 (signW k j))) n U L k (j + 1) :=
  ⟨h.1.setCell (.inr ⟨k, hk, hg⟩) _ _, fun i hi => by
    obtain ⟨zs, h1, h2, h3, h4⟩ := h.2 i hi
    by_cases e : i = k
    · subst e
      refine ⟨zs.set j (signW i j), by simpa using h1, h2.set hg j _, fun q => by omega, fun _ t ht q => ?_⟩
      by_cases e : j = t
      · subst e; simp
      · rw [List.getElem_set_ne e]; exact h4 rfl t (by simpa using ht) (by omega)
    · exact ⟨zs, h1, h2.keep fun b hb => Below.heap_setCell wr _ _ b (fun q => hB.apart i k hi hk e b hb (by rw [hg]; exact congrArg some q.symm)), h3, fun q => absurd q e⟩⟩

/-- Block g holds slices. -/
def RowSI (w : World) (g : Nat) (L : List Value) : Prop := w.heap[g]? = some (.cells L.toArray 29 (0, 0))
theorem RowSI.lt {w : World} {g : Nat} {L : List Value} (h : RowSI w g L) : g < w.heap.size := (Array.getElem?_eq_some_iff.1 h).1
theorem RowSI.cell {w : World} {g : Nat} {L : List Value} (h : RowSI w g L) {i : Nat} (hi : i < L.length) : w.cell? ⟨g, i, none⟩ = some L[i] := by
  unfold RowSI at h
  simp [World.cell?, h, hi]
theorem RowSI.frozen {w : World} {g : Nat} {L : List Value} (h : RowSI w g L) (i : Nat) : w.frozen? ⟨g, i, none⟩ = false := by
  unfold RowSI at h
  simp [World.frozen?, h]
theorem RowSI.set {w : World} {g : Nat} {L : List Value} (h : RowSI w g L) (i : Nat) (u : Value) : RowSI (w.setCell ⟨g, i, none⟩ u) g (L.set i u) := by
  unfold RowSI at h ⊢
  simp [World.setCell, Array.getElem?_modify, h]
theorem Try.infoSI : (Try.prog.info? 29).map (fun i => (i.zero, i.size, i.bytes)) = some (some (.slice none 0 0), 1, 24) := by kernel_rfl
theorem madeCells_listsI (m : Nat) : madeCells (Value.slice none 0 0).cells m = (List.replicate m (Value.slice none 0 0)).toArray := by
  apply Array.ext
  · simp [size_madeCells]
  · intro i h1 h2
    simp [madeCells, Value.cells, Nat.mod_one]
theorem wpList_make_listsI (w : World) {ops : Array Oper} {rest : List Oper} {o : Oper} {a : Act} {Q : Exit → Act → World → Prop}
    (hg : o.guard = none) (l c : Operand) (hop : o.op = Op.makeSlice 27 l c)
    (L C : Int) (n m : Nat) (hl : a.eval l = .int .i64 L) (hc : a.eval c = .int .i64 C) (hL : L = (n : Int)) (hC : C = (m : Int)) (hnm : n ≤ m) (hm : m ≤ 2000000)
    (hK : ∀ w', RowSI w' w.heap.size (List.replicate m (.slice none 0 0)) → Below w.heap.size w w' → Hid (w'.heap.size = w.heap.size + 1) → wpList Try.prog ops Q rest (a.put o.dst (.slice (some ⟨w.heap.size, 0, none⟩) n m)) w') :
    wpList Try.prog ops Q (o :: rest) a w := by
  refine wpList_plain hg fun K hK' => ?_
  obtain ⟨i, hi, hz, hs, hb⟩ := info_parts Try.infoSI
  have hrun := run_make (P := Try.prog) w 27 29 i (.slice none 0 0) Try.underlying27 hi hz .i64 .i64 n m (by omega) (by omega) (by rw [hb]; omega) (by omega)
  subst hL
  subst hC
  rw [hs, Nat.mul_one, Int.toNat_natCast, Int.toNat_natCast, madeCells_listsI] at hrun
  unfold Oper.wp
  simp [execOp, hop, hl, hc, hrun, Result.andThen]
  refine hK' _ _ (hK _ ?_ ((Below.refl _ _).alloc (Nat.le_refl _) _) ?_)
  · unfold RowSI; simpa using heap_alloc_new w _
  · unfold Hid; simp

/-- The lists ahead of k are grown; their grown forms stand in the row gg. -/
def GrownI (w wr : World) (n : Nat) (U : Nat → Value) (L : Nat → Nat) (gg k : Nat) (Vs : List Value) : Prop :=
  Touch (BlkI n U) w wr ∧ w.heap.size ≤ gg ∧ RowSI wr gg Vs ∧ Vs.length = n ∧ (∀ i, i < n → OwI wr (U i) (signs i (L i))) ∧
  ∀ i (h : i < Vs.length), i < k → OwI wr Vs[i] (signs i (L i + 80)) ∧ (Vs[i].ownBlock = (U i).ownBlock ∨ ∃ g, Vs[i].ownBlock = some g ∧ w.heap.size ≤ g ∧ g ≠ gg)
/-- .. and c is list k, j places longer. -/
def GrowingI (w wr : World) (n : Nat) (U : Nat → Value) (L : Nat → Nat) (gg k j : Nat) (Vs : List Value) (c : Value) : Prop :=
  GrownI w wr n U L gg k Vs ∧ OwI wr c (signs k (L k + j)) ∧ (c.ownBlock = (U k).ownBlock ∨ ∃ g, c.ownBlock = some g ∧ w.heap.size ≤ g ∧ g ≠ gg ∧ ∀ i (h : i < Vs.length), i < k → Vs[i].ownBlock ≠ some g)

theorem MarkingI.grown {w wr w2 : World} {n : Nat} {U : Nat → Value} {L : Nat → Nat} {k j : Nat} (h : MarkingI w wr n U L k j) (hk : n ≤ k) (hr : RowSI w2 wr.heap.size (List.replicate n (.slice none 0 0))) (hb : Below wr.heap.size wr w2) :
    GrownI w w2 n U L wr.heap.size 0 (List.replicate n (.slice none 0 0)) :=
  ⟨h.1.trans (.ofBelow hb), h.1.size, hr, by simp, fun i hi => by
    obtain ⟨zs, h1, h2, h3, _⟩ := h.2 i hi
    rw [← h3 (by omega)]
    exact h2.keep fun g hg => hb.block g (h2.lt hg), fun i _ q => by omega⟩
theorem GrownI.start {w wr : World} {n : Nat} {U : Nat → Value} {L : Nat → Nat} {gg k : Nat} {Vs : List Value} (h : GrownI w wr n U L gg k Vs) (hk : k < n) : GrowingI w wr n U L gg k 0 Vs (U k) :=
  ⟨h, h.2.2.2.2.1 k hk, .inl rfl⟩
theorem signs_prefix (i n j : Nat) : signs i n <+: signs i (n + j) := by
  unfold signs
  rw [List.range_add, List.map_append]
  exact List.prefix_append _ _

theorem GrowingI.step {w wr w1 w2 : World} {bb gb n : Nat} {U : Nat → Value} {L : Nat → Nat} {gg k j : Nat} {Vs : List Value} {c v' : Value} (hB : BkI w bb gb n U L) (h : GrowingI w wr n U L gg k j Vs c) (hk : k < n)
    (h1 : Below wr.heap.size wr w1) (ho : OwI w2 v' (signs k (L k + j) ++ [signW k (L k + j)])) (hat : v'.ownBlock = c.ownBlock ∨ ∃ g, v'.ownBlock = some g ∧ w1.heap.size ≤ g) (hgr : w1.grownBy w2 c.ownBlock)
    (hpre : ∀ u ys, OwI w1 u ys → ys <+: signs k (L k + j) → u.ownBlock = c.ownBlock → OwI w2 u ys) : GrowingI w w2 n U L gg k (j + 1) Vs v' := by
  obtain ⟨⟨ht, hgg, hr, hl, hU, hV⟩, hc, hcb⟩ := h
  have old : ∀ b, b < wr.heap.size → c.ownBlock ≠ some b → w2.heap[b]? = wr.heap[b]? := fun b hb hne =>
    (hgr.block b (Nat.lt_of_lt_of_le hb h1.size) (fun e => hne e.symm)).trans (h1.block b hb)
  have keep : ∀ {u ys}, OwI wr u ys → (∀ g, u.ownBlock = some g → c.ownBlock ≠ some g) → OwI w2 u ys := fun hu hne => hu.keep fun g hg => old g (hu.lt hg) (hne g hg)
  have hcS : ∀ g, c.ownBlock = some g → w.heap.size ≤ g ∨ BlkI n U g := fun g hg => by
    rcases hcb with e | ⟨g', e, q, _⟩
    · exact .inr ⟨k, hk, e ▸ hg⟩
    · rw [hg] at e; cases e; exact .inl q
  have hUV : ∀ i (h : i < Vs.length), i < k → ∀ g, Vs[i].ownBlock = some g → c.ownBlock ≠ some g := fun i hi hik g hg e => by
    rcases hcb with q | ⟨g', q, _, _, q4⟩
    · have hk' : (U k).ownBlock = some g := q ▸ e
      rcases (hV i hi hik).2 with r | ⟨g2, r, r2, _⟩
      · exact hB.apart i k (by omega) hk (by omega) g (r ▸ hg) hk'
      · rw [hg] at r; cases r
        have := hB.lt hk hk'
        omega
    · rw [e] at q; cases q
      exact q4 i hi hik hg
  refine ⟨⟨(ht.trans (.ofBelow h1)).grown hgr hcS, hgg, ?_, hl, fun i hi => ?_, fun i hi hik => ?_⟩, ?_, ?_⟩
  · refine (old gg hr.lt fun e => ?_).trans hr
    rcases hcb with q | ⟨g', q, _, q3, _⟩
    · have := hB.lt hk (q ▸ e : (U k).ownBlock = some gg)
      omega
    · rw [e] at q; cases q; exact q3 rfl
  · by_cases e : i = k
    · subst e
      by_cases q : c.ownBlock = (U i).ownBlock
      · exact hpre _ _ ((hU i hi).keep fun g hg => h1.block g ((hU i hi).lt hg)) (signs_prefix _ _ _) q.symm
      · exact keep (hU i hi) fun g hg q2 => q (q2.trans hg.symm)
    · refine keep (hU i hi) fun g hg q => ?_
      rcases hcb with q2 | ⟨g', q2, q3, _⟩
      · exact hB.apart i k hi hk e g hg (q2 ▸ q)
      · rw [q] at q2; cases q2
        have := hB.lt hi hg
        omega
  · exact ⟨keep (hV i hi hik).1 (hUV i hi hik), (hV i hi hik).2⟩
  · rw [← Nat.add_assoc, signs_succ]; exact ho
  · rcases hat with e | ⟨g, e, q⟩
    · rw [e]; exact hcb
    · refine .inr ⟨g, e, ?_, ?_, fun i hi hik q2 => ?_⟩
      · exact Nat.le_trans ht.size (Nat.le_trans h1.size q)
      · have := hr.lt; have := h1.size; omega
      · have := (hV i hi hik).1.lt q2; have := h1.size; omega

theorem GrowingI.store {w wr : World} {bb gb n : Nat} {U : Nat → Value} {L : Nat → Nat} {gg k : Nat} {Vs : List Value} {c : Value} (hB : BkI w bb gb n U L) (h : GrowingI w wr n U L gg k 80 Vs c) (hk : k < n) :
    GrownI w (wr.setCell ⟨gg, k, none⟩ c) n U L gg (k + 1) (Vs.set k c) := by
  obtain ⟨⟨ht, hgg, hr, hl, hU, hV⟩, hc, hcb⟩ := h
  have keep : ∀ {u ys}, OwI wr u ys → (∀ g, u.ownBlock = some g → g ≠ gg) → OwI (wr.setCell ⟨gg, k, none⟩ c) u ys := fun hu hne => hu.keep fun g hg => Below.heap_setCell wr _ _ g (hne g hg)
  have hUg : ∀ i, i < n → ∀ g, (U i).ownBlock = some g → g ≠ gg := fun i hi g hg => by have := hB.lt hi hg; omega
  refine ⟨ht.setCell (.inl hgg) _ _, hgg, hr.set k c, by simpa using hl, fun i hi => keep (hU i hi) (hUg i hi), fun i hi hik => ?_⟩
  by_cases e : i = k
  · subst e
    simp only [List.getElem_set_self]
    refine ⟨keep hc fun g hg => ?_, ?_⟩
    · rcases hcb with q | ⟨g', q, _, q3, _⟩
      · exact hUg i hk g (q ▸ hg)
      · rw [hg] at q; cases q; exact q3
    · rcases hcb with q | ⟨g', q, q2, q3, _⟩
      · exact .inl q
      · exact .inr ⟨g', q, q2, q3⟩
  · have hi' : i < Vs.length := by simpa using hi
    rw [List.getElem_set_ne (fun q => e q.symm)]
    obtain ⟨h1, h2⟩ := hV i hi' (by omega)
    refine ⟨keep h1 fun g hg => ?_, h2⟩
    rcases h2 with q | ⟨g', q, _, q3⟩
    · exact hUg i (by omega) g (q ▸ hg)
    · rw [hg] at q; cases q; exact q3
end Go.Proofs.Ytplldfnldaehiaa
