/-
  Gw25: four lists apart: marked place by place, grown by append, read again.
-/
import Derived.Test.YtdfnehngffajiaaDoorTk25
import Derived.Laws.OwnMore
import Derived.ArgAppend
import Derived.OwnWalk
namespace Go.Proofs.YtdfnehngffajiaaDoor
open Go.RowKit
set_option linter.unusedVariables false

section
variable {P : Program} {e : TypeId} {sz o : Nat} {mk : Nat → Value} {w w' : World} {u g : Value} {n m k : Nat} {xs news ys : List Value}
theorem row_keep25 {B : Nat} (h : w.ownsRow B e sz u n xs) (hk : ∀ b, u.ownBlock = some b → w'.heap[b]? = w.heap[b]?) : w'.ownsRow B e sz u n xs := by
  obtain ⟨q1, q2 | ⟨b, cap, cur, q2, q3, q4, q5⟩⟩ := h
  · exact ⟨q1, .inl q2⟩
  · exact ⟨q1, .inr ⟨b, cap, cur, q2, q3, (hk b (by rw [q2]; rfl)).trans q4, q5⟩⟩
theorem row_base25 {B B' : Nat} (h : w.ownsRow B e sz u n xs) (hb : B' ≤ B) : w.ownsRow B' e sz u n xs := by
  obtain ⟨q1, q2 | ⟨b, cap, cur, q2, q3, q4, q5⟩⟩ := h
  · exact ⟨q1, .inl q2⟩
  · exact ⟨q1, .inr ⟨b, cap, cur, q2, Nat.le_trans hb q3, q4, q5⟩⟩
theorem row_prefix25 {b cap : Nat} (h : w.ownsRow 0 e sz (.slice (some ⟨b, 0, none⟩) n cap) n xs) (h' : w'.ownsRow 0 e sz (.slice (some ⟨b, 0, none⟩) (n + 1) cap) (n + 1) (xs ++ news))
    (hu : w.ownsRow 0 e sz u k ys) (hp : ys <+: xs) (hb : u.ownBlock = some b) : w'.ownsRow 0 e sz u k ys := by
  obtain ⟨h1, ⟨h2, _⟩ | ⟨g1, cap1, cur1, h2, _, h4, h5, _, h7, _⟩⟩ := h
  · cases h2
  obtain ⟨k1, ⟨k2, _⟩ | ⟨g2, cap2, cur2, k2, _, k4, _, _, k7, k8⟩⟩ := h'
  · cases k2
  simp only [Value.slice.injEq, Option.some.injEq, Addr.mk.injEq, and_true] at h2 k2
  obtain ⟨rfl, _, rfl⟩ := h2
  obtain ⟨rfl, _, rfl⟩ := k2
  obtain ⟨m1, ⟨m2, m3⟩ | ⟨g3, cap3, cur3, m2, m3, m4, m5, m6, m7, m8⟩⟩ := hu
  · rw [m2] at hb; cases hb
  obtain rfl : g3 = b := by rw [m2] at hb; simpa [Value.ownBlock] using hb
  have e : cur3 = cur1 := by
    have := m4.symm.trans h4
    simpa using this
  subst e
  refine ⟨m1, .inr ⟨g3, cap3, cur2, m2, m3, k4, m5, m6, by rw [k7, ← m7, h7], ?_⟩⟩
  obtain ⟨t, ht⟩ := hp
  have hle : k * sz ≤ (n + 1) * sz := by
    have : ys.length ≤ xs.length := by rw [← ht]; simp
    rw [Nat.succ_mul]; omega
  have : cur2.toList.take (k * sz) = (cur2.toList.take ((n + 1) * sz)).take (k * sz) := by rw [List.take_take, Nat.min_eq_left hle]
  rw [this, k8, ← ht, List.append_assoc, ← m1, List.take_append_of_le_length (Nat.le_refl _), List.take_length]
/-- One element appended to a list of its own: in place or in a new row; the lists that begin in that row stay. -/
theorem wpList_append_gr25 (w : World) {ops : Array Oper} {rest : List Oper} {o : Oper} {a : Act} {Q : Exit → Act → World → Prop}
    (hg : o.guard = none) (s x : Operand) (t e : TypeId) (hop : o.op = Op.call { callee := Callee.builtin Builtin.append, args := #[s, x], argTypes := #[t, t] })
    (i : TypeInfo) (z : Value) (sz by_ : Nat) (ht : P.underlying t = some (.slice e)) (hi : P.info? e = some i) (hz : i.zero = some z) (hsz : i.size = sz) (hby : i.bytes = by_) (hzs : z.cells.size = sz) (h0 : 0 < sz)
    (v : Value) (m : Nat) (xs : List Value) (hs : a.eval s = v) (hown : w.ownsRow 0 e sz v m xs) (b1 : m + 1 ≤ maxLen) (b2 : (m + 1) * by_ ≤ 140737488355328)
    (ad : Addr) (hx : a.eval x = .slice (some ad) 1 1) (news : List Value) (hn : news.length = 1 * sz) (hc : ∀ j u, news[j]? = some u → w.cell? (ad.add j) = some u) (h1c : ∀ u ∈ news, u.oneCell' = true)
    (hK : ∀ v' w', Hid (w'.ownsRow 0 e sz v' (m + 1) (xs ++ news)) → Hid (v'.ownBlock = v.ownBlock ∨ ∃ g, v'.ownBlock = some g ∧ w.heap.size ≤ g) → Hid (w.grownBy w' v.ownBlock) →
      Hid (∀ u k ys, w.ownsRow 0 e sz u k ys → ys <+: xs → u.ownBlock = v.ownBlock → w'.ownsRow 0 e sz u k ys) → wpList P ops Q rest (a.put o.dst v') w') :
    wpList P ops Q (o :: rest) a w := by
  have grow : ∀ v' w', w'.ownsRow w.heap.size e sz v' (m + 1) (xs ++ news) → w.grownBy w' none → wpList P ops Q rest (a.put o.dst v') w' := fun v' w' ho hgr => by
    refine hK v' w' (row_base25 ho (Nat.zero_le _)) ?_ ⟨hgr.os, hgr.tape, hgr.output, hgr.size, fun k hk _ => hgr.block k hk (by simp)⟩ (fun u k ys hu _ _ => row_keep25 hu fun b hb => hgr.block b (World.ownsRow.lt hu b hb).2 (by simp))
    obtain ⟨_, ⟨_, h2⟩ | ⟨g, cap, _, h2, h3, _⟩⟩ := ho
    · omega
    · exact .inr ⟨g, by rw [h2]; rfl, h3⟩
  have hown' := hown
  obtain ⟨h1, ⟨h2, h3⟩ | ⟨g, cap, cur, h2, h3, h4, h5, h6, h7, h8⟩⟩ := hown
  · subst h3
    have hx0 : xs = [] := List.eq_nil_of_length_eq_zero (by omega)
    subst hx0
    exact wpList_append_grows w hg s x t hop e i z sz by_ ht hi hz hsz hby hzs h0 none 0 0 [] (hs.trans h2) (fun _ => ⟨rfl, rfl⟩) (by simp) (fun b e => by cases e) ad 1 1 news hx hn hc h1c (by omega) b1 b2 grow
  · by_cases hfit : m + 1 ≤ cap
    · refine wpList_append_fits w hg s x t hop 0 e i sz ht hi hsz g m cap xs (hs.trans h2) (by rw [← h2]; exact hown') ad 1 1 news hx hn hc h1c hfit ?_
      intro w' ho hgr
      have hvb : v.ownBlock = some g := by rw [h2]; rfl
      exact hK _ w' ho (.inl (by rw [hvb]; rfl)) (by rw [hvb]; exact hgr) (fun u k ys hu hp hub => row_prefix25 (by rw [← h2]; exact hown') ho hu hp (hub.trans hvb))
    · refine wpList_append_grows w hg s x t hop e i z sz by_ ht hi hz hsz hby hzs h0 (some ⟨g, 0, none⟩) m cap xs (hs.trans h2) (fun e => by cases e) h1 (fun b e => ?_) ad 1 1 news hx hn hc h1c (by omega) b1 b2 grow
      cases e
      exact fun j u hj => World.ownsRow.cells hown' (g := g) (by rw [h2]; rfl) j u hj
theorem row_one25 {B B' : Nat} (h : w.ownsRow B e sz u n xs) (h' : w.ownsRow B' e sz u n ys) : xs = ys := by
  obtain ⟨q1, ⟨q2, q3⟩ | ⟨b, cap, cur, q2, _, q4, _, _, _, q5⟩⟩ := h
  · subst q3
    rw [List.eq_nil_of_length_eq_zero (l := xs) (by omega), List.eq_nil_of_length_eq_zero (l := ys) (by have := h'.1; omega)]
  · obtain ⟨p1, ⟨p2, p3⟩ | ⟨b', cap', cur', p2, _, p4, _, _, _, p5⟩⟩ := h'
    · rw [q2] at p2; cases p2
    · rw [q2] at p2
      simp only [Value.slice.injEq, Option.some.injEq, Addr.mk.injEq, and_true] at p2
      obtain ⟨rfl, _, rfl⟩ := p2
      rw [q4] at p4
      simp only [Option.some.injEq, Obj.cells.injEq, and_true] at p4
      rw [← q5, ← p5, p4]
/-- What stands at the marked place of each of the first k elements. -/
def Mkd (sz o : Nat) (mk : Nat → Value) (xs : List Value) (k : Nat) : Prop := ∀ j, j < k → xs[j * sz + o]? = some (mk j)
/-- A list, and what it has grown to. -/
def Lin (e : TypeId) (sz o : Nat) (mk : Nat → Value) (w : World) (u g : Value) (n m k : Nat) : Prop :=
  ∃ xu xg, w.ownsRow 0 e sz u n xu ∧ w.ownsRow 0 e sz g m xg ∧ xu <+: xg ∧ Mkd sz o mk xg k
def Blk2 (u g : Value) (b : Nat) : Prop := u.ownBlock = some b ∨ g.ownBlock = some b
theorem Lin.start {B : Nat} (h : w.ownsRow B e sz u n xs) : Lin e sz o mk w u u n n 0 := ⟨xs, xs, row_base25 h (Nat.zero_le _), row_base25 h (Nat.zero_le _), List.prefix_refl _, fun j hj => absurd hj (Nat.not_lt_zero _)⟩
theorem Lin.keep (h : Lin e sz o mk w u g n m k) (hk : ∀ b, Blk2 u g b → w'.heap[b]? = w.heap[b]?) : Lin e sz o mk w' u g n m k := by
  obtain ⟨xu, xg, h1, h2, h3⟩ := h
  exact ⟨xu, xg, row_keep25 h1 fun b hb => hk b (.inl hb), row_keep25 h2 fun b hb => hk b (.inr hb), h3⟩
theorem Lin.lt (h : Lin e sz o mk w u g n m k) {b : Nat} (hb : Blk2 u g b) : b < w.heap.size := by
  obtain ⟨xu, xg, h1, h2, _⟩ := h
  rcases hb with hb | hb
  · exact (World.ownsRow.lt h1 b hb).2
  · exact (World.ownsRow.lt h2 b hb).2
theorem row_form25 {B : Nat} (h : w.ownsRow B e sz u n xs) : ∃ a cap, u = .slice a n cap := by
  obtain ⟨_, ⟨h1, h2⟩ | ⟨b, cap, _, h1, _⟩⟩ := h
  · exact ⟨none, 0, by rw [h1, h2]⟩
  · exact ⟨_, cap, h1⟩
theorem row_at25 {B : Nat} (h : w.ownsRow B e sz u n xs) (hn : 0 < n) : ∃ b cap, u = .slice (some ⟨b, 0, none⟩) n cap := by
  obtain ⟨_, ⟨h1, h2⟩ | ⟨b, cap, _, h1, _⟩⟩ := h
  · omega
  · exact ⟨b, cap, h1⟩
theorem Lin.form_u (h : Lin e sz o mk w u g n m k) : ∃ a cap, u = .slice a n cap := by obtain ⟨_, _, h1, _⟩ := h; exact row_form25 h1
theorem Lin.form_g (h : Lin e sz o mk w u g n m k) : ∃ a cap, g = .slice a m cap := by obtain ⟨_, _, _, h1, _⟩ := h; exact row_form25 h1
theorem Lin.at_u (h : Lin e sz o mk w u g n m k) (hn : 0 < n) : ∃ b cap, u = .slice (some ⟨b, 0, none⟩) n cap := by obtain ⟨_, _, h1, _⟩ := h; exact row_at25 h1 hn
theorem Lin.at_g (h : Lin e sz o mk w u g n m k) (hn : 0 < m) : ∃ b cap, g = .slice (some ⟨b, 0, none⟩) m cap := by obtain ⟨_, _, _, h1, _⟩ := h; exact row_at25 h1 hn
theorem place_lt25 {j n sz o : Nat} (hj : j < n) (ho : o < sz) : j * sz + o < n * sz := by
  have : (j + 1) * sz ≤ n * sz := Nat.mul_le_mul_right _ hj
  rw [Nat.succ_mul] at this
  omega
theorem Lin.read_g {b cap j : Nat} (h : Lin e sz o mk w u (.slice (some ⟨b, 0, none⟩) m cap) n m k) (hj : j < k) (hm : j < m) (ho : o < sz) : w.cell? ⟨b, j * sz + o, none⟩ = some (mk j) := by
  obtain ⟨xu, xg, h1, h2, h3, h4⟩ := h
  rw [World.ownsRow.cellAt h2 _ (place_lt25 hm ho)]
  exact h4 j hj
theorem Lin.read_u {b cap j : Nat} (h : Lin e sz o mk w (.slice (some ⟨b, 0, none⟩) n cap) g n m k) (hj : j < k) (hn : j < n) (ho : o < sz) : w.cell? ⟨b, j * sz + o, none⟩ = some (mk j) := by
  obtain ⟨xu, xg, h1, h2, ⟨t, h3⟩, h4⟩ := h
  have hp := place_lt25 hn ho
  rw [World.ownsRow.cellAt h1 _ hp]
  have := h4 j hj
  rw [← h3, List.getElem?_append_left (by rw [h1.1]; exact hp)] at this
  exact this
theorem Lin.cell_u {b cap j : Nat} (h : Lin e sz o mk w (.slice (some ⟨b, 0, none⟩) n cap) g n m k) (hn : j < n) (ho : o < sz) : (∃ x, w.cell? ⟨b, j * sz + o, none⟩ = some x) ∧ w.frozen? ⟨b, j * sz + o, none⟩ = false := by
  obtain ⟨xu, xg, h1, h2, _⟩ := h
  have hp := place_lt25 hn ho
  exact ⟨⟨xu[j * sz + o]'(by rw [h1.1]; exact hp), by rw [World.ownsRow.cellAt h1 _ hp, List.getElem?_eq_getElem (by rw [h1.1]; exact hp)]⟩, World.ownsRow.frozenAt h1 _⟩
theorem Lin.mark {b cap j : Nat} (h : Lin e sz o mk w (.slice (some ⟨b, 0, none⟩) n cap) (.slice (some ⟨b, 0, none⟩) n cap) n n j) (hj : j < n) (ho : o < sz) :
    Lin e sz o mk (w.setCell ⟨b, j * sz + o, none⟩ (mk j)) (.slice (some ⟨b, 0, none⟩) n cap) (.slice (some ⟨b, 0, none⟩) n cap) n n (j + 1) := by
  obtain ⟨xu, xg, h1, h2, h3, h4⟩ := h
  have hs := (World.ownsRow.stored h2 (j * sz + o) (mk j)).1
  refine ⟨_, _, hs, hs, List.prefix_refl _, fun i hi => ?_⟩
  by_cases q : i = j
  · subst q
    exact List.getElem?_set_self (by rw [h2.1]; exact place_lt25 hj ho)
  · rw [List.getElem?_set_ne]
    · exact h4 i (by omega)
    · intro e
      exact q (Nat.eq_of_mul_eq_mul_right (by omega : 0 < sz) (by omega))
theorem Lin.grow {v' : Value} (h : Lin e sz o mk w u g n m m) (ho : o < sz) (hg : ∀ xs, w.ownsRow 0 e sz g m xs → w'.ownsRow 0 e sz v' (m + 1) (xs ++ news) ∧ (∀ u k ys, w.ownsRow 0 e sz u k ys → ys <+: xs → u.ownBlock = g.ownBlock → w'.ownsRow 0 e sz u k ys)) (hgr : w.grownBy w' g.ownBlock) (hn : news[o]? = some (mk m)) : Lin e sz o mk w' u v' n (m + 1) (m + 1) := by
  obtain ⟨xu, xg, h1, h2, h3, h4⟩ := h
  obtain ⟨g1, g2⟩ := hg xg h2
  refine ⟨xu, xg ++ news, ?_, g1, h3.trans (List.prefix_append _ _), fun j hj => ?_⟩
  · by_cases q : u.ownBlock = g.ownBlock
    · exact g2 u n xu h1 h3 q
    · exact row_keep25 h1 fun b hb => hgr.block b (World.ownsRow.lt h1 b hb).2 (fun e => q (hb.trans e))
  · by_cases q : j < m
    · rw [List.getElem?_append_left (by rw [h2.1]; exact place_lt25 q ho)]
      exact h4 j q
    · obtain rfl : j = m := by omega
      rw [List.getElem?_append_right (by rw [h2.1]; omega), h2.1, Nat.add_sub_cancel_left]
      exact hn
end
def F4 {α : Sort _} (a b c d : α) : Nat → α
  | 0 => a
  | 1 => b
  | 2 => c
  | _ => d
abbrev qE : Nat → TypeId := F4 9 9 41 41
abbrev qS : Nat → Nat := F4 1 1 3 3
abbrev qO : Nat → Nat := F4 0 0 2 2
abbrev qM : Nat → Nat → Value := F4 (fun _ => .string ⟨#[97]⟩) (fun _ => .string ⟨#[98]⟩) (fun j => .int .i64 (100000 + (j : Int))) (fun j => .int .i64 (200000 + (j : Int)))
theorem qO_lt {i : Nat} (h : i < 4) : qO i < qS i := by
  obtain rfl | rfl | rfl | rfl : i = 0 ∨ i = 1 ∨ i = 2 ∨ i = 3 := by omega
  all_goals decide
/-- What is touched: the rows of four lists, and what is new. -/
def Tou (w0 w : World) (U : Nat → Value) : Prop := w.os = w0.os ∧ w.tape = w0.tape ∧ w.output = w0.output ∧ w0.heap.size ≤ w.heap.size ∧ ∀ b, b < w0.heap.size → (∀ i, i < 4 → (U i).ownBlock ≠ some b) → w.heap[b]? = w0.heap[b]?
/-- Four lists, what they have grown to, how long both are, and how much is marked. -/
structure Quad (w0 w : World) (U G : Nat → Value) (N M K : Nat → Nat) : Prop where
  ln : ∀ i, i < 4 → Lin (qE i) (qS i) (qO i) (qM i) w (U i) (G i) (N i) (M i) (K i)
  ap : ∀ i j b, i < 4 → j < 4 → i ≠ j → Blk2 (U i) (G i) b → ¬ Blk2 (U j) (G j) b
  nw : ∀ i b, i < 4 → (G i).ownBlock = some b → (U i).ownBlock = some b ∨ w0.heap.size ≤ b
  tou : Tou w0 w U
variable {w0 w w' : World} {U G G' : Nat → Value} {N M K M' K' : Nat → Nat}
theorem Quad.below (h : Quad w0 w U G N M K) (hb : Below w.heap.size w w') : Quad w0 w' U G N M K := by
  obtain ⟨t1, t2, t3, t4, t5⟩ := h.tou
  refine ⟨fun i hi => (h.ln i hi).keep fun b hB => hb.block b ((h.ln i hi).lt hB), h.ap, h.nw, hb.os.trans t1, hb.tape.trans t2, hb.output.trans t3, Nat.le_trans t4 hb.size, fun b h1 h2 => (hb.block b (by omega)).trans (t5 b h1 h2)⟩
theorem Quad.drewN (h : Quad w0 w U G N M K) (q : Nat) : Quad w0 (w.drewN q) U G N M K := by
  induction q with
  | zero => exact h
  | succ q ih => exact ih.below (Below.refl _ _).drew
theorem Quad.mark {i j n b cap : Nat} (h : Quad w0 w U U N N K) (hi : i < 4) (hu : U i = .slice (some ⟨b, 0, none⟩) n cap) (hn : N i = n) (hk : K i = j) (hj : j < n) (hK : ∀ x, x < 4 → K' x = if x = i then j + 1 else K x) :
    Quad w0 (w.setCell ⟨b, j * qS i + qO i, none⟩ (qM i j)) U U N N K' := by
  have hub : (U i).ownBlock = some b := by rw [hu]; rfl
  have hset : ∀ k, k ≠ b → (w.setCell ⟨b, j * qS i + qO i, none⟩ (qM i j)).heap[k]? = w.heap[k]? := fun k hk => heap_setCell_other w _ k _ hk
  obtain ⟨t1, t2, t3, t4, t5⟩ := h.tou
  refine ⟨fun x hx => ?_, h.ap, h.nw, t1, t2, t3, by simpa using t4, fun k h1 h2 => (hset k (fun e => ?_)).trans (t5 k h1 h2)⟩
  · rw [hK x hx]
    by_cases q : x = i
    · subst q
      rw [if_pos rfl]
      have hl := h.ln x hx
      rw [hu, hn, hk] at hl
      rw [hu, hn]
      exact hl.mark hj (qO_lt hx)
    · rw [if_neg q]
      refine (h.ln x hx).keep fun k hB => hset k (fun e => ?_)
      subst e
      exact h.ap x i k hx hi q hB (.inl hub)
  · subst e
    exact h2 i hi hub
theorem Quad.grow {i m : Nat} {v' : Value} {news : List Value} (h : Quad w0 w U G N M K) (hi : i < 4) (hm : M i = m) (hk : K i = m)
    (ho : ∀ xs, w.ownsRow 0 (qE i) (qS i) (G i) m xs → w'.ownsRow 0 (qE i) (qS i) v' (m + 1) (xs ++ news) ∧ (∀ u k ys, w.ownsRow 0 (qE i) (qS i) u k ys → ys <+: xs → u.ownBlock = (G i).ownBlock → w'.ownsRow 0 (qE i) (qS i) u k ys))
    (hgr : w.grownBy w' (G i).ownBlock) (hb : v'.ownBlock = (G i).ownBlock ∨ ∃ g, v'.ownBlock = some g ∧ w.heap.size ≤ g) (hn : news[qO i]? = some (qM i m))
    (hG : ∀ x, x < 4 → G' x = if x = i then v' else G x) (hM : ∀ x, x < 4 → M' x = if x = i then m + 1 else M x) (hK : ∀ x, x < 4 → K' x = if x = i then m + 1 else K x) : Quad w0 w' U G' N M' K' := by
  obtain ⟨t1, t2, t3, t4, t5⟩ := h.tou
  have blk : ∀ x b, x < 4 → Blk2 (U x) (G' x) b → Blk2 (U x) (G x) b ∨ (x = i ∧ w.heap.size ≤ b) := fun x b hx hB => by
    rw [hG x hx] at hB
    by_cases q : x = i
    · subst q
      rw [if_pos rfl] at hB
      rcases hB with hB | hB
      · exact .inl (.inl hB)
      · rcases hb with e | ⟨g, e, hg⟩
        · exact .inl (.inr (e.symm.trans hB))
        · rw [e] at hB; cases hB; exact .inr ⟨rfl, hg⟩
    · rw [if_neg q] at hB; exact .inl hB
  refine ⟨fun x hx => ?_, fun x y b hx hy hxy hB hB' => ?_, fun x b hx e => ?_, hgr.os.trans t1, hgr.tape.trans t2, hgr.output.trans t3, Nat.le_trans t4 hgr.size, fun b h1 h2 => (hgr.block b (by omega) (fun e => ?_)).trans (t5 b h1 h2)⟩
  · rw [hG x hx, hM x hx, hK x hx]
    by_cases q : x = i
    · subst q
      rw [if_pos rfl, if_pos rfl, if_pos rfl]
      have hl := h.ln x hx
      rw [hm, hk] at hl
      exact hl.grow (qO_lt hx) ho hgr hn
    · rw [if_neg q, if_neg q, if_neg q]
      refine (h.ln x hx).keep fun b hB => hgr.block b ((h.ln x hx).lt hB) (fun e => ?_)
      exact h.ap x i b hx hi q hB (.inr e.symm)
  · rcases blk x b hx hB with q | ⟨q1, q2⟩
    · rcases blk y b hy hB' with p | ⟨p1, p2⟩
      · exact h.ap x y b hx hy hxy q p
      · have := (h.ln x hx).lt q; omega
    · rcases blk y b hy hB' with p | ⟨p1, p2⟩
      · have := (h.ln y hy).lt p; omega
      · exact hxy (q1.trans p1.symm)
  · rw [hG x hx] at e
    by_cases q : x = i
    · subst q
      rw [if_pos rfl] at e
      rcases hb with z | ⟨g, z, hg⟩
      · exact h.nw x b hx (z.symm.trans e)
      · rw [z] at e; cases e; exact .inr (by omega)
    · rw [if_neg q] at e; exact h.nw x b hx e
  · rcases h.nw i b hi e.symm with q | q
    · exact h2 i hi q
    · omega
end Go.Proofs.YtdfnehngffajiaaDoor
