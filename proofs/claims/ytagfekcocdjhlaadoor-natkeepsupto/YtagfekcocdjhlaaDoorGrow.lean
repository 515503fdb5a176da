/-
  Grow: a word appended to a list of its own row: in place or in a new row; the lists that begin in that row stay.
-/
import Derived.Test.YtagfekcocdjhlaaDoorHolds
import Derived.Test.YtagfekcocdjhlaaDoorAdd
import Derived.ArgAppend
import Derived.OwnWalk
namespace Go.Proofs.YtagfekcocdjhlaaDoor
open Go.RowKit

theorem ow_prefix {w w' : World} {g cap n : Nat} {zs ys : List Int} {x : Int} {u : Value} (hn : zs.length = n) (h : Ow w (.slice (some ⟨g, 0, none⟩) n cap) zs)
    (h' : w'.ownsRow 0 42 1 (.slice (some ⟨g, 0, none⟩) (n + 1) cap) (n + 1) (ws zs ++ [.int .u64 x])) (hu : Ow w u ys) (hp : ys <+: zs) (hb : u.ownBlock = some g) : Ow w' u ys := by
  obtain ⟨_, ⟨h2, _⟩ | ⟨g1, cap1, cur1, h2, _, h4, _, _, h7, _⟩⟩ := h
  · cases h2
  obtain ⟨_, ⟨k2, _⟩ | ⟨g2, cap2, cur2, k2, _, k4, _, _, k7, k8⟩⟩ := h'
  · cases k2
  obtain ⟨m1, ⟨m2, m3⟩ | ⟨g3, cap3, cur3, m2, m3, m4, m5, m6, m7, m8⟩⟩ := hu
  · rw [m2] at hb; cases hb
  simp only [Value.slice.injEq, Option.some.injEq, Addr.mk.injEq, and_true] at h2 k2
  obtain ⟨rfl, _, rfl⟩ := h2
  obtain ⟨rfl, _, rfl⟩ := k2
  obtain rfl : g3 = g := by rw [m2] at hb; simpa [Value.ownBlock] using hb
  have e : cur3 = cur1 := by
    have := m4.symm.trans h4
    simpa using this
  subst e
  refine ⟨m1, .inr ⟨g3, cap3, cur2, m2, m3, k4, m5, m6, by rw [k7, ← m7, h7], ?_⟩⟩
  obtain ⟨t, ht⟩ := hp
  have hl : ys.length ≤ n := by rw [← hn, ← ht]; simp
  rw [Nat.mul_one] at k8 ⊢
  have : cur2.toList.take ys.length = (cur2.toList.take (n + 1)).take ys.length := by rw [List.take_take, Nat.min_eq_left (by omega)]
  rw [this, k8, ← ht, ws, List.map_append, List.append_assoc, List.take_append_of_le_length (by simp), List.take_of_length_le (by simp)]
  rfl

theorem wpList_append_mark (w : World) {ops : Array Oper} {rest : List Oper} {o : Oper} {a : Act} {Q : Exit → Act → World → Prop}
    (hg : o.guard = none) (s x : Operand) (hop : o.op = Op.call { callee := Callee.builtin Builtin.append, args := #[s, x], argTypes := #[22, 22] })
    (v : Value) (zs : List Int) (c : Int) (hs : a.eval s = v) (hown : Ow w v zs) (hmx : zs.length + 1 ≤ 17592186044000)
    (ad : Addr) (hx : a.eval x = .slice (some ad) 1 1) (hc : w.cell? ad = some (.int .u64 c))
    (hK : ∀ v' w', Hid (Ow w' v' (zs ++ [c])) → Hid (v'.ownBlock = v.ownBlock ∨ ∃ g, v'.ownBlock = some g ∧ w.heap.size ≤ g) → Hid (w.grownBy w' v.ownBlock) →
      Hid (∀ u ys, Ow w u ys → ys <+: zs → u.ownBlock = v.ownBlock → Ow w' u ys) → Hid (∃ b k, v' = .slice (some ⟨b, 0, none⟩) (zs.length + 1) k) → wpList Tryd.prog ops Q rest (a.put o.dst v') w') :
    wpList Tryd.prog ops Q (o :: rest) a w := by
  obtain ⟨i, hi, hz, hsz, hb⟩ := info_parts Tryd.infoW
  have hnews : ∀ j u, ([.int .u64 c] : List Value)[j]? = some u → w.cell? (ad.add j) = some u := fun j u hj => by
    match j, hj with
    | 0, hj => simp at hj; subst hj; simpa [Addr.add] using hc
  have h1c : ∀ u ∈ ([.int .u64 c] : List Value), u.oneCell' = true := fun u hu => by simp at hu; subst hu; rfl
  have grow : ∀ v' w', w'.ownsRow w.heap.size 42 1 v' (zs.length + 1) (ws zs ++ [.int .u64 c]) → w.grownBy w' none → wpList Tryd.prog ops Q rest (a.put o.dst v') w' := fun v' w' ho hgr => by
    have hf : ∃ g cap, v' = .slice (some ⟨g, 0, none⟩) (zs.length + 1) cap ∧ w.heap.size ≤ g := by
      obtain ⟨_, ⟨_, h2⟩ | ⟨g, cap, _, h2, h3, _⟩⟩ := ho
      · omega
      · exact ⟨g, cap, h2, h3⟩
    obtain ⟨g, cap, hv', hgg⟩ := hf
    refine hK v' w' ?_ (.inr ⟨g, by rw [hv']; rfl, hgg⟩) ⟨hgr.os, hgr.tape, hgr.output, hgr.size, fun k hk _ => hgr.block k hk (by simp)⟩ (fun u ys hu _ _ => hu.keep fun k hk => hgr.block k (hu.lt hk) (by simp)) ⟨g, cap, hv'⟩
    obtain ⟨h1, h2 | ⟨g', cap', cur, h2, _, h4⟩⟩ := ho
    · exact absurd h2.2 (by omega)
    · unfold Hid Ow
      rw [show (zs ++ [c]).length = zs.length + 1 by simp, show ws (zs ++ [c]) = ws zs ++ [.int .u64 c] by simp [ws]]
      exact ⟨h1, .inr ⟨g', cap', cur, h2, Nat.zero_le _, h4⟩⟩
  have hbytes : (zs.length + 1) * 8 ≤ 140737488355328 := by omega
  have hml : zs.length + 1 ≤ maxLen := by unfold maxLen; omega
  have hown' := hown
  obtain ⟨h1, ⟨h2, h3⟩ | ⟨g, cap, cur, h2, h3, h4, h5, h6, h7, h8⟩⟩ := hown
  · have hz0 : zs = [] := List.eq_nil_of_length_eq_zero h3
    subst hz0
    refine wpList_append_grows w hg s x 22 hop 42 i _ 1 8 Tryd.underlying22 hi hz hsz hb rfl (by omega) none 0 0 [] (hs.trans h2) (fun _ => ⟨rfl, rfl⟩) rfl (fun b e => by cases e) ad 1 1 [.int .u64 c] hx rfl hnews h1c (by omega) hml hbytes ?_
    exact grow
  · by_cases hfit : zs.length + 1 ≤ cap
    · refine wpList_append_fits w hg s x 22 hop 0 42 i 1 Tryd.underlying22 hi hsz g zs.length cap (ws zs) (hs.trans h2) (by rw [← h2]; exact hown') ad 1 1 [.int .u64 c] hx rfl hnews h1c hfit ?_
      intro w' ho hgr
      have hvb : v.ownBlock = some g := by rw [h2]; rfl
      refine hK _ w' ?_ (.inl (by rw [hvb]; rfl)) (by rw [hvb]; exact hgr) (fun u ys hu hp hub => ow_prefix (x := c) rfl (by rw [← h2]; exact hown') ho hu hp (hub.trans hvb)) ⟨g, cap, rfl⟩
      unfold Hid Ow
      rw [show (zs ++ [c]).length = zs.length + 1 by simp, show ws (zs ++ [c]) = ws zs ++ [.int .u64 c] by simp [ws]]
      exact ho
    · refine wpList_append_grows w hg s x 22 hop 42 i _ 1 8 Tryd.underlying22 hi hz hsz hb rfl (by omega) (some ⟨g, 0, none⟩) zs.length cap (ws zs) (hs.trans h2) (fun e => by cases e) h1 (fun b e => ?_) ad 1 1 [.int .u64 c] hx rfl hnews h1c (by omega) hml hbytes ?_
      · cases e
        exact fun j u hj => World.ownsRow.cells hown' (g := g) (by rw [h2]; rfl) j u hj
      · exact grow
end Go.Proofs.YtagfekcocdjhlaaDoor
