/-
  QHoldsToGrow: Holds, Grow, joined.
-/
import Derived.Test.YtiiemeigbnnlpaaGreatDoorQKeepR4ToKeep
import Derived.Test.YtiiemeigbnnlpaaGreatDoorQSubToTouch
import Derived.Laws.AppendOwn
import Derived.Test.YtiiemeigbnnlpaaGreatDoorQAddToToAdd
import Derived.ArgAppend
import Derived.OwnWalk

/- Holds -/
namespace Go.Proofs.YtiiemeigbnnlpaaGreatDoor
open Go.RowKit

/-- The marks of the list with the number i, n places long. -/
def signs (i n : Nat) : List Int := (List.range n).map (signW i)
theorem signs_len (i n : Nat) : (signs i n).length = n := by simp [signs]
theorem signs_get {i n k : Nat} (h : k < (signs i n).length) : (signs i n)[k] = signW i k := by simp [signs]
theorem signs_succ (i n : Nat) : signs i (n + 1) = signs i n ++ [signW i n] := by simp [signs, List.range_succ]
theorem signs_wf {i n : Nat} (hi : i ≤ 2097152) (hn : n ≤ 35184372088832) : WF (signs i n) := fun x hx => by
  obtain ⟨j, hj, rfl⟩ := List.mem_map.1 hx
  exact signW_is hi (by have := List.mem_range.1 hj; omega)

/-- The slice value v holds the words xs, whatever room is behind them. -/
def Sw (w : World) (v : Value) (xs : List Int) : Prop :=
  ∃ a cap, v = .slice a xs.length cap ∧ (xs = [] ∨ ∃ b off, a = some ⟨b, off, none⟩ ∧ ∀ j (h : j < xs.length), w.cell? ⟨b, off + j, none⟩ = some (.int .u64 xs[j]))

set_option maxHeartbeats 1600000 in
theorem holds_yes {w : World} {v u : Value} {i n : Nat} (hi : i ≤ 2097152) (hn : n ≤ 35184372000000) (h : Sw w v (signs i n)) (h' : Sw w u (signs i (n + 80))) :
    Calls Tryz.prog 42 #[.int .i64 (i : Int), v, u] w fun e w' => e = .returned (.bool true) ∧ ∃ q, w' = w.drewN q := by
  obtain ⟨a, cap, rfl, hm⟩ := h
  obtain ⟨a', cap', rfl, hm'⟩ := h'
  have H1 : Hid (∀ k (h : k < (signs i n).length), (signs i n)[k] = signW i k) := fun k h => signs_get h
  have H2 : Hid (∀ k (h : k < (signs i (n + 80)).length), (signs i (n + 80))[k] = signW i k) := fun k h => signs_get h
  have HM := hid hm
  have HM' := hid hm'
  have l1 := signs_len i n
  have l2 := signs_len i (n + 80)
  generalize signs i n = T at *
  generalize signs i (n + 80) = T' at *
  have L1 := hid l1
  have L2 := hid l2
  rw [l1, l2]
  clear hm hm' l1 l2
  have hne2 : ((n : Int) + 80 != (n : Int) + 80) = false := by simp
  go_enter Tryz.func42, Tryz.ntmps42
  go_wp2_with fail
  go_loopw [7] (fun j wr => ∃ k : Nat, k ≤ n ∧ j = .int .i64 k ∧ ∃ q, wr = w.drewN q) (fun j _ => n - (intOf j).toNat)
  case atStart => exact ⟨0, Nat.zero_le _, rfl, 0, rfl⟩
  case round =>
    obtain ⟨k, hk, rfl, hq⟩ := hrel
    have HQ := hid hq
    have hcw : ∀ a, wr.cell? a = w.cell? a := by obtain ⟨q, rfl⟩ := hq; intro a; rfl
    by_cases hlt : k < n
    · clear hq
      have hkT : k < T.length := by have := L1.out; omega
      rcases HM.out with e | ⟨b, off, rfl, hcy⟩
      · subst e; simp at hkT
      have c1 : wr.cell? ⟨b, off + k, none⟩ = some (.int .u64 (signW i k)) := by rw [hcw, ← H1.out k hkT]; exact hcy k hkT
      have HS : ∀ w, Calls Tryz.prog 41 #[.int .i64 (i : Int), .int .i64 (k : Int)] w fun e w' => e = .returned (.int .u64 (signW i k)) ∧ w' = w := sign_any i k hi (by omega)
      generalize signW i k = t at *
      have ht : (t != t) = false := by simp
      clear hcy hcw
      go_wp2_with fail
      go_quiet ((go_at_call 41; exact Calls.quiet_of_same (HS _)))
      go_wp2
      go_roundw
      case rel => exact ⟨k + 1, by omega, by go_num, (by obtain ⟨q, hq⟩ := HQ.out; exact ⟨q + nq, by rw [hq, World.drewN_drewN]⟩)⟩
      case measure => simp [intOf]; omega
    · clear hcw hq
      obtain ⟨q0, hq0⟩ := HQ.out
      have HQ0 := hid hq0
      clear hq0
      go_wp2_with fail
      go_loopw [8] (fun j wr => ∃ k : Nat, k ≤ n + 80 ∧ j = .int .i64 k ∧ ∃ q, wr = w.drewN q) (fun j _ => n + 80 - (intOf j).toNat)
      case atStart => exact ⟨0, Nat.zero_le _, rfl, q0, HQ0.out⟩
      case round =>
        clear HQ HQ0
        obtain ⟨k, hk, rfl, hq⟩ := hrel
        have HQ := hid hq
        rename World => wq
        have hcw : ∀ a, wq.cell? a = w.cell? a := by obtain ⟨q, e⟩ := hq; intro a; rw [e]; rfl
        clear hq
        by_cases hlt : k < n + 80
        · have hkT : k < T'.length := by have := L2.out; omega
          rcases HM'.out with e | ⟨b, off, rfl, hcy⟩
          · subst e; simp at hkT
          have c1 : wq.cell? ⟨b, off + k, none⟩ = some (.int .u64 (signW i k)) := by rw [hcw, ← H2.out k hkT]; exact hcy k hkT
          have HS : ∀ w, Calls Tryz.prog 41 #[.int .i64 (i : Int), .int .i64 (k : Int)] w fun e w' => e = .returned (.int .u64 (signW i k)) ∧ w' = w := sign_any i k hi (by omega)
          generalize signW i k = t at *
          have ht : (t != t) = false := by simp
          clear hcy hcw
          go_wp2_with fail
          go_quiet ((go_at_call 41; exact Calls.quiet_of_same (HS _)))
          go_wp2
          go_roundw
          case rel => exact ⟨k + 1, by omega, by go_num, (by obtain ⟨q, hq⟩ := HQ.out; exact ⟨q + nq, by rw [hq, World.drewN_drewN]⟩)⟩
          case measure => simp [intOf]; omega
        · go_wp2
          go_ret
          exact ⟨rfl, HQ.out⟩

/-- The slice value v is nil, or lies at the head of a row of its own, and holds the words zs; its room is the row's, or it has none. -/
def Ow (w : World) (v : Value) (zs : List Int) : Prop :=
  w.ownsRow 0 38 1 v zs.length (ws zs) ∨ ∃ g r, v = .slice (some ⟨g, 0, none⟩) zs.length zs.length ∧ Row w g (ws zs ++ r) ∧ zs.length ≤ 35184372088832
theorem Ow.nil (w : World) : Ow w (.slice none 0 0) [] := .inl (World.ownsRow_nil w 0 _ 1)
theorem Ow.keep {w w' : World} {v : Value} {zs : List Int} (h : Ow w v zs) (hk : ∀ g, v.ownBlock = some g → w'.heap[g]? = w.heap[g]?) : Ow w' v zs := by
  rcases h with ⟨h1, h2 | ⟨g, cap, cur, h2, h3, h4, h5⟩⟩ | ⟨g, r, h2, h3, h4⟩
  · exact .inl ⟨h1, .inl h2⟩
  · exact .inl ⟨h1, .inr ⟨g, cap, cur, h2, h3, (hk g (by rw [h2]; rfl)).trans h4, h5⟩⟩
  · exact .inr ⟨g, r, h2, (hk g (by rw [h2]; rfl)).trans h3, h4⟩
theorem Ow.lt {w : World} {v : Value} {zs : List Int} (h : Ow w v zs) {g : Nat} (hg : v.ownBlock = some g) : g < w.heap.size := by
  rcases h with h | ⟨g', r, h2, h3, _⟩
  · exact (World.ownsRow.lt h g hg).2
  · rw [h2] at hg
    simp [Value.ownBlock] at hg
    subst hg
    exact h3.lt
theorem Ow.form {w : World} {v : Value} {zs : List Int} (h : Ow w v zs) :
    (v = .slice none 0 0 ∧ zs = []) ∨ ∃ g cap, v = .slice (some ⟨g, 0, none⟩) zs.length cap ∧ g < w.heap.size ∧ (∀ j (h : j < zs.length), w.cell? ⟨g, j, none⟩ = some (.int .u64 zs[j])) ∧ ∀ j, w.frozen? ⟨g, j, none⟩ = false := by
  rcases h with h | ⟨g, r, h2, h3, _⟩
  · have h' := h
    obtain ⟨h1, ⟨h2, h3⟩ | ⟨g, cap, cur, h2, h3, h4, h5, h6, h7, h8⟩⟩ := h
    · exact .inl ⟨h2, List.eq_nil_of_length_eq_zero h3⟩
    · refine .inr ⟨g, cap, h2, (World.ownsRow.lt h' g (by rw [h2]; rfl)).2, fun j hj => ?_, fun j => by simp [World.frozen?, h4]⟩
      have := World.ownsRow.cells h' (g := g) (by rw [h2]; rfl) j (.int .u64 zs[j]) (by simp [ws, hj])
      have e : (⟨g, 0, none⟩ : Addr).add j = ⟨g, j, none⟩ := by unfold Addr.add; split <;> simp_all
      rwa [e] at this
  · exact .inr ⟨g, _, h2, h3.lt, fun j hj => h3.word hj, fun j => h3.frozen j⟩
theorem Ow.sw {w : World} {v : Value} {zs : List Int} (h : Ow w v zs) : Sw w v zs := by
  rcases h.form with ⟨rfl, rfl⟩ | ⟨g, cap, rfl, _, hc, _⟩
  · exact ⟨none, 0, rfl, .inl rfl⟩
  · exact ⟨_, cap, rfl, .inr ⟨g, 0, rfl, fun j hj => by rw [Nat.zero_add]; exact hc j hj⟩⟩
theorem ws_set_any (zs : List Int) (r : List Value) (j : Nat) (x : Int) : ∃ r', (ws zs ++ r).set j (.int .u64 x) = ws (zs.set j x) ++ r' := by
  by_cases h : j < zs.length
  · exact ⟨r, ws_set zs r j h x⟩
  · refine ⟨r.set (j - zs.length) (.int .u64 x), ?_⟩
    have e : zs.set j x = zs := List.set_eq_of_length_le (by omega)
    rw [List.set_append_right _ _ (by rw [length_ws]; omega), length_ws, e]
theorem Ow.set {w : World} {v : Value} {zs : List Int} (h : Ow w v zs) {g : Nat} (hg : v.ownBlock = some g) (j : Nat) (x : Int) : Ow (w.setCell ⟨g, j, none⟩ (.int .u64 x)) v (zs.set j x) := by
  rcases h with ⟨h1, ⟨h2, h3⟩ | ⟨g', cap, cur, h2, h3, h4, h5, h6, h7, h8⟩⟩ | ⟨g', r, h2, h3, h4⟩
  · rw [h2] at hg; cases hg
  · obtain rfl : g' = g := by rw [h2] at hg; simpa [Value.ownBlock] using hg
    refine .inl ⟨by simp [length_ws], .inr ⟨g', cap, cur.setIfInBounds j (.int .u64 x), by simpa using h2, h3, ?_, by simpa using h5, h6, by simpa using h7, ?_⟩⟩
    · simp [World.setCell, Array.getElem?_modify, h4]
    · rw [Array.toList_setIfInBounds, List.length_set, List.take_set, Nat.mul_one]
      rw [Nat.mul_one] at h8
      rw [h8]
      simp [ws, List.map_set]
  · obtain rfl : g' = g := by rw [h2] at hg; simpa [Value.ownBlock] using hg
    obtain ⟨r', e⟩ := ws_set_any zs r j x
    refine .inr ⟨g', r', by simpa using h2, ?_, by simpa using h4⟩
    rw [← e]
    exact h3.set j _
theorem Row.ow {w : World} {g : Nat} {zs : List Int} {r : List Value} (h : Row w g (ws zs ++ r)) (hm : zs.length + r.length ≤ 35184372088832) : Ow w (.slice (some ⟨g, 0, none⟩) zs.length (zs.length + r.length)) zs :=
  .inl ⟨by simp [length_ws], .inr ⟨g, _, _, rfl, Nat.zero_le _, h, by omega, by unfold maxLen; omega, by simp [length_ws], by simp [length_ws]⟩⟩
theorem Row.owTight {w : World} {g : Nat} {zs : List Int} {r : List Value} (h : Row w g (ws zs ++ r)) (hm : zs.length ≤ 35184372088832) : Ow w (.slice (some ⟨g, 0, none⟩) zs.length zs.length) zs := .inr ⟨g, r, rfl, h, hm⟩
theorem Own.ow {B : Nat} {w : World} {v : Value} {zs : List Int} (h : Own B w v zs) : Ow w v zs := by
  obtain ⟨hw, ⟨h1, h2⟩ | ⟨g, r, h1, h2, h3, h4⟩⟩ := h
  · subst h1 h2; exact Ow.nil w
  · subst h3; exact h4.ow h2
theorem Own.atLeast {B : Nat} {w : World} {v : Value} {zs : List Int} (h : Own B w v zs) {g : Nat} (hg : v.ownBlock = some g) : B ≤ g := by
  obtain ⟨hw, ⟨h1, h2⟩ | ⟨g', r, h1, h2, h3, h4⟩⟩ := h
  · subst h1; cases hg
  · subst h3; simp [Value.ownBlock] at hg; omega
end Go.Proofs.YtiiemeigbnnlpaaGreatDoor

/- Grow -/
namespace Go.Proofs.YtiiemeigbnnlpaaGreatDoor
open Go.RowKit

theorem ow_prefix {w w' : World} {g cap n : Nat} {zs ys : List Int} {x : Int} {u : Value} (hn : zs.length = n) (h : w.ownsRow 0 38 1 (.slice (some ⟨g, 0, none⟩) n cap) n (ws zs))
    (h' : w'.ownsRow 0 38 1 (.slice (some ⟨g, 0, none⟩) (n + 1) cap) (n + 1) (ws zs ++ [.int .u64 x])) (hu : Ow w u ys) (hp : ys <+: zs) (hb : u.ownBlock = some g) : Ow w' u ys := by
  obtain ⟨_, ⟨h2, _⟩ | ⟨g1, cap1, cur1, h2, _, h4, _, _, h7, _⟩⟩ := h
  · cases h2
  obtain ⟨_, ⟨k2, _⟩ | ⟨g2, cap2, cur2, k2, _, k4, _, _, k7, k8⟩⟩ := h'
  · cases k2
  simp only [Value.slice.injEq, Option.some.injEq, Addr.mk.injEq, and_true] at h2 k2
  obtain ⟨rfl, _, rfl⟩ := h2
  obtain ⟨rfl, _, rfl⟩ := k2
  obtain ⟨t, ht⟩ := hp
  have hl : ys.length ≤ n := by rw [← hn, ← ht]; simp
  rw [Nat.mul_one] at k8
  have htake : cur2.toList.take ys.length = ws ys := by
    have : cur2.toList.take ys.length = (cur2.toList.take (n + 1)).take ys.length := by rw [List.take_take, Nat.min_eq_left (by omega)]
    rw [this, k8, ← ht, ws, List.map_append, List.append_assoc, List.take_append_of_le_length (by simp), List.take_of_length_le (by simp)]
    rfl
  rcases hu with ⟨m1, ⟨m2, m3⟩ | ⟨g3, cap3, cur3, m2, m3, m4, m5, m6, m7, m8⟩⟩ | ⟨g3, r3, m2, m3, m4⟩
  · rw [m2] at hb; cases hb
  · obtain rfl : g3 = g := by rw [m2] at hb; simpa [Value.ownBlock] using hb
    have e : cur3 = cur1 := by
      have := m4.symm.trans h4
      simpa using this
    subst e
    exact .inl ⟨m1, .inr ⟨g3, cap3, cur2, m2, m3, k4, m5, m6, by rw [k7, ← m7, h7], by rw [Nat.mul_one]; exact htake⟩⟩
  · obtain rfl : g3 = g := by rw [m2] at hb; simpa [Value.ownBlock] using hb
    refine .inr ⟨g3, cur2.toList.drop ys.length, m2, ?_, m4⟩
    unfold Row
    rw [← htake, List.take_append_drop, Array.toArray_toList]
    exact k4

theorem wpList_append_mark (w : World) {ops : Array Oper} {rest : List Oper} {o : Oper} {a : Act} {Q : Exit → Act → World → Prop}
    (hg : o.guard = none) (s x : Operand) (hop : o.op = Op.call { callee := Callee.builtin Builtin.append, args := #[s, x], argTypes := #[22, 22] })
    (v : Value) (zs : List Int) (c : Int) (hs : a.eval s = v) (hown : Ow w v zs) (hmx : zs.length + 1 ≤ 17592186044000)
    (ad : Addr) (hx : a.eval x = .slice (some ad) 1 1) (hc : w.cell? ad = some (.int .u64 c))
    (hK : ∀ v' w', Hid (Ow w' v' (zs ++ [c])) → Hid (v'.ownBlock = v.ownBlock ∨ ∃ g, v'.ownBlock = some g ∧ w.heap.size ≤ g) → Hid (w.grownBy w' v.ownBlock) →
      Hid (∀ u ys, Ow w u ys → ys <+: zs → u.ownBlock = v.ownBlock → Ow w' u ys) → Hid (∃ b k, v' = .slice (some ⟨b, 0, none⟩) (zs.length + 1) k) → wpList Tryz.prog ops Q rest (a.put o.dst v') w') :
    wpList Tryz.prog ops Q (o :: rest) a w := by
  obtain ⟨i, hi, hz, hsz, hb⟩ := info_parts Tryz.infoW
  have hnews : ∀ j u, ([.int .u64 c] : List Value)[j]? = some u → w.cell? (ad.add j) = some u := fun j u hj => by
    match j, hj with
    | 0, hj => simp at hj; subst hj; simpa [Addr.add] using hc
  have h1c : ∀ u ∈ ([.int .u64 c] : List Value), u.oneCell' = true := fun u hu => by simp at hu; subst hu; rfl
  have grow : ∀ v' w', w'.ownsRow w.heap.size 38 1 v' (zs.length + 1) (ws zs ++ [.int .u64 c]) → w.grownBy w' none → wpList Tryz.prog ops Q rest (a.put o.dst v') w' := fun v' w' ho hgr => by
    have hf : ∃ g cap, v' = .slice (some ⟨g, 0, none⟩) (zs.length + 1) cap ∧ w.heap.size ≤ g := by
      obtain ⟨_, ⟨_, h2⟩ | ⟨g, cap, _, h2, h3, _⟩⟩ := ho
      · omega
      · exact ⟨g, cap, h2, h3⟩
    obtain ⟨g, cap, hv', hgg⟩ := hf
    refine hK v' w' ?_ (.inr ⟨g, by rw [hv']; rfl, hgg⟩) ⟨hgr.os, hgr.tape, hgr.output, hgr.size, fun k hk _ => hgr.block k hk (by simp)⟩ (fun u ys hu _ _ => hu.keep fun k hk => hgr.block k (hu.lt hk) (by simp)) ⟨g, cap, hv'⟩
    obtain ⟨h1, h2 | ⟨g', cap', cur, h2, _, h4⟩⟩ := ho
    · exact absurd h2.2 (by omega)
    · unfold Hid Ow
      rw [show (zs ++ [c]).length = zs.length + 1 by simp, show ws (zs ++ [c]) = ws zs ++ [.int .u64 c] by simp [ws]]
      exact .inl ⟨h1, .inr ⟨g', cap', cur, h2, Nat.zero_le _, h4⟩⟩
  have hbytes : (zs.length + 1) * 8 ≤ 140737488355328 := by omega
  have hml : zs.length + 1 ≤ maxLen := by unfold maxLen; omega
  rcases hown with hown | ⟨g, r, h2, h3, h4⟩
  rotate_left
  · refine wpList_append_grows w hg s x 22 hop 38 i _ 1 8 Tryz.underlying22 hi hz hsz hb rfl (by omega) (some ⟨g, 0, none⟩) zs.length zs.length (ws zs) (hs.trans h2) (fun e => by cases e) (by simp [length_ws]) (fun b e => ?_) ad 1 1 [.int .u64 c] hx rfl hnews h1c (by omega) hml hbytes ?_
    · cases e
      intro j u hj
      have hj' : j < zs.length := by
        have := (List.getElem?_eq_some_iff.1 hj).1
        simpa [length_ws] using this
      have e : (⟨g, 0, none⟩ : Addr).add j = ⟨g, j, none⟩ := by unfold Addr.add; split <;> simp_all
      rw [e, h3.word hj', ← hj]
      simp [ws, hj']
    · exact grow
  have hown' := hown
  obtain ⟨h1, ⟨h2, h3⟩ | ⟨g, cap, cur, h2, h3, h4, h5, h6, h7, h8⟩⟩ := hown
  · have hz0 : zs = [] := List.eq_nil_of_length_eq_zero h3
    subst hz0
    refine wpList_append_grows w hg s x 22 hop 38 i _ 1 8 Tryz.underlying22 hi hz hsz hb rfl (by omega) none 0 0 [] (hs.trans h2) (fun _ => ⟨rfl, rfl⟩) rfl (fun b e => by cases e) ad 1 1 [.int .u64 c] hx rfl hnews h1c (by omega) hml hbytes ?_
    exact grow
  · by_cases hfit : zs.length + 1 ≤ cap
    · refine wpList_append_fits w hg s x 22 hop 0 38 i 1 Tryz.underlying22 hi hsz g zs.length cap (ws zs) (hs.trans h2) (by rw [← h2]; exact hown') ad 1 1 [.int .u64 c] hx rfl hnews h1c hfit ?_
      intro w' ho hgr
      have hvb : v.ownBlock = some g := by rw [h2]; rfl
      refine hK _ w' ?_ (.inl (by rw [hvb]; rfl)) (by rw [hvb]; exact hgr) (fun u ys hu hp hub => ow_prefix (x := c) rfl (by rw [← h2]; exact hown') ho hu hp (hub.trans hvb)) ⟨g, cap, rfl⟩
      unfold Hid Ow
      rw [show (zs ++ [c]).length = zs.length + 1 by simp, show ws (zs ++ [c]) = ws zs ++ [.int .u64 c] by simp [ws]]
      exact .inl ho
    · refine wpList_append_grows w hg s x 22 hop 38 i _ 1 8 Tryz.underlying22 hi hz hsz hb rfl (by omega) (some ⟨g, 0, none⟩) zs.length cap (ws zs) (hs.trans h2) (fun e => by cases e) h1 (fun b e => ?_) ad 1 1 [.int .u64 c] hx rfl hnews h1c (by omega) hml hbytes ?_
      · cases e
        exact fun j u hj => World.ownsRow.cells hown' (g := g) (by rw [h2]; rfl) j u hj
      · exact grow
end Go.Proofs.YtiiemeigbnnlpaaGreatDoor
