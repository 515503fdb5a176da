/-
  TurnToGrow: Turn, Grow, joined.
-/
import Derived.Test.YtnbjlpeclaieeaaOverToRooms
import Derived.Test.YtnbjlpeclaieeaaHolds
import Derived.Test.YtnbjlpeclaieeaaAdd
import Derived.ArgAppend
import Derived.OwnWalk

/- Turn -/
namespace Go.Proofs.Ytnbjlpeclaieeaa
open Go.RowKit
set_option linter.unusedVariables false

/-- The word that is written over x at place i. -/
def turnAt (i : Nat) (x : Int) : Int := IntKind.u64.wrap (IntKind.u64.wrap (IntKind.u64.wrap (x * 3) + (i : Int)) + 1)
def turnL (xs : List Int) : List Int := xs.mapIdx turnAt
theorem turnL_len (xs : List Int) : (turnL xs).length = xs.length := by simp [turnL]
theorem turnL_get {xs : List Int} {k : Nat} (h : k < (turnL xs).length) (h' : k < xs.length) : (turnL xs)[k] = turnAt k xs[k] := by simp [turnL]
theorem turnAt_is (i : Nat) (x : Int) : IsW (turnAt i x) := by unfold turnAt IsW wB; rw [IntKind.wrap_u64]; omega
theorem turnL_wf (xs : List Int) : WF (turnL xs) := fun y hy => by
  obtain ⟨k, hk, rfl⟩ := List.getElem_of_mem hy
  rw [turnL_get hk (by rw [turnL_len] at hk; exact hk)]
  exact turnAt_is _ _
/-- Turned as far as k. -/
def turnUpto (xs : List Int) (k : Nat) : List Int := (turnL xs).take k ++ xs.drop k
theorem turnUpto_len (xs : List Int) {k : Nat} (h : k ≤ xs.length) : (turnUpto xs k).length = xs.length := by simp [turnUpto, turnL_len]; omega
theorem turnUpto_get {xs : List Int} {k : Nat} (h : k < (turnUpto xs k).length) (h' : k < xs.length) : (turnUpto xs k)[k] = xs[k] := by
  have hl : ((turnL xs).take k).length = k := by simp [turnL_len]; omega
  have e : turnUpto xs k = (turnL xs).take k ++ xs.drop k := rfl
  have h2 : ((turnL xs).take k ++ xs.drop k)[k]? = some xs[k] := by
    rw [List.getElem?_append_right (by omega), hl, Nat.sub_self]
    simp [h']
  rw [← e] at h2
  exact (List.getElem?_eq_some_iff.1 h2).2
theorem turnUpto_set {xs : List Int} {k : Nat} (h : k < xs.length) : (turnUpto xs k).set k (turnAt k xs[k]) = turnUpto xs (k + 1) := by
  unfold turnUpto
  have e : xs.drop k = xs[k] :: xs.drop (k + 1) := List.drop_eq_getElem_cons h
  have hl : ((turnL xs).take k).length = k := by simp [turnL_len]; omega
  rw [List.set_append_right _ _ (by omega), hl, e, Nat.sub_self, List.set_cons_zero, List.take_succ_eq_append_getElem (by rw [turnL_len]; exact h), turnL_get _ h, List.append_assoc]
  rfl

set_option maxHeartbeats 1600000 in
theorem turn_any {w : World} {g : Nat} {xs : List Int} {r : List Value} {cap : Nat} (hr : Row w g (ws xs ++ r)) (hw : WF xs) (hl : xs.length ≤ 1048576) :
    Calls Try.prog 11 #[.slice (some ⟨g, 0, none⟩) xs.length cap] w fun e w' => e = .returned (.tuple #[]) ∧ Row w' g (ws (turnL xs) ++ r) ∧ Touch (· = g) w w' := by
  have HW := hid hw
  obtain ⟨n, hn⟩ : ∃ n, xs.length = n := ⟨_, rfl⟩
  have HN := hid hn
  rw [hn] at hl ⊢
  have H0 : Hid (Row w g (ws (turnUpto xs 0) ++ r)) := by unfold Hid; simpa [turnUpto] using hr
  have HE : Hid (turnUpto xs n = turnL xs) := by unfold Hid turnUpto; rw [← hn, List.drop_length, List.take_of_length_le (by rw [turnL_len]; exact Nat.le_refl _)]; simp
  clear hr hw hn
  go_enter Try.func11, Try.ntmps11
  go_wp2_with fail
  go_loopw [2] (fun i wr => ∃ k : Nat, k ≤ n ∧ i = .int .i64 k ∧ Hid (Row wr g (ws (turnUpto xs k) ++ r)) ∧ Hid (Touch (· = g) w wr)) (fun i _ => n - (intOf i).toNat)
  case atStart => exact ⟨0, Nat.zero_le _, rfl, H0, Touch.refl _ _⟩
  case round =>
    clear H0
    obtain ⟨k, hk, rfl, HR, HT⟩ := hrel
    by_cases hlt : k < n
    · have hk2 : k < xs.length := by have := HN.out; omega
      have hk3 : k < (turnUpto xs k).length := by rw [turnUpto_len xs (by omega)]; exact hk2
      have c1 : wr.cell? ⟨g, k, none⟩ = some (.int .u64 xs[k]) := by
        rw [← turnUpto_get hk3 hk2]
        exact HR.out.word hk3
      have cf : wr.frozen? ⟨g, k, none⟩ = false := HR.out.frozen _
      have HS := hid (HR.out.setWord hk3 (turnAt k xs[k]))
      have HT2 := hid (HT.out.setCell (.inr rfl) k (.int .u64 (turnAt k xs[k])))
      rw [turnUpto_set hk2] at HS
      have hx := HW.out.get hk2
      unfold IsW wB at hx
      unfold turnAt at HS HT2
      generalize xs[k] = x at *
      clear HR HT
      go_wp2
      go_roundw
      case rel => exact ⟨k + 1, by omega, by go_num, HS, HT2⟩
      case measure => first | (simp [intOf]; done) | (simp [intOf]; omega)
    · obtain rfl : k = n := by omega
      rw [HE.out] at HR
      go_wp2
      go_end0
      exact ⟨rfl, HR.out, HT.out⟩
end Go.Proofs.Ytnbjlpeclaieeaa

/- Grow -/
namespace Go.Proofs.Ytnbjlpeclaieeaa
open Go.RowKit

theorem ow_prefix {w w' : World} {g cap n : Nat} {zs ys : List Int} {x : Int} {u : Value} (hn : zs.length = n) (h : w.ownsRow 0 32 1 (.slice (some ⟨g, 0, none⟩) n cap) n (ws zs))
    (h' : w'.ownsRow 0 32 1 (.slice (some ⟨g, 0, none⟩) (n + 1) cap) (n + 1) (ws zs ++ [.int .u64 x])) (hu : Ow w u ys) (hp : ys <+: zs) (hb : u.ownBlock = some g) : Ow w' u ys := by
  obtain ⟨_, ⟨h2, _⟩ | ⟨g1, cap1, cur1, h2, _, h4, _, _, h7, _⟩⟩ := h
  · cases h2
  obtain ⟨_, ⟨k2, _⟩ | ⟨g2, cap2, cur2, k2, _, k4, _, _, k7, k8⟩⟩ := h'
  · cases k2
  simp only [Value.slice.injEq, Option.some.injEq, Addr.mk.injEq, and_true] at h2 k2
  obtain ⟨rfl, _, rfl⟩ := h2
  obtain ⟨rfl, _, rfl⟩ := k2
  obtain ⟨t, ht⟩ := hp
  have hl : ys.length ≤ n := by rw [← hn, ← ht]; simp
  rw [Nat.mul_one] at k8
  have htake : cur2.toList.take ys.length = ws ys := by
    have : cur2.toList.take ys.length = (cur2.toList.take (n + 1)).take ys.length := by rw [List.take_take, Nat.min_eq_left (by omega)]
    rw [this, k8, ← ht, ws, List.map_append, List.append_assoc, List.take_append_of_le_length (by simp), List.take_of_length_le (by simp)]
    rfl
  rcases hu with ⟨m1, ⟨m2, m3⟩ | ⟨g3, cap3, cur3, m2, m3, m4, m5, m6, m7, m8⟩⟩ | ⟨g3, r3, m2, m3, m4⟩
  · rw [m2] at hb; cases hb
  · obtain rfl : g3 = g := by rw [m2] at hb; simpa [Value.ownBlock] using hb
    have e : cur3 = cur1 := by
      have := m4.symm.trans h4
      simpa using this
    subst e
    exact .inl ⟨m1, .inr ⟨g3, cap3, cur2, m2, m3, k4, m5, m6, by rw [k7, ← m7, h7], by rw [Nat.mul_one]; exact htake⟩⟩
  · obtain rfl : g3 = g := by rw [m2] at hb; simpa [Value.ownBlock] using hb
    refine .inr ⟨g3, cur2.toList.drop ys.length, m2, ?_, m4⟩
    unfold Row
    rw [← htake, List.take_append_drop, Array.toArray_toList]
    exact k4

theorem wpList_append_mark (w : World) {ops : Array Oper} {rest : List Oper} {o : Oper} {a : Act} {Q : Exit → Act → World → Prop}
    (hg : o.guard = none) (s x : Operand) (hop : o.op = Op.call { callee := Callee.builtin Builtin.append, args := #[s, x], argTypes := #[22, 22] })
    (v : Value) (zs : List Int) (c : Int) (hs : a.eval s = v) (hown : Ow w v zs) (hmx : zs.length + 1 ≤ 17592186044000)
    (ad : Addr) (hx : a.eval x = .slice (some ad) 1 1) (hc : w.cell? ad = some (.int .u64 c))
    (hK : ∀ v' w', Hid (Ow w' v' (zs ++ [c])) → Hid (v'.ownBlock = v.ownBlock ∨ ∃ g, v'.ownBlock = some g ∧ w.heap.size ≤ g) → Hid (w.grownBy w' v.ownBlock) →
      Hid (∀ u ys, Ow w u ys → ys <+: zs → u.ownBlock = v.ownBlock → Ow w' u ys) → Hid (∃ b k, v' = .slice (some ⟨b, 0, none⟩) (zs.length + 1) k) → wpList Try.prog ops Q rest (a.put o.dst v') w') :
    wpList Try.prog ops Q (o :: rest) a w := by
  obtain ⟨i, hi, hz, hsz, hb⟩ := info_parts Try.infoW
  have hnews : ∀ j u, ([.int .u64 c] : List Value)[j]? = some u → w.cell? (ad.add j) = some u := fun j u hj => by
    match j, hj with
    | 0, hj => simp at hj; subst hj; simpa [Addr.add] using hc
  have h1c : ∀ u ∈ ([.int .u64 c] : List Value), u.oneCell' = true := fun u hu => by simp at hu; subst hu; rfl
  have grow : ∀ v' w', w'.ownsRow w.heap.size 32 1 v' (zs.length + 1) (ws zs ++ [.int .u64 c]) → w.grownBy w' none → wpList Try.prog ops Q rest (a.put o.dst v') w' := fun v' w' ho hgr => by
    have hf : ∃ g cap, v' = .slice (some ⟨g, 0, none⟩) (zs.length + 1) cap ∧ w.heap.size ≤ g := by
      obtain ⟨_, ⟨_, h2⟩ | ⟨g, cap, _, h2, h3, _⟩⟩ := ho
      · omega
      · exact ⟨g, cap, h2, h3⟩
    obtain ⟨g, cap, hv', hgg⟩ := hf
    refine hK v' w' ?_ (.inr ⟨g, by rw [hv']; rfl, hgg⟩) ⟨hgr.os, hgr.tape, hgr.output, hgr.size, fun k hk _ => hgr.block k hk (by simp)⟩ (fun u ys hu _ _ => hu.keep fun k hk => hgr.block k (hu.lt hk) (by simp)) ⟨g, cap, hv'⟩
    obtain ⟨h1, h2 | ⟨g', cap', cur, h2, _, h4⟩⟩ := ho
    · exact absurd h2.2 (by omega)
    · unfold Hid Ow
      rw [show (zs ++ [c]).length = zs.length + 1 by simp, show ws (zs ++ [c]) = ws zs ++ [.int .u64 c] by simp [ws]]
      exact .inl ⟨h1, .inr ⟨g', cap', cur, h2, Nat.zero_le _, h4⟩⟩
  have hbytes : (zs.length + 1) * 8 ≤ 140737488355328 := by omega
  have hml : zs.length + 1 ≤ maxLen := by unfold maxLen; omega
  rcases hown with hown | ⟨g, r, h2, h3, h4⟩
  rotate_left
  · refine wpList_append_grows w hg s x 22 hop 32 i _ 1 8 Try.underlying22 hi hz hsz hb rfl (by omega) (some ⟨g, 0, none⟩) zs.length zs.length (ws zs) (hs.trans h2) (fun e => by cases e) (by simp [length_ws]) (fun b e => ?_) ad 1 1 [.int .u64 c] hx rfl hnews h1c (by omega) hml hbytes ?_
    · cases e
      intro j u hj
      have hj' : j < zs.length := by
        have := (List.getElem?_eq_some_iff.1 hj).1
        simpa [length_ws] using this
      have e : (⟨g, 0, none⟩ : Addr).add j = ⟨g, j, none⟩ := by unfold Addr.add; split <;> simp_all
      rw [e, h3.word hj', ← hj]
      simp [ws, hj']
    · exact grow
  have hown' := hown
  obtain ⟨h1, ⟨h2, h3⟩ | ⟨g, cap, cur, h2, h3, h4, h5, h6, h7, h8⟩⟩ := hown
  · have hz0 : zs = [] := List.eq_nil_of_length_eq_zero h3
    subst hz0
    refine wpList_append_grows w hg s x 22 hop 32 i _ 1 8 Try.underlying22 hi hz hsz hb rfl (by omega) none 0 0 [] (hs.trans h2) (fun _ => ⟨rfl, rfl⟩) rfl (fun b e => by cases e) ad 1 1 [.int .u64 c] hx rfl hnews h1c (by omega) hml hbytes ?_
    exact grow
  · by_cases hfit : zs.length + 1 ≤ cap
    · refine wpList_append_fits w hg s x 22 hop 0 32 i 1 Try.underlying22 hi hsz g zs.length cap (ws zs) (hs.trans h2) (by rw [← h2]; exact hown') ad 1 1 [.int .u64 c] hx rfl hnews h1c hfit ?_
      intro w' ho hgr
      have hvb : v.ownBlock = some g := by rw [h2]; rfl
      refine hK _ w' ?_ (.inl (by rw [hvb]; rfl)) (by rw [hvb]; exact hgr) (fun u ys hu hp hub => ow_prefix (x := c) rfl (by rw [← h2]; exact hown') ho hu hp (hub.trans hvb)) ⟨g, cap, rfl⟩
      unfold Hid Ow
      rw [show (zs ++ [c]).length = zs.length + 1 by simp, show ws (zs ++ [c]) = ws zs ++ [.int .u64 c] by simp [ws]]
      exact .inl ho
    · refine wpList_append_grows w hg s x 22 hop 32 i _ 1 8 Try.underlying22 hi hz hsz hb rfl (by omega) (some ⟨g, 0, none⟩) zs.length cap (ws zs) (hs.trans h2) (fun e => by cases e) h1 (fun b e => ?_) ad 1 1 [.int .u64 c] hx rfl hnews h1c (by omega) hml hbytes ?_
      · cases e
        exact fun j u hj => World.ownsRow.cells hown' (g := g) (by rw [h2]; rfl) j u hj
      · exact grow
end Go.Proofs.Ytnbjlpeclaieeaa
