/-
  QGatE6ToR5Made: GatE6, ROrder, RLeast, R5Made, joined.
-/
import Derived.Deep.AppendLies
import Derived.Test.YtkikiddoiigbjaaQCat9ToTy9
import Derived.Test.YtkikiddoiigbjaaQSlIntsToSplit
import Derived.Test.YtkikiddoiigbjaaQJoinToChinP6
import Derived.Test.YtkikiddoiigbjaaQZModToZDivs
import Derived.Test.YtkikiddoiigbjaaQZStoreToZFloor

/- GatE6 -/
namespace Go.Proofs.Ytkikiddoiigbjaa
open Go.RowKit
set_option linter.unusedVariables false

theorem head_addE (g j : Nat) : (⟨g, 0, none⟩ : Addr).add j = ⟨g, j, none⟩ := by unfold Addr.add; split <;> simp_all
def GatE (W : World) (B : Nat) (w : World) (v : Value) (zs : List Int) (k : Nat) : Prop :=
  ∃ Us : List Value, w.ownsRow B 25 2 v zs.length Us ∧ ∀ j z, zs[j]? = some z → ∃ x y, Us[2 * j]? = some x ∧ Us[2 * j + 1]? = some y ∧ (Zi W (.agg #[x, y]) z k ∨ Zm 0 w (.agg #[x, y]) z k)
theorem GatE.nil (W : World) (B : Nat) (w : World) (k : Nat) : GatE W B w (.slice none 0 0) [] k := ⟨[], World.ownsRow_nil _ _ _ _, fun j z h => by simp at h⟩
theorem GatE.now {W : World} {B k : Nat} {w w' : World} {v : Value} {zs : List Int} (h : GatE W B w v zs k) (hb : Below w.heap.size w w') : GatE W B w' v zs k := by
  obtain ⟨Us, h1, h3⟩ := h
  refine ⟨Us, ?_, fun j z hz => ?_⟩
  · obtain ⟨q1, q2 | ⟨g, cap, cur, q2, q3, q4, q5⟩⟩ := h1
    · exact ⟨q1, .inl q2⟩
    · exact ⟨q1, .inr ⟨g, cap, cur, q2, q3, (hb.block g (Array.getElem?_eq_some_iff.1 q4).1).trans q4, q5⟩⟩
  · obtain ⟨x, y, e1, e2, e3⟩ := h3 j z hz
    exact ⟨x, y, e1, e2, e3.imp id (fun q => q.now hb)⟩
/-- It stays where only other blocks of integers change. -/
theorem GatE.off {W : World} {B k : Nat} {w w' : World} {v : Value} {zs : List Int} (h : GatE W B w v zs k) (ht : Ty 25 w w') (hb : ∀ g, v.ownBlock = some g → w'.heap[g]? = w.heap[g]?) : GatE W B w' v zs k := by
  obtain ⟨Us, h1, h3⟩ := h
  refine ⟨Us, ?_, fun j z hz => ?_⟩
  · obtain ⟨q1, q2 | ⟨g, cap, cur, q2, q3, q4, q5⟩⟩ := h1
    · exact ⟨q1, .inl q2⟩
    · exact ⟨q1, .inr ⟨g, cap, cur, q2, q3, (hb g (by rw [q2]; rfl)).trans q4, q5⟩⟩
  · obtain ⟨x, y, e1, e2, e3⟩ := h3 j z hz
    exact ⟨x, y, e1, e2, e3.imp id (fun q => q.ty ht (by decide))⟩
theorem GatE.box {W : World} {B k b : Nat} {w : World} {v x y : Value} {zs : List Int} (h : GatE W B w v zs k) (d : Duo w b x y) (hb : b < B) (u u' : Value) : GatE W B ((w.setCell ⟨b, 0, none⟩ u).setCell ⟨b, 1, none⟩ u') v zs k := by
  have d' : Cel w b 25 [x, y] := d
  refine h.off ((Ty.set d').trans (Ty.set (d'.set _ _))) (fun g hg => ?_)
  obtain ⟨Us, ⟨q1, ⟨q2, _⟩ | ⟨g1, cap, cur, q2, q3, q4, q5⟩⟩, h3⟩ := h
  · rw [q2] at hg; cases hg
  · rw [q2] at hg
    simp only [Value.ownBlock, Option.some.injEq] at hg
    have hne : b ≠ g := by omega
    exact (Below.heap_setCell _ _ u' g (fun q => hne (by simpa using q.symm))).trans (Below.heap_setCell w _ u g (fun q => hne (by simpa using q.symm)))
theorem GatE.form {W : World} {B k : Nat} {w : World} {v : Value} {zs : List Int} (h : GatE W B w v zs k) : ∃ a cap, v = .slice a zs.length cap ∧ zs.length ≤ cap := by
  obtain ⟨Us, ⟨q1, ⟨q2, q3⟩ | ⟨g, cap, cur, q2, q3, q4, q5, q6⟩⟩, h3⟩ := h
  · exact ⟨none, 0, by rw [q2, q3], by omega⟩
  · exact ⟨_, cap, q2, q5⟩
theorem GatE.own {W : World} {B k : Nat} {w : World} {v : Value} {zs : List Int} (h : GatE W B w v zs k) {g : Nat} (hg : v.ownBlock = some g) : B ≤ g ∧ g < w.heap.size := by
  obtain ⟨Us, ⟨q1, ⟨q2, _⟩ | ⟨g1, cap, cur, q2, q3, q4, q5⟩⟩, h3⟩ := h
  · rw [q2] at hg; cases hg
  · rw [q2] at hg
    simp only [Value.ownBlock, Option.some.injEq] at hg
    subst hg
    exact ⟨q3, (Array.getElem?_eq_some_iff.1 q4).1⟩
/-- As a list that may be read. -/
theorem GatE.zl {W : World} {B k : Nat} {w : World} {v : Value} {zs : List Int} (h : GatE W B w v zs k) (hl : zs.length ≤ 1048576) (hW : Below W.heap.size W w) : Zl w v zs k := by
  obtain ⟨Us, h1, h3⟩ := h
  have h1' := h1
  obtain ⟨q1, ⟨q2, q3⟩ | ⟨g, cap, cur, q2, q3, q4, q5, q6⟩⟩ := h1
  · exact ⟨none, 0, by rw [q2, q3], by omega, hl, .inl (List.eq_nil_of_length_eq_zero q3)⟩
  · refine ⟨_, cap, q2, q5, hl, .inr ⟨g, 0, rfl, (Array.getElem?_eq_some_iff.1 q4).1, fun j hj => ?_⟩⟩
    obtain ⟨x, y, e1, e2, e3⟩ := h3 j _ (List.getElem?_eq_getElem hj)
    have c0 := World.ownsRow.cells h1' (g := g) (by rw [q2]; rfl) _ _ e1
    have c1 := World.ownsRow.cells h1' (g := g) (by rw [q2]; rfl) _ _ e2
    rw [head_addE] at c0 c1
    exact ⟨x, y, by rw [Nat.zero_add]; exact c0, by rw [Nat.zero_add]; exact c1, e3.elim (fun q => q.now hW) (fun q => q.zi)⟩
theorem wpList_append_e (w : World) {ops : Array Oper} {rest : List Oper} {o : Oper} {a : Act} {Q : Exit → Act → World → Prop}
    (hgd : o.guard = none) (s x : Operand) (hop : o.op = .call { callee := .builtin .append, args := #[s, x], argTypes := #[22, 22] })
    (W : World) (B k : Nat) (v x0 x1 : Value) (zs : List Int) (z : Int) (hs : a.eval s = v) (hB : GatE W B w v zs k) (g : Nat) (hx : a.eval x = .slice (some ⟨g, 0, none⟩) 1 1) (hc0 : w.cell? ⟨g, 0, none⟩ = some x0) (hc1 : w.cell? ⟨g, 1, none⟩ = some x1) (hu : Zi W (.agg #[x0, x1]) z k ∨ Zm 0 w (.agg #[x0, x1]) z k) (hlen : zs.length ≤ 1048576) (hBs : B ≤ w.heap.size)
    (hK : ∀ a' cap' w', Hid (GatE W B w' (.slice a' (zs.length + 1) cap') (zs ++ [z]) k) → Hid (Ty 25 w w') → Hid (Below B w w') → Hid (∀ b, b < w.heap.size → v.ownBlock ≠ some b → w'.heap[b]? = w.heap[b]?) → Hid (∀ b, (Value.slice a' (zs.length + 1) cap').ownBlock = some b → v.ownBlock = some b ∨ b = w.heap.size) → wpList Try.prog ops Q rest (a.put o.dst (.slice a' (zs.length + 1) cap')) w') :
    wpList Try.prog ops Q (o :: rest) a w := by
  obtain ⟨i, hi, hz, hsz, hby⟩ := info_parts Try.infoZ9
  obtain ⟨Us, h1, h3⟩ := hB
  obtain ⟨nx, axx, lx, cx, e⟩ : ∃ n a l c, #[x0, x1] = #[Value.bool n, Value.slice a l c] := by
    rcases hu with ⟨n, xs, a, c, e, _⟩ | ⟨n, xs, a, c, e, _⟩ <;> exact ⟨n, a, xs.length, c, by simpa using e⟩
  obtain ⟨rfl, rfl⟩ : x0 = .bool nx ∧ x1 = .slice axx lx cx := by simpa using e
  clear e
  refine wpList_append_lies w hgd s x 22 hop B 25 i (.agg #[.bool false, .slice none 0 0]) 2 32 Try.underlying22 hi hz hsz hby rfl (by omega) v zs.length Us hs h1 ⟨g, 0, none⟩ 1 1 [.bool nx, .slice axx lx cx] hx rfl ?_ ?_ (by omega) (by unfold maxLen; omega) (by omega) hBs w.heap.size rfl ?_
  · intro j u' hj
    match j, hj with
    | 0, hj => simp at hj; subst hj; rw [head_addE]; exact hc0
    | 1, hj => simp at hj; subst hj; rw [head_addE]; exact hc1
  · intro u' hu'
    simp at hu'
    rcases hu' with rfl | rfl <;> rfl
  · intro g' cap' w' k1 k2 k3 k4
    have keep : Ty 25 w w' := Ty.grown h1 k2
    have hUl := h1.1
    refine hK _ _ w' ⟨Us ++ [.bool nx, .slice axx lx cx], by rw [List.length_append]; exact k1, fun j z' hz' => ?_⟩ keep ?_ (fun b hb hne => k2.block b hb (fun e => hne e.symm)) (fun b hb => ?_)
    · rcases Nat.lt_or_ge j zs.length with q | q
      · rw [List.getElem?_append_left q] at hz'
        obtain ⟨x, y, e1, e2, e3⟩ := h3 j z' hz'
        exact ⟨x, y, by rw [List.getElem?_append_left (by omega)]; exact e1, by rw [List.getElem?_append_left (by omega)]; exact e2, e3.imp id (fun q => q.ty keep (by decide))⟩
      · have hj : j = zs.length := by
          have := (List.getElem?_eq_some_iff.1 hz').1
          simp at this
          omega
        subst hj
        rw [List.getElem?_append_right (by omega)] at hz'
        simp only [Nat.sub_self, List.getElem?_cons_zero, Option.some.injEq] at hz'
        subst hz'
        refine ⟨_, _, ?_, ?_, hu.imp id (fun q => q.ty keep (by decide))⟩
        · rw [List.getElem?_append_right (by omega), show 2 * zs.length - Us.length = 0 by omega]; rfl
        · rw [List.getElem?_append_right (by omega), show 2 * zs.length + 1 - Us.length = 1 by omega]; rfl
    · refine ⟨k2.os, k2.tape, k2.output, k2.size, fun b hb => k2.block b (by omega) (fun e => ?_)⟩
      obtain ⟨_, ⟨q, _⟩ | ⟨g1, cap1, cur, q, q3, _⟩⟩ := h1
      · rw [q] at e; cases e
      · rw [q] at e
        simp only [Value.ownBlock, Option.some.injEq] at e
        omega
    · simp only [Value.ownBlock, Option.some.injEq] at hb
      subst hb
      exact k3
end Go.Proofs.Ytkikiddoiigbjaa

/- ROrder -/
namespace Go.Proofs.Ytkikiddoiigbjaa
open Go.RowKit

set_option maxHeartbeats 1600000 in
theorem rorder_any {B : Nat} {w : World} {v u : Value} {xs ys : List Int} (h : SlI B w v xs) (h' : SlI B w u ys) (hx : DCanon xs) (hy : DCanon ys) :
    Calls Try.prog 71 #[v, u] w fun e w' => e = .returned (.int .i64 (cmpI (dval xs) (dval ys))) ∧ ∃ n, w' = w.drewN n := by
  obtain ⟨hw, a, cap, rfl, hlc, hcm, hm⟩ := h
  obtain ⟨hw', a', cap', rfl, hlc', hcm', hm'⟩ := h'
  by_cases hne : xs.length = ys.length
  · have HE : Hid ((∀ j (h1 : j < xs.length) (h2 : j < ys.length), xs[j] = ys[j]) → cmpI (dval xs) (dval ys) = 0) := fun he => by
      rw [List.ext_getElem hne he, cmpI_self]
    have HH : Hid (∀ j (h1 : j < xs.length) (h2 : j < ys.length), (∀ i (h1 : i < xs.length) (h2 : i < ys.length), j < i → xs[i] = ys[i]) → xs[j] ≠ ys[j] → cmpI (dval xs) (dval ys) = cmpI xs[j] ys[j]) := fun j h1 h2 he hq => by
      refine dcmp_at hx.1 hy.1 hne h1 ?_ hq
      refine List.ext_getElem (by simp; omega) (fun i h3 h4 => ?_)
      simp only [List.getElem_drop]
      simp only [List.length_drop] at h3 h4
      exact he _ _ _ (by omega)
    generalize cmpI (dval xs) (dval ys) = C at *
    have HNE := hid hne
    obtain ⟨n, hn⟩ : ∃ n, n = ys.length := ⟨_, rfl⟩
    rw [← hn] at hne hlc'
    rw [hne, ← hn]
    rw [hne] at hlc
    have HN := hid hn
    have hnn : ((n : Int) != (n : Int)) = false := by simp
    clear hne hw hw' hn
    go_enter Try.func71, Try.ntmps71
    go_wp2_with fail
    go_loopw [5] (fun i wr => ∃ k : Nat, k ≤ n ∧ i = .int .i64 ((k : Int) - 1) ∧ (∃ q, wr = w.drewN q) ∧ ∀ j (h1 : j < xs.length) (h2 : j < ys.length), k ≤ j → xs[j] = ys[j]) (fun i _ => (intOf i + 1).toNat)
    case atStart => exact ⟨n, Nat.le_refl _, rfl, ⟨0, rfl⟩, fun j h1 h2 h => by have := HN.out; omega⟩
    case round =>
      obtain ⟨k, hk, rfl, hq, he⟩ := hrel
      have hcw : ∀ a, wr.cell? a = w.cell? a := by obtain ⟨q, rfl⟩ := hq; intro a; rfl
      have HQ := hid hq
      have HR := hid he
      clear hq he
      by_cases hk0 : k = 0
      · subst hk0
        clear hcw
        go_wp2_with fail
        go_ret
        refine ⟨?_, HQ.out⟩
        rw [HE.out (fun j h1 h2 => HR.out j h1 h2 (by omega))]
        rfl
      · obtain ⟨j, rfl⟩ : ∃ j, k = j + 1 := ⟨k - 1, by omega⟩
        have hj2 : j < ys.length := by have := HN.out; omega
        have hj1 : j < xs.length := by have := HNE.out; omega
        rcases hm with e | ⟨b, off, rfl, hb, hc⟩
        · subst e; simp at hj1
        rcases hm' with e | ⟨b', off', rfl, hb', hc'⟩
        · subst e; simp at hj2
        have c1 : wr.cell? ⟨b, off + j, none⟩ = some (.int .i64 xs[j]) := by rw [hcw]; exact hc j hj1
        have c2 : wr.cell? ⟨b', off' + j, none⟩ = some (.int .i64 ys[j]) := by rw [hcw]; exact hc' j hj2
        clear hcw hc hc'
        have HXY := hid (HH.out j hj1 hj2 (fun i h1 h2 h3 => HR.out i h1 h2 (by omega)))
        have HX : Hid (∀ i (h1 : i < xs.length) (h2 : i < ys.length), xs[j] = ys[j] → j ≤ i → xs[i] = ys[i]) := fun i h1 h2 he hi => by
          by_cases e : i = j
          · subst e; exact he
          · exact HR.out i h1 h2 (by omega)
        generalize xs[j] = x at *
        generalize ys[j] = y at *
        clear hk0 HR
        have i0 : (0 : Int) ≤ (j : Int) := by omega
        have i1 : (j : Int) < (n : Int) := by omega
        rcases Int.lt_trichotomy x y with q | q | q
        · go_wp2_with fail
          go_quiet (fail)
          go_wp2
          go_ret
          refine ⟨?_, by obtain ⟨q, hq⟩ := HQ.out; exact ⟨q + nq, by rw [hq, World.drewN_drewN]⟩⟩
          rw [HXY.out (by omega), cmpI_lt q]
          rfl
        · have q1 : ¬ x < y := by omega
          have q2 : ¬ y < x := by omega
          have Q := hid q
          clear q
          go_wp2_with fail
          go_quiet (fail)
          go_wp2_with fail
          go_quiet (fail)
          go_wp2
          go_roundw
          case rel => exact ⟨j, by omega, rfl, drew_ex HQ.out _, fun i h1 h2 h3 => HX.out i h1 h2 Q.out h3⟩
          case measure => simp [intOf]
        · have q1 : ¬ x < y := by omega
          go_wp2_with fail
          go_quiet (fail)
          go_wp2_with fail
          go_quiet (fail)
          go_wp2
          go_ret
          refine ⟨?_, drew_ex (drew_ex HQ.out _) _⟩
          rw [HXY.out (by omega), cmpI_gt q]
          rfl
  · have hnn : ((xs.length : Int) != (ys.length : Int)) = true := by rw [bne_iff_ne]; omega
    have HC : Hid (cmpI (dval xs) (dval ys) = cmpI (xs.length : Int) (ys.length : Int)) := by
      unfold Hid; rw [dcmp_widths hx.1 hy.1 (by rw [hx.2, hy.2]; exact hne), hx.2, hy.2]
    generalize cmpI (dval xs) (dval ys) = C at *
    by_cases hlt : (xs.length : Int) < (ys.length : Int)
    · rw [HC.out, cmpI_lt hlt]
      clear HC hx hy hm hm' hw hw'
      go_enter Try.func71, Try.ntmps71
      go_wp2
      go_ret
      exact ⟨rfl, 0, rfl⟩
    · rw [HC.out, cmpI_gt (by omega)]
      clear HC hx hy hm hm' hw hw'
      go_enter Try.func71, Try.ntmps71
      go_wp2
      go_ret
      exact ⟨rfl, 0, rfl⟩
end Go.Proofs.Ytkikiddoiigbjaa

/- RLeast -/
namespace Go.Proofs.Ytkikiddoiigbjaa
open Go.RowKit

theorem rleast_any {w : World} {v : Value} {xs : List Int} (h : Sl w.heap.size w v xs) (hlen : xs.length ≤ 8796093022208) :
    Calls Try.prog 64 #[v] w (Told w (val xs)) := by
  have HS := hid (split_any h hlen)
  clear h
  go_enter Try.func64, Try.ntmps64
  go_wp2_with fail
  refine HS.out.mono ?_
  rintro e w1 ⟨ds, r, rfl, hs, hc, hv, _, hb⟩
  have HV := hid hv
  clear hv HS
  go_wp2_with fail
  refine (join_any hs hc.1).mono ?_
  rintro e w2 ⟨zs, q, rfl, ho, hcz, hvz, hb2⟩
  have HVZ := hid hvz
  clear hvz
  go_wp2
  go_ret
  refine ⟨zs, q, rfl, ⟨ho.1, ?_⟩, hcz, by rw [HVZ.out, HV.out], below_step hb hb2⟩
  rcases ho.2 with h1 | ⟨g, r', h1, h2, h3, h4⟩
  · exact .inl h1
  · exact .inr ⟨g, r', Nat.le_trans hb.size h1, h2, h3, h4⟩

theorem rcmp_any {w : World} {v u : Value} {xs ys : List Int} (h : Sl w.heap.size w v xs) (h' : Sl w.heap.size w u ys) (hlen : xs.length ≤ 8796093022208) (hlen' : ys.length ≤ 8796093022208) :
    Calls Try.prog 46 #[v, u] w fun e w' => e = .returned (.int .i64 (cmpI (val xs) (val ys))) ∧ Below w.heap.size w w' := by
  go_enter Try.func46, Try.ntmps46
  go_wp2_with fail
  refine (split_any h hlen).mono ?_
  rintro e w1 ⟨ds, r, rfl, hs, hc, hv, _, hb⟩
  have h1 := h'.now hb
  have HV := hid hv
  clear hv h h'
  go_wp2_with fail
  refine (split_any h1 hlen').mono ?_
  rintro e w2 ⟨ds', r', rfl, hs', hc', hv', _, hb2⟩
  have h2 := hs.now hb2
  have HV' := hid hv'
  have hb12 := below_step hb hb2
  clear hv' h1 hs hb hb2
  go_wp2_with fail
  refine (rorder_any h2 hs' hc hc').mono ?_
  rintro e w3 ⟨rfl, n, rfl⟩
  rw [HV.out, HV'.out]
  go_wp2
  go_ret
  exact ⟨rfl, below_drewN hb12 n⟩
end Go.Proofs.Ytkikiddoiigbjaa

/- R5Made -/
namespace Go.Proofs.Ytkikiddoiigbjaa
open Go.RowKit
set_option linter.unusedVariables false

set_option maxHeartbeats 3200000 in
set_option maxRecDepth 100000 in
theorem rmade {w : World} {n : Bool} {xs : List Int} {a : Option Addr} {c : Nat} (h : Sl w.heap.size w (.slice a xs.length c) xs) (hl : xs.length ≤ 8796093022208) :
    Calls Try.prog 42 #[.bool n, .slice a xs.length c] w (GivesZ w (iv n xs) xs.length) := by
  obtain ⟨W0, hW0⟩ : ∃ W0, w.alloc zbox = W0 := ⟨_, rfl⟩
  obtain ⟨b0, sz0⟩ := alloc1 w zbox
  rw [hW0] at b0 sz0
  have r0 : Duo W0 w.heap.size (.bool false) (.slice none 0 0) := by rw [← hW0]; exact duo_at rfl
  have hx := hid h.1
  have HL := hid (rleast_any (h.now b0) hl)
  have R0 := hid r0
  have EW := hid hW0
  have G := hid b0
  clear h r0 hW0 b0 hl
  go_enter Try.func42, Try.ntmps42
  go_wp2_with fail
  rw [EW.out]
  refine HL.out.mono ?_
  rintro e w1 ⟨zs, r, rfl, ho, hc, hv, b1⟩
  obtain ⟨az, cz, rfl⟩ := ho.form
  have HM := hid ho.mine5
  have HC := hid hc
  have hk : Hid (zs.length ≤ xs.length) := canon_len hc (by rw [hv]; exact val_lt_pw hx.out)
  have HV := hid (iv_val n hv)
  replace R0 := hid (R0.out.step b1)
  replace G := hid (below_step G.out b1)
  have y0 := R0.out.c0
  have y1 := R0.out.c1
  have f0 := R0.out.fz 0
  have f1 := R0.out.fz 1
  clear ho hc hv b1 HL
  have fin : Hid (GivesZ w (iv n xs) xs.length (.returned (.agg #[.bool (n && decide (0 < zs.length)), .slice az zs.length cz])) ((w1.setCell ⟨w.heap.size, 0, none⟩ (.bool (n && decide (0 < zs.length)))).setCell ⟨w.heap.size, 1, none⟩ (.slice az zs.length cz))) := by
    unfold Hid
    rw [← HV.out]
    exact gz_end (B := W0.heap.size) (zm_of HM.out HC.out hk.out) G.out (by omega) (by omega)
  cases n
  · go_wp2
    exact bodyPost_ret (zback Try.results42 (R0.out.set _ _) _ (by rfl)) rfl fin.out
  · simp only [Bool.true_and] at fin
    go_wp2
    exact bodyPost_ret (zback Try.results42 (R0.out.set _ _) _ (by rfl)) rfl fin.out
end Go.Proofs.Ytkikiddoiigbjaa
