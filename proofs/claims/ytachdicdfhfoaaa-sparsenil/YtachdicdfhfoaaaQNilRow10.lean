/-
  NilRow10: SparseNil.
-/
import Derived.Test.YtachdicdfhfoaaaQNil10
import Derived.RangeFuncNested
import Derived.RangeFuncBound
import Derived.RangeFuncCalls
import Derived.RangeFuncLeaves
import Derived.RangeFuncBox
import Derived.Shelf.Abstract
import Derived.Shelf.RegionOpen
import Derived.WalkKit
import Derived.OwnWalkIn
import Derived.TacticsInMore
import Derived.LoopNIn
import Derived.LoopIn
namespace Go.Proofs.Ytachdicdfhfoaaa
open Go.RowKit Go.Shelf
set_option linter.unusedVariables false
attribute [local go_sem] Oper.semAt_some

abbrev aEnc (x : Fin 0) : Array Value := #[.int .i64 0, .agg #[.int .i64 0, .int .i64 0, .bool false, .slice none 0 0]]
set_option maxRecDepth 100000 in
set_option maxHeartbeats 2000000 in
theorem all1_none (l Bs n : Nat) (hn : 1 ≤ n) (J : List (Fin 0) → World → Prop) (W : World) (hBs : W.cell? ⟨Bs, 0, none⟩ = some (.slice none 0 0)) (h0 : J [] W) :
    CallsIn Fence.wide n Try.prog 56 #[.func (.yield l) #[] #[], .pointer (some ⟨Bs, 0, none⟩)] W fun e W' => (∃ v, e = .returned v) ∧ J [] W' := by
  refine callsIn_of_wp Try.func56 rfl trivial ?_ rfl
  simp only [Try.ntmps56, List.size_toArray, List.length_cons, List.length_nil, Nat.reduceAdd, Nat.reduceSub, Array.replicate_succ, Array.replicate_zero, List.push_toArray, List.append_toArray, List.nil_append, List.cons_append]
  gi_wp2
  gi_loopw [7] (fun i wr => i = .int .i64 0 ∧ wr = W) (fun i _ => 0)
  case atStart => exact ⟨rfl, rfl⟩
  case round =>
    obtain ⟨rfl, rfl⟩ := hrel
    gi_wp2
    go_end0
    exact ⟨⟨_, rfl⟩, h0⟩
set_option maxHeartbeats 1000000 in
theorem all_nil (w : World) :
    CallsIn Fence.wide 4 Try.prog 25 #[.pointer none] w fun e w' => e = .returned (.func (.func 56) #[] #[.pointer (some ⟨w.heap.size, 0, none⟩)]) ∧ w' = w.alloc (.cells #[.slice none 0 0] 59) := by
  refine callsIn_of_wp Try.func25 rfl trivial ?_ rfl
  simp only [Try.ntmps25, List.size_toArray, List.length_cons, List.length_nil, Nat.reduceAdd, Nat.reduceSub, Array.replicate_succ, Array.replicate_zero, List.push_toArray, List.append_toArray, List.nil_append, List.cons_append]
  gi_wp2_with fail
  refine ⟨trivial, (callsIn_wide.2 places_nil).mono ?_⟩
  rintro e w' ⟨rfl, rfl⟩
  gi_wp2
  go_ret
  exact ⟨rfl, rfl⟩
theorem all_stops (n Bs : Nat) (hn : 1 ≤ n) (w : World) (hBl : Bs < w.heap.size) (hBs : w.cell? ⟨Bs, 0, none⟩ = some (.slice none 0 0)) (N : Nat) :
    SeqStopsK Fence.wide n Try.prog 56 #[.pointer (some ⟨Bs, 0, none⟩)] aEnc (fun W W' => Below N W W') (fun ys => ys = []) (fun pre => True) 0 w := fun l J Jx W hW _ _ hY h0 => by
  have k1 := (hW.cell (p := ⟨Bs, 0, none⟩) hBl).trans hBs
  refine (all1_none l Bs n hn J W k1 h0).mono ?_
  rintro e W' ⟨he, hj⟩
  exact ⟨he, .inl ⟨_, rfl, hj⟩⟩

theorem equalIn_func10 {P : Program} (w : World) (d : Nat) (t : TypeId) {p q : Array TypeId} {v : Bool} (h : P.underlying t = some (.func p q v)) (f : Fn) (x y : Array Value) : (Op.equalIn (d + 1) t (.func f x y) .nilFunc).run P w = .ok false w := by
  simp [Op.equalIn, run_underlying h]
theorem func_nil10 (w : World) (f : Fn) (x y : Array Value) : (binOp .eql 54 (.func f x y) .nilFunc).run Try.prog w = .ok (.bool false) w := by
  have h := equalIn_func10 (P := Try.prog) w 9999 54 Try.underlying54 f x y
  simp only [binOp]
  rw [show Op.equal 54 (.func f x y) .nilFunc = Op.equalIn (9999 + 1) 54 (.func f x y) .nilFunc from rfl]
  simp only [Sem.run_bind, h, Result.andThen]
  rfl
/-- What stays while the loop over nothing goes. -/
def NlI (w : World) (nb : Nat) (pre : List (Fin 0)) (W : World) : Prop := Cel W nb 3 [.int .i64 0] ∧ Below w.heap.size w W
theorem NlI.own {w : World} {nb B : Nat} (hB : w.heap.size ≤ B) : OwnFrom B (fun (pre : List (Fin 0)) W => NlI w nb pre W) := fun pre W W' row hs hg hr => by
  have hr' : ∀ r, row = some r → ∃ o : Obj, W.heap[r]? = some o ∧ o.isCells = false := fun r e => (hr r e).2
  exact ⟨(grownBy_keeps_cells hg hr' hs.1 rfl).trans hs.1, hs.2.grown hg hs.2.size (fun k e => Nat.le_trans hB (hr k e).1)⟩
set_option maxRecDepth 100000 in
set_option maxHeartbeats 6400000 in
theorem sparseNil_any (w : World) : CallsIn Fence.wide 5 Try.prog 5 #[] w (Says w (.bool true)) := by
  refine callsIn_of_wp_marks Try.func5 rfl trivial ?_ rfl
  simp only [Try.ntmps5, List.size_toArray, List.length_nil, Nat.reduceSub, Array.replicate_succ, Array.replicate_zero, List.push_toArray, List.append_toArray, List.nil_append, List.cons_append]
  gi_wp2_with fail
  refine ⟨trivial, (callsIn_wide.2 (awake10 w)).mono ?_⟩
  rintro e w1 ⟨rfl, b1⟩
  have G := hid b1
  clear b1
  gi_wp2_with fail
  refine ⟨trivial, (callsIn_wide.2 (new_small (w := w1) (r := 0) (c := 0) (by decide) (by decide))).mono ?_⟩
  rintro e w2 ⟨g, b, rfl, -, -, -, -, b2⟩
  replace G := hid (below_step G.out b2)
  clear b2
  gi_wp2_with fail
  refine ⟨trivial, (callsIn_wide.2 (shape_nil (w := w2))).mono ?_⟩
  rintro e w3 ⟨rfl, hw⟩
  have hw' := hw.symm
  subst hw'
  clear hw
  gi_wp2_with fail
  obtain ⟨V4, hV⟩ : ∃ V4, w2.alloc (.cells #[.int .i64 0] 3) = V4 := ⟨_, rfl⟩
  have PN : Cel V4 w2.heap.size 3 [.int .i64 0] := by rw [← hV]; exact Cel.new w2 3 [.int .i64 0]
  obtain ⟨b4, sz4⟩ := alo1 w2 (.cells #[.int .i64 0] 3)
  rw [hV] at b4 sz4
  rw [hV]
  replace G := hid (below_step G.out b4)
  have HS4 := hid sz4
  clear hV b4 sz4
  refine ⟨trivial, (all_nil V4).mono ?_⟩
  rintro e w5 ⟨rfl, rfl⟩
  obtain ⟨V5, hV⟩ : ∃ V5, V4.alloc (.cells #[.slice none 0 0] 59) = V5 := ⟨_, rfl⟩
  have PL : Cel V5 V4.heap.size 59 [.slice none 0 0] := by rw [← hV]; exact Cel.new V4 59 [.slice none 0 0]
  obtain ⟨b5, sz5⟩ := alo1 V4 (.cells #[.slice none 0 0] 59)
  rw [hV] at b5 sz5
  rw [hV]
  replace G := hid (below_step G.out b5)
  replace PN := PN.step b5
  have HS5 := hid sz5
  have hfn := func_nil10 V5
  have PNN := hid PN
  have PLL := hid PL
  clear hV b5 PN PL sz5
  gi_wp2_with fail
  refine wpIn_rangeFunc_ownH rfl (by decide) (gf := 56) (lb := #[.pointer (some ⟨V4.heap.size, 0, none⟩)]) rfl trivial (enters_of Try.func56 (by kernel_rfl) rfl)
    (all_stops 4 V4.heap.size (by decide) V5 (by have := HS5.out; omega) (PLL.out.at rfl) w.heap.size)
    (fun h k => h.trans k) (fun W l o o' hl h1 h2 h3 => belowK_b (w := V5) G.out.size W l o o' hl h1 h2 h3) (Below.refl _ _) (fun _ => rfl)
    (fun pre W => NlI w w2.heap.size pre W) (fun _ _ _ => False) (NlI.own G.out.size) (fun _ _ _ _ _ hs _ _ => hs)
    ⟨PNN.out, G.out⟩
    (fun x a' W => False)
    (fun x a' _ X Y row hs hg hr => hs)
    ?assign ?body ?done ?stop
  case assign =>
    rintro l pre x W K hi hK
    exact x.elim0
  case body =>
    rintro l pre x a' W hl ⟨r, hr⟩ hi hf hlt
    exact hf.elim
  case done =>
    rintro D ts W hD rfl ⟨pn, bel⟩ hK
    have G5 := hid G.out
    have HDD := hid hD
    clear hD
    have PN := hid pn
    replace G := hid bel
    have HKD := hid hK
    clear pn bel hK hfn PNN PLL
    gi_wp2_with fail
    refine ⟨trivial, (callsIn_wide.2 (get_nil (w := W) (i := 0) (j := 0))).mono ?_⟩
    rintro e w6 ⟨rfl, b1⟩
    replace PN := hid (PN.out.step b1)
    replace HKD := hid ((b1.block D (Array.getElem?_eq_some_iff.1 HKD.out).1).trans HKD.out)
    replace G := hid (below_step G.out b1)
    clear b1
    obtain ⟨V6, hV⟩ : ∃ V6, w6.alloc (duo (.bool false) (.slice none 0 0)) = V6 := ⟨_, rfl⟩
    obtain ⟨b1, sz1⟩ := alo1 w6 (duo (.bool false) (.slice none 0 0))
    rw [hV] at b1 sz1
    clear sz1
    replace PN := hid (PN.out.step b1)
    replace HKD := hid ((b1.block D (Array.getElem?_eq_some_iff.1 HKD.out).1).trans HKD.out)
    replace G := hid (below_step G.out b1)
    have PG := hid (show Duo V6 w6.heap.size (.bool false) (.slice none 0 0) from by rw [← hV]; exact heap_alloc_new w6 _)
    have EV := hid hV
    clear hV b1
    gi_wp2_with fail
    rw [EV.out]
    clear EV
    refine ⟨trivial, (callsIn_wide.2 (dense_nil (w := V6))).mono ?_⟩
    rintro e w7 ⟨rfl, b1⟩
    replace PN := hid (PN.out.step b1)
    replace HKD := hid ((b1.block D (Array.getElem?_eq_some_iff.1 HKD.out).1).trans HKD.out)
    replace PG := hid (PG.out.step b1)
    replace G := hid (below_step G.out b1)
    clear b1
    obtain ⟨V7, hV⟩ : ∃ V7, w7.alloc (.cells #[.int .i64 0, .int .i64 0, .slice none 0 0] 24) = V7 := ⟨_, rfl⟩
    obtain ⟨b1, sz1⟩ := alo1 w7 (.cells #[.int .i64 0, .int .i64 0, .slice none 0 0] 24)
    rw [hV] at b1 sz1
    clear sz1
    replace PN := hid (PN.out.step b1)
    replace HKD := hid ((b1.block D (Array.getElem?_eq_some_iff.1 HKD.out).1).trans HKD.out)
    replace PG := hid (PG.out.step b1)
    replace G := hid (below_step G.out b1)
    have PM := hid (show Cel V7 w7.heap.size 24 [.int .i64 0, .int .i64 0, .slice none 0 0] from by rw [← hV]; exact Cel.new w7 24 [.int .i64 0, .int .i64 0, .slice none 0 0])
    have EV := hid hV
    clear hV b1
    gi_wp2_with fail
    rw [EV.out]
    clear EV
    refine ⟨trivial, (callsIn_wide.2 (mul_nil1 (w := V7))).mono ?_⟩
    rintro e w8 ⟨rfl, hw⟩
    have hw2 := hw.symm
    subst hw2
    clear hw
    gi_wp2_with fail
    refine ⟨trivial, (callsIn_wide.2 (mul_nil2 (w := V7))).mono ?_⟩
    rintro e w8 ⟨rfl, hw⟩
    have hw2 := hw.symm
    subst hw2
    clear hw
    gi_wp2_with fail
    refine ⟨trivial, (callsIn_wide.2 (add_nil1 (w := V7))).mono ?_⟩
    rintro e w8 ⟨rfl, hw⟩
    have hw2 := hw.symm
    subst hw2
    clear hw
    gi_wp2_with fail
    refine ⟨trivial, (callsIn_wide.2 (add_nil2 (w := V7))).mono ?_⟩
    rintro e w8 ⟨rfl, hw⟩
    have hw2 := hw.symm
    subst hw2
    clear hw
    gi_wp2_with fail
    refine ⟨trivial, (callsIn_wide.2 (of_z (n := 1) (by decide) (by decide) V7)).mono ?_⟩
    rintro e w9 ⟨r1, rfl, m1, b1⟩
    replace PN := hid (PN.out.step b1)
    replace HKD := hid ((b1.block D (Array.getElem?_eq_some_iff.1 HKD.out).1).trans HKD.out)
    replace PG := hid (PG.out.step b1)
    replace PM := hid (PM.out.step b1)
    replace G := hid (below_step G.out b1)
    clear b1
    obtain ⟨no, xo, ao, co, rfl, -⟩ := m1
    obtain ⟨V9, hV⟩ : ∃ V9, w9.alloc (duo (.bool no) (.slice ao xo.length co)) = V9 := ⟨_, rfl⟩
    obtain ⟨b1, sz1⟩ := alo1 w9 (duo (.bool no) (.slice ao xo.length co))
    rw [hV] at b1 sz1
    clear sz1
    replace PN := hid (PN.out.step b1)
    replace HKD := hid ((b1.block D (Array.getElem?_eq_some_iff.1 HKD.out).1).trans HKD.out)
    replace PG := hid (PG.out.step b1)
    replace PM := hid (PM.out.step b1)
    replace G := hid (below_step G.out b1)
    have PO := hid (show Duo V9 w9.heap.size (.bool no) (.slice ao xo.length co) from by rw [← hV]; exact heap_alloc_new w9 _)
    have EV := hid hV
    clear hV b1
    generalize xo.length = lo at *
    have u0 := PO.out.c0
    have u1 := PO.out.c1
    gi_wp2_with fail
    rw [EV.out]
    clear EV
    refine ⟨trivial, (callsIn_wide.2 (set_nil (w := V9))).mono ?_⟩
    rintro e w10 ⟨rfl, b1⟩
    replace PN := hid (PN.out.step b1)
    replace HKD := hid ((b1.block D (Array.getElem?_eq_some_iff.1 HKD.out).1).trans HKD.out)
    replace PG := hid (PG.out.step b1)
    replace PM := hid (PM.out.step b1)
    replace PO := hid (PO.out.step b1)
    replace G := hid (below_step G.out b1)
    clear b1 u0 u1
    have u0 := PO.out.c0
    have u1 := PO.out.c1
    gi_wp2_with fail
    refine ⟨trivial, (callsIn_wide.2 (addRow_nil (w := w10))).mono ?_⟩
    rintro e w11 ⟨rfl, b1⟩
    replace PN := hid (PN.out.step b1)
    replace HKD := hid ((b1.block D (Array.getElem?_eq_some_iff.1 HKD.out).1).trans HKD.out)
    replace PG := hid (PG.out.step b1)
    replace PM := hid (PM.out.step b1)
    replace PO := hid (PO.out.step b1)
    replace G := hid (below_step G.out b1)
    clear b1
    clear u0 u1
    gi_wp2_with fail
    refine ⟨trivial, (callsIn_wide.2 (swap_nil (w := w11))).mono ?_⟩
    rintro e w12 ⟨rfl, hw⟩
    have hw2 := hw.symm
    subst hw2
    clear hw
    gi_wp2_with fail
    refine ⟨trivial, (callsIn_wide.2 (clear_nil (w := w11))).mono ?_⟩
    rintro e w12 ⟨rfl, hw⟩
    have hw2 := hw.symm
    subst hw2
    clear hw
    gi_wp2_with fail
    refine ⟨trivial, (callsIn_wide.2 (turn_nil (w := w11))).mono ?_⟩
    rintro e w12 ⟨rfl, hw⟩
    have hw2 := hw.symm
    subst hw2
    clear hw
    gi_wp2_with fail
    refine ⟨trivial, (callsIn_wide.2 (copy_nil (w := w11))).mono ?_⟩
    rintro e w12 ⟨rfl, hw⟩
    have hw2 := hw.symm
    subst hw2
    clear hw
    gi_wp2_with fail
    refine ⟨trivial, (callsIn_wide.2 (places_nil (w := w11))).mono ?_⟩
    rintro e w12 ⟨rfl, hw⟩
    have hw2 := hw.symm
    subst hw2
    clear hw
    have v2 := PM.out.at (i := 2) rfl
    gi_wp2_with fail
    refine ⟨trivial, (callsIn_wide.2 (len_nil10 (w := w11))).mono ?_⟩
    rintro e w12 ⟨rfl, hw⟩
    have hw2 := hw.symm
    subst hw2
    clear hw
    have p0 := PN.out.at (i := 0) rfl
    have FIN : Hid (Says w (.bool true) (.returned (.bool true)) (w11.putObj D (.deferred Option.none))) :=
      ⟨rfl, G.out.trans (belowK_b (w := w) (Nat.le_refl _) _ D _ (.deferred Option.none) (Nat.le_trans G5.out.size HDD.out) HKD.out rfl rfl)⟩
    clear G PG PM PO PN
    gi_wp2
    refine ⟨by simp, .inl ⟨_, _, rfl, run_takeDeferred HKD.out, ?_⟩⟩
    refine ⟨_, results_tmp rfl _ _ _, ?_⟩
    exact FIN.out
  case stop =>
    rintro D c pre W _ _ h _
    exact h.elim
end Go.Proofs.Ytachdicdfhfoaaa
