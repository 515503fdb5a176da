/-
  QPut10ToTailA: Put10, Has10, Get10, TailA, joined.
-/
import Derived.Test.YtachdicdfhfoaaaQKey10ToGrid10
import Derived.Test.YtachdicdfhfoaaaQZAdd
import Derived.Test.YtachdicdfhfoaaaQZOnesToZCmp
import Derived.Test.YtachdicdfhfoaaaQCells6ToLst9
import Derived.Test.YtachdicdfhfoaaaQFil9ToDot9

/- Put10 -/
namespace Go.Proofs.Ytachdicdfhfoaaa
open Go.RowKit Go.ChangeMaps Go.MapKept
set_option linter.unusedVariables false

theorem grd_new {w W : World} {r c : Nat} (hW : (w.alloc (.map #[] 0)).alloc (.cells #[.int .i64 (r : Int), .int .i64 (c : Int), .map (some w.heap.size)] 68) = W) (hr : r ≤ 1048576) (hc : c ≤ 1048576) :
    Gd W (w.heap.size + 1) w.heap.size r c ∧ Mp spv spok W w.heap.size (fun _ => Option.none) 0 ∧ Below w.heap.size w W ∧ W.heap.size = w.heap.size + 2 := by
  subst hW
  have h1 := Mp.made spv spok w
  refine ⟨⟨?_, hr, hc⟩, h1.now ((Below.refl _ _).alloc (Nat.le_refl _) _), ((Below.refl _ _).alloc (Nat.le_refl _) _).alloc (by simp) _, by simp⟩
  have := Cel.new (w.alloc (.map #[] 0)) 68 [.int .i64 (r : Int), .int .i64 (c : Int), .map (some w.heap.size)]
  simpa using this
def Emptied (w : World) (r c : Nat) (e : Ending) (w' : World) : Prop := ∃ g b, e = .returned (.pointer (some ⟨g, 0, none⟩)) ∧ Gd w' g b r c ∧ Mp spv spok w' b (fun _ => Option.none) 0 ∧ w.heap.size ≤ g ∧ w.heap.size ≤ b ∧ Below w.heap.size w w'
set_option maxHeartbeats 800000 in
theorem empty_any {w : World} {r c : Nat} (hr : r ≤ 1048576) (hc : c ≤ 1048576) : Calls Try.prog 32 #[.int .i64 (r : Int), .int .i64 (c : Int)] w (Emptied w r c) := by
  obtain ⟨W, hW⟩ : ∃ W, (w.alloc (.map #[] 0)).alloc (.cells #[.int .i64 (r : Int), .int .i64 (c : Int), .map (some w.heap.size)] 68) = W := ⟨_, rfl⟩
  obtain ⟨h1, h2, h3, h4⟩ := grd_new hW hr hc
  have EW := hid hW
  have FIN : Hid (Emptied w r c (.returned (.pointer (some ⟨w.heap.size + 1, 0, none⟩))) W) := ⟨_, _, rfl, h1, h2, by omega, by omega, h3⟩
  clear h1 h2 h3 h4 hW hr hc
  have hmk := fun w => run_makeMap (P := Try.prog) 66 w
  go_enter Try.func32, Try.ntmps32
  go_wp2
  rw [EW.out]
  go_ret
  exact FIN.out
/-- How many places there are behind a put. -/
def putN (o : Option Value) (z : Int) (n : Nat) : Nat := if z = 0 then (if o.isSome then n - 1 else n) else (if o.isSome then n else n + 1)
def Puted (w : World) (b n : Nat) (f : Nat × Nat → Option Value) (s : Nat × Nat) (v : Value) (z : Int) (e : Ending) (w' : World) : Prop := e = .returned (.tuple #[]) ∧ Mp spv spok w' b (upd f s (if z = 0 then Option.none else some v)) (putN (f s) z n) ∧ w.grownBy w' (some b)
theorem grown_low {W w w' : World} {b : Nat} (h : Below w.heap.size w W) (hg : W.grownBy w' (some b)) : w.grownBy w' (some b) :=
  ⟨hg.os.trans h.os, hg.tape.trans h.tape, hg.output.trans h.output, Nat.le_trans h.size hg.size, fun i hi hne => (hg.block i (Nat.lt_of_lt_of_le hi h.size) hne).trans (h.block i hi)⟩
set_option maxHeartbeats 1600000 in
theorem put_any {w : World} {b n k : Nat} {f : Nat × Nat → Option Value} {s : Nat × Nat} {v : Value} {z : Int} (h : Mp spv spok w b f n) (hn : n < maxLen) (hs : spok s) (hz : Zi w v z k) :
    Calls Try.prog 33 #[.map (some b), spv s, v] w (Puted w b n f s v z) := by
  obtain ⟨m, xs, a, c, rfl, -⟩ := id hz
  obtain ⟨i, j⟩ := s
  obtain ⟨W0, hW⟩ : ∃ W0, (w.alloc (.cells #[.int .i64 (i : Int), .int .i64 (j : Int)] 71)).alloc (duo (.bool m) (.slice a xs.length c)) = W0 := ⟨_, rfl⟩
  obtain ⟨b0, sz0⟩ := alloc2 w (.cells #[.int .i64 (i : Int), .int .i64 (j : Int)] 71) (duo (.bool m) (.slice a xs.length c))
  rw [hW] at b0 sz0
  have P1 : Cel W0 w.heap.size 71 [.int .i64 (i : Int), .int .i64 (j : Int)] := by
    rw [← hW]
    exact (Cel.new w 71 [.int .i64 (i : Int), .int .i64 (j : Int)]).step ((Below.refl _ _).alloc (Nat.le_refl _) _)
  have P2 : Duo W0 (w.heap.size + 1) (.bool m) (.slice a xs.length c) := by
    rw [← hW]
    have := heap_alloc_new (w.alloc (.cells #[.int .i64 (i : Int), .int .i64 (j : Int)] 71)) (duo (.bool m) (.slice a xs.length c))
    simpa [Duo] using this
  have HS := hid (sign_z (hz.now b0))
  have HM := hid (h.now b0)
  have EW := hid hW
  have G0 := hid b0
  have x0 := P2.c0
  have x1 := P2.c1
  have Q1 := hid P1
  have Q2 := hid P2
  have HN := hid hn
  have HO := hid hs
  clear hz h b0 hW P1 P2 sz0 hn hs
  show Calls Try.prog 33 #[.map (some b), .agg #[.int .i64 (i : Int), .int .i64 (j : Int)], .agg #[.bool m, .slice a xs.length c]] w _
  go_enter Try.func33, Try.ntmps33
  go_wp2_with fail
  rw [EW.out]
  refine HS.out.mono ?_
  rintro e w1 ⟨rfl, b1⟩
  have y0 := (Q1.out.step b1).at (i := 0) rfl
  have y1 := (Q1.out.step b1).at (i := 1) rfl
  have HM1 := hid (HM.out.now b1)
  have G1 := hid (below_step G0.out b1)
  clear HS HM EW
  by_cases hz0 : z = 0
  · subst hz0
    have FIN : Hid (∀ w2, Mp spv spok w2 b (upd f (i, j) Option.none) (if (f (i, j)).isSome then n - 1 else n) → w1.grownBy w2 (some b) → Puted w b n f (i, j) (.agg #[.bool m, .slice a xs.length c]) 0 (.returned (.tuple #[])) w2) :=
      fun w2 h2 h3 => ⟨rfl, by simpa [putN] using h2, grown_low G1.out h3⟩
    clear G0 G1 Q1 Q2 x0 x1 b1
    go_wp2_with (first | (at_delete; refine wpList_drop10 _ rfl _ _ _ _ rfl _ ks10 Try.map10 b n f rfl HM1.out (i, j) rfl HO.out ?_; intro w2 q1 q2 q3) | go_in)
    first
      | (refine bodyPost_ret (results_none rfl _ _ _) rfl ?_)
      | ((try simp only [Exit.inBlock, Exit.then]); refine bodyPost_end (results_none rfl _ _ _) rfl ?_)
    exact FIN.out w2 q1 q2
  · have ht : (cmpI z 0 == 0) = false := by
      unfold cmpI
      split <;> rename_i h <;> simp <;> omega
    generalize cmpI z 0 = S at *
    have FIN : Hid (∀ w2, Mp spv spok w2 b (upd f (i, j) (some (.agg #[.bool m, .slice a xs.length c]))) (if (f (i, j)).isSome then n else n + 1) → w1.grownBy w2 (some b) → Puted w b n f (i, j) (.agg #[.bool m, .slice a xs.length c]) z (.returned (.tuple #[])) w2) :=
      fun w2 h2 h3 => ⟨rfl, by simpa [putN, hz0] using h2, grown_low G1.out h3⟩
    have x2 := (Q2.out.step b1).c0
    have x3 := (Q2.out.step b1).c1
    clear G0 G1 Q1 Q2 x0 x1 b1
    go_wp2_with (first | (at_mapUpdate; refine wpList_store10 _ rfl _ _ _ _ rfl _ _ ks10 Try.map10 b n f rfl HM1.out HN.out (i, j) _ rfl rfl HO.out ?_; intro w2 q1 q2 q3) | go_in)
    first
      | (refine bodyPost_ret (results_none rfl _ _ _) rfl ?_)
      | ((try simp only [Exit.inBlock, Exit.then]); refine bodyPost_end (results_none rfl _ _ _) rfl ?_)
    exact FIN.out w2 q1 q2
end Go.Proofs.Ytachdicdfhfoaaa

/- Has10 -/
namespace Go.Proofs.Ytachdicdfhfoaaa
open Go.RowKit Go.ChangeMaps Go.MapKept
set_option linter.unusedVariables false

/-- The call answers this and leaves the world as it was. -/
def Still (w : World) (r : Value) (e : Ending) (w' : World) : Prop := e = .returned r ∧ w' = w
/-- .. or makes new memory alone. -/
def Says (w : World) (r : Value) (e : Ending) (w' : World) : Prop := e = .returned r ∧ Below w.heap.size w w'
theorem hasRow_yes {w : World} {g b r c i : Nat} (h : Gd w g b r c) (hi : i < r) : Calls Try.prog 40 #[.pointer (some ⟨g, 0, none⟩), .int .i64 (i : Int)] w (Still w (.bool true)) := by
  have x0 := h.1.at (i := 0) rfl
  have h1 : (0 : Int) ≤ (i : Int) := by omega
  have h2 : (i : Int) < (r : Int) := by omega
  clear h hi
  go_enter Try.func40, Try.ntmps40
  go_wp2
  go_ret
  exact ⟨rfl, rfl⟩
theorem hasRow_nil {w : World} {i : Int} : Calls Try.prog 40 #[.pointer none, .int .i64 i] w (Still w (.bool false)) := by
  go_enter Try.func40, Try.ntmps40
  go_wp2
  go_ret
  exact ⟨rfl, rfl⟩
theorem hasPlace_yes {w : World} {g b r c i j : Nat} (h : Gd w g b r c) (hi : i < r) (hj : j < c) : Calls Try.prog 38 #[.pointer (some ⟨g, 0, none⟩), .int .i64 (i : Int), .int .i64 (j : Int)] w (Still w (.bool true)) := by
  have x0 := h.1.at (i := 1) rfl
  have HR := hid (hasRow_yes h hi)
  have h1 : (0 : Int) ≤ (j : Int) := by omega
  have h2 : (j : Int) < (c : Int) := by omega
  clear h hi hj
  go_enter Try.func38, Try.ntmps38
  go_wp2_with fail
  refine HR.out.mono ?_
  rintro e w' ⟨rfl, rfl⟩
  go_wp2
  go_ret
  exact ⟨rfl, rfl⟩
theorem hasPlace_nil {w : World} {i j : Int} : Calls Try.prog 38 #[.pointer none, .int .i64 i, .int .i64 j] w (Still w (.bool false)) := by
  have HR := hid (hasRow_nil (w := w) (i := i))
  go_enter Try.func38, Try.ntmps38
  go_wp2_with fail
  refine HR.out.mono ?_
  rintro e w' ⟨rfl, rfl⟩
  go_wp2
  go_ret
  exact ⟨rfl, rfl⟩
def Newed (w : World) (r c : Nat) (e : Ending) (w' : World) : Prop := ∃ g b, e = .returned (.tuple #[.pointer (some ⟨g, 0, none⟩), .int .i64 0]) ∧ Gd w' g b r c ∧ Mp spv spok w' b (fun _ => Option.none) 0 ∧ w.heap.size ≤ g ∧ w.heap.size ≤ b ∧ Below w.heap.size w w'
theorem new_small {w : World} {r c : Nat} (hr : r ≤ 3) (hc : c ≤ 3) : Calls Try.prog 23 #[.int .i64 (r : Int), .int .i64 (c : Int)] w (Newed w r c) := by
  have HE := hid (empty_any (w := w) (r := r) (c := c) (by omega) (by omega))
  have h1 : ¬ min (r : Int) (c : Int) < 0 := by omega
  have h2 : ¬ 1048576 < max (r : Int) (c : Int) := by omega
  clear hr hc
  go_enter Try.func23, Try.ntmps23
  go_wp2_with fail
  refine HE.out.mono ?_
  rintro e w' ⟨g, b, rfl, q⟩
  have HQ := hid q
  clear q
  go_wp2
  go_ret2
  exact ⟨g, b, rfl, HQ.out⟩
theorem len_any {w : World} {g b r c n : Nat} {f : Nat × Nat → Option Value} (h : Gd w g b r c) (hm : Mp spv spok w b f n) : Calls Try.prog 30 #[.pointer (some ⟨g, 0, none⟩)] w (Still w (.int .i64 (n : Int))) := by
  have x0 := h.1.at (i := 2) rfl
  have hl := fun ty => hm.len Try.map10 ty
  clear h hm
  go_enter Try.func30, Try.ntmps30
  go_wp2
  go_ret
  exact ⟨rfl, rfl⟩
theorem len_nil10 {w : World} : Calls Try.prog 30 #[.pointer none] w (Still w (.int .i64 0)) := by
  go_enter Try.func30, Try.ntmps30
  go_wp2
  go_ret
  exact ⟨rfl, rfl⟩
/-- What stands at a place. -/
theorem Nm.getD {w : World} {f : Nat × Nat → Option Value} {F : Nat → Nat → Int} {k : Nat} (h : Nm w f F k) (i j : Nat) : Zm 0 w ((f (i, j)).getD (.agg #[.bool false, .slice none 0 0])) (F i j) k := by
  rcases h i j with ⟨h1, h2⟩ | ⟨v, h1, h2, h3⟩
  · rw [h1, h2]
    exact ⟨false, [], none, 0, rfl, ⟨WF.nil, .inl ⟨rfl, rfl⟩⟩, canon_nil, fun _ => rfl, iv_nil _, Nat.zero_le _⟩
  · rw [h1]
    exact h3
def Getd (w : World) (z : Int) (k : Nat) (e : Ending) (w' : World) : Prop := ∃ r, e = .returned (.tuple #[r, .int .i64 0]) ∧ Zm w.heap.size w' r z k ∧ Below w.heap.size w w'
end Go.Proofs.Ytachdicdfhfoaaa

/- Get10 -/
namespace Go.Proofs.Ytachdicdfhfoaaa
open Go.RowKit Go.ChangeMaps Go.MapKept
set_option linter.unusedVariables false

set_option maxHeartbeats 1600000 in
theorem get_any {w : World} {g b r c n i j k : Nat} {f : Nat × Nat → Option Value} {F : Nat → Nat → Int} (h : Gd w g b r c) (hm : Mp spv spok w b f n) (hf : Nm w f F k) (hi : i < r) (hj : j < c) :
    Calls Try.prog 26 #[.pointer (some ⟨g, 0, none⟩), .int .i64 (i : Int), .int .i64 (j : Int)] w (Getd w (F i j) k) := by
  obtain ⟨W0, hW⟩ : ∃ W0, w.alloc zbox = W0 := ⟨_, rfl⟩
  obtain ⟨b0, sz0⟩ := alo1 w zbox
  rw [hW] at b0 sz0
  have PB : Duo W0 w.heap.size (.bool false) (.slice none 0 0) := by rw [← hW]; exact heap_alloc_new w zbox
  have ok : spok (i, j) := ⟨Nat.lt_of_lt_of_le hi h.2.1, Nat.lt_of_lt_of_le hj h.2.2⟩
  have HP := hid (hasPlace_yes (h.now b0) hi hj)
  have x2 := (h.now b0).1.at (i := 2) rfl
  have hl := (hm.now b0).look ks10 Try.map10 (zero10 _) ok false
  simp only [Bool.false_eq_true, if_false, spv] at hl
  have HL := hid (least_z ((hf.now b0).getD i j).zi)
  have EW := hid hW
  have G0 := hid b0
  have P0 := hid PB
  generalize (f (i, j)).getD (.agg #[.bool false, .slice none 0 0]) = u at *
  clear h hm hf b0 hW PB ok hi hj
  go_enter Try.func26, Try.ntmps26
  go_wp2_with fail
  rw [EW.out]
  refine HP.out.mono ?_
  rintro e w1 ⟨rfl, hw1⟩
  subst hw1
  go_wp2_with fail
  refine HL.out.mono ?_
  rintro e w2 ⟨v, rfl, m2, b2⟩
  have P2 := hid (P0.out.step b2)
  obtain ⟨m, xs, a, cc, rfl, -⟩ := id m2
  have FIN : Hid (Getd w (F i j) k (.returned (.tuple #[.agg #[.bool m, .slice a xs.length cc], .int .i64 0])) ((w2.setCell ⟨w.heap.size, 0, none⟩ (.bool m)).setCell ⟨w.heap.size, 1, none⟩ (.slice a xs.length cc))) :=
    ⟨_, rfl, (m2.mono (by omega)).box P2.out _ _, bset (bset (below_step G0.out b2) (by omega)) (by omega)⟩
  have y0 := P2.out.c0
  have y1 := P2.out.c1
  have y2 := P2.out.fz 0
  have y3 := P2.out.fz 1
  clear m2 b2 HP HL EW G0 P0 x2 hl sz0
  go_wp2
  exact bodyPost_ret (zback1 Try.results26 (P2.out.set _ _) _ (by rfl) (by rfl)) rfl FIN.out
end Go.Proofs.Ytachdicdfhfoaaa

/- TailA -/
namespace Go.Proofs.Ytachdicdfhfoaaa
open Go.RowKit
set_option linter.unusedVariables false

section
variable {P : Program} {ops : Array Oper} {Q : Exit → Act → World → Prop} {md : Region.Mode} {S : World → Prop} {n : Nat}

theorem wpAnyT_firstA {i : Nat} {oi : Oper} {v : Value} (hi : ops[i]? = some oi) (hsel : ∀ (j : Nat) (o : Oper) cs b, ops[j]? = some o → o.op ≠ .select cs b)
    (hQ : ∀ c a w, Q (.panic c) (a.put oi.dst v) w → Q (.panic c) a w)
    (hn : ops.size ≤ n) :
    ∀ (fuel : Nat) (listed : Array Bool) (a : Act) (w : World),
      (∀ j oj, ops[j]? = some oj → j ≠ i → listed.getD j true = false → (∀ e ∈ oj.after, Region.binds md e = true → e.on ≠ i) → oi.apart ops oj = true) →
      i ∈ Region.ready md ops listed → YieldsIf P ops S oi v a → S w →
      wpAnyT P md ops Q S n fuel (listed.setIfInBounds i true) (a.put oi.dst v) w → wpAnyT P md ops Q S n (fuel + 1) listed a w := by
  intro fuel
  induction fuel with
  | zero =>
    intro listed a w _ hr hy hS H
    refine ⟨fun h => (by rw [h] at hr; cases hr), fun j hj => ?_⟩
    by_cases hji : j = i
    · subst hji; exact hy.wpOp hi hS ⟨fun _ => hS, H⟩
    · have := ready_mono hj hji
      rw [H.1] at this
      cases this
  | succ fuel ih =>
    intro listed a w hfree hr hy hS H
    refine ⟨fun h => (by rw [h] at hr; cases hr), fun j hj => ?_⟩
    have hjn : j < n := by
      obtain ⟨_, oj, hoj, _⟩ := mem_ready.1 hj
      exact Nat.lt_of_lt_of_le (Array.getElem?_eq_some_iff.1 hoj).1 hn
    by_cases hji : j = i
    · subst hji; exact hy.wpOp hi hS ⟨fun _ => hS, H⟩
    · have h1 := H.2 j (ready_mono hj hji)
      obtain ⟨hjun, oj, hoj, hall⟩ := mem_ready.1 hj
      have hnot : ∀ e ∈ oj.after, Region.binds md e = true → e.on ≠ i := fun e he hb heq => by
        have h1 := hall e he hb
        have h0 := (mem_ready.1 hr).1
        rw [heq] at h1
        rcases Nat.lt_or_ge i listed.size with h' | h'
        · simp [h'] at h0 h1; rw [h0] at h1; cases h1
        · simp [Array.getElem?_eq_none h'] at h1
      have h2 := wpOp_putIf hoj (hfree j oj hoj hji hjun hnot) (fun cs b => hsel i oi cs b hi) (fun cs b => hsel j oj cs b hoj) hQ hy h1
      have hfree' : ∀ k ok, ops[k]? = some ok → k ≠ i → (listed.setIfInBounds j true).getD k true = false →
          (∀ e ∈ ok.after, Region.binds md e = true → e.on ≠ i) → oi.apart ops ok = true := fun k ok hk hki hun hno => by
        refine hfree k ok hk hki ?_ hno
        by_cases hjk : j = k
        · subst hjk; exact hjun
        · rw [getD_set_ne true hjk] at hun; exact hun
      refine wpOp_mono (fun a' w' h3 => ⟨fun _ => h3.2.1 hjn, ih (listed.setIfInBounds j true) a' w' hfree' (ready_mono hr (Ne.symm hji)) h3.1 (h3.2.1 hjn) ?_⟩) h2
      rw [Array.setIfInBounds_comm _ _ hji]
      exact h3.2.2

theorem wpAnyT_takeA {i : Nat} {oi : Oper} {v : Value} {fuel : Nat} {listed : Array Bool} {a : Act} {w : World} (hi : ops[i]? = some oi)
    (hok : (Region.noSelect ops && Region.free md ops listed i && (Region.ready md ops listed).contains i && decide (ops.size ≤ n)) = true)
    (hQ : ∀ c a w, Q (.panic c) (a.put oi.dst v) w → Q (.panic c) a w) (hy : YieldsIf P ops S oi v a) (hS : S w)
    (h : wpAnyT P md ops Q S n fuel (listed.setIfInBounds i true) (a.put oi.dst v) w) : wpAnyT P md ops Q S n (fuel + 1) listed a w := by
  simp only [Bool.and_eq_true, decide_eq_true_eq] at hok
  obtain ⟨⟨⟨h1, h2⟩, h3⟩, h4⟩ := hok
  exact wpAnyT_firstA hi (Region.noSelect_spec h1) hQ h4 fuel listed a w (Region.free_spec hi h2) (by simpa using h3) hy hS h
end
end Go.Proofs.Ytachdicdfhfoaaa
