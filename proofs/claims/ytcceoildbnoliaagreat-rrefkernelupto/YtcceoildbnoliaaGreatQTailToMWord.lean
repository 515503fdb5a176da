/-
  QTailToMWord: Tail, ZFloor, ZEuclid, ZMod, Zlaw0, ZDivs, Less6, ZMet, MWord, joined.
-/
import Derived.Test.YtcceoildbnoliaaGreatQWordsToCarry
import Derived.Deep.RegionHeld3
import Derived.StillTail
import Derived.Test.YtcceoildbnoliaaGreatQExact0ToCells6
import Derived.Test.YtcceoildbnoliaaGreatQAlikeToShift
import Derived.Deep.Cut
import Derived.Test.YtcceoildbnoliaaGreatQMulAllToOnes

/- Tail -/
namespace Go.Proofs.YtcceoildbnoliaaGreat
open Go.RowKit
set_option linter.unusedVariables false

section
variable {P : Program} {ops : Array Oper} {Q : Exit → Act → World → Prop} {md : Region.Mode} {S : World → Prop} {n : Nat}

/-- Whatever order is picked from here on, and S holds behind every operation below n that is carried out. -/
def wpAnyT (P : Program) (md : Region.Mode) (ops : Array Oper) (Q : Exit → Act → World → Prop) (S : World → Prop) (n : Nat) : Nat → Array Bool → Act → World → Prop
  | 0, listed, a, w => Region.ready md ops listed = [] ∧ Q .normal a w
  | fuel + 1, listed, a, w =>
    (Region.ready md ops listed = [] → Q .normal a w) ∧
    ∀ i ∈ Region.ready md ops listed, wpOp P ops Q i (fun a' w' => (i < n → S w') ∧ wpAnyT P md ops Q S n fuel (listed.setIfInBounds i true) a' w') a w

theorem wpAny_of_tail : ∀ (fuel : Nat) (listed : Array Bool) (a : Act) (w : World), wpAnyT P md ops Q S n fuel listed a w → wpAny P md ops Q fuel listed a w
  | 0, _, _, _, h => h
  | fuel + 1, _, _, _, h => ⟨h.1, fun i hi => wpOp_mono (fun a' w' h' => wpAny_of_tail fuel _ a' w' h'.2) (h.2 i hi)⟩

theorem wpAnyT_first {i : Nat} {oi : Oper} {v : Value} (hi : ops[i]? = some oi) (hsel : ∀ (j : Nat) (o : Oper) cs b, ops[j]? = some o → o.op ≠ .select cs b)
    (hQ : ∀ c a w, Q (.panic c) (a.put oi.dst v) w → Q (.panic c) a w)
    (hs : Region.sinkB md ops n = true) (hc : Region.chainB md ops n = true) (hn : n < ops.size) (hin : i < n) :
    ∀ (fuel : Nat) (listed : Array Bool) (a : Act) (w : World), HeadInv md ops n listed →
      (∀ j oj, ops[j]? = some oj → j ≠ i → listed.getD j true = false → (∀ e ∈ oj.after, Region.binds md e = true → e.on ≠ i) → oi.apart ops oj = true) →
      i ∈ Region.ready md ops listed → YieldsIf P ops S oi v a → S w →
      wpAnyT P md ops Q S n fuel (listed.setIfInBounds i true) (a.put oi.dst v) w → wpAnyT P md ops Q S n (fuel + 1) listed a w := by
  intro fuel
  induction fuel with
  | zero =>
    intro listed a w inv _ hr hy hS H
    refine ⟨fun h => (by rw [h] at hr; cases hr), fun j hj => ?_⟩
    by_cases hji : j = i
    · subst hji; exact hy.wpOp hi hS ⟨fun _ => hS, H⟩
    · have := ready_mono hj hji
      rw [H.1] at this
      cases this
  | succ fuel ih =>
    intro listed a w inv hfree hr hy hS H
    have hun := (mem_ready.1 hr).1
    refine ⟨fun h => (by rw [h] at hr; cases hr), fun j hj => ?_⟩
    have hjn : j < n := by
      rcases Nat.lt_or_ge j n with h | h
      · exact h
      · exact absurd hj (tail_waits hs hc hn inv _ i rfl hin hun j h)
    by_cases hji : j = i
    · subst hji; exact hy.wpOp hi hS ⟨fun _ => hS, H⟩
    · have h1 := H.2 j (ready_mono hj hji)
      obtain ⟨hjun, oj, hoj, hall⟩ := mem_ready.1 hj
      have hnot : ∀ e ∈ oj.after, Region.binds md e = true → e.on ≠ i := fun e he hb heq => by
        have h1 := hall e he hb
        have h0 := (mem_ready.1 hr).1
        rw [heq] at h1
        rcases Nat.lt_or_ge i listed.size with h' | h'
        · simp [h'] at h0 h1; rw [h0] at h1; cases h1
        · simp [Array.getElem?_eq_none h'] at h1
      have h2 := wpOp_putIf hoj (hfree j oj hoj hji hjun hnot) (fun cs b => hsel i oi cs b hi) (fun cs b => hsel j oj cs b hoj) hQ hy h1
      have hfree' : ∀ k ok, ops[k]? = some ok → k ≠ i → (listed.setIfInBounds j true).getD k true = false →
          (∀ e ∈ ok.after, Region.binds md e = true → e.on ≠ i) → oi.apart ops ok = true := fun k ok hk hki hun hno => by
        refine hfree k ok hk hki ?_ hno
        by_cases hjk : j = k
        · subst hjk; exact hjun
        · rw [getD_set_ne true hjk] at hun; exact hun
      refine wpOp_mono (fun a' w' h3 => ⟨fun _ => h3.2.1 hjn, ih (listed.setIfInBounds j true) a' w' (inv.set hj hjn) hfree' (ready_mono hr (Ne.symm hji)) h3.1 (h3.2.1 hjn) ?_⟩) h2
      rw [Array.setIfInBounds_comm _ _ hji]
      exact h3.2.2

/-- The condition on what is listed, as a Bool. -/
def headB (md : Region.Mode) (ops : Array Oper) (n : Nat) (listed : Array Bool) : Bool :=
  decide (listed.size = ops.size) && (List.range ops.size).all (fun j => match ops[j]? with
    | some oj => !(listed.getD j false) || oj.after.all (fun e => !(Region.binds md e) || listed.getD e.on false)
    | none => true) && (List.range ops.size).all (fun t => decide (t < n) || !(listed.getD t true))
theorem headB_spec {listed : Array Bool} (h : headB md ops n listed = true) : HeadInv md ops n listed := by
  unfold headB at h
  simp only [Bool.and_eq_true, decide_eq_true_eq, List.all_eq_true, List.mem_range, Bool.or_eq_true, Bool.not_eq_true'] at h
  obtain ⟨⟨h1, h2⟩, h3⟩ := h
  refine ⟨h1, fun j oj hj hl e he hb => ?_, fun t ht ht' => ?_⟩
  · have h4 := h2 j (Array.getElem?_eq_some_iff.1 hj).1
    simp only [hj, Bool.or_eq_true, Bool.not_eq_true', hl, Bool.true_eq_false, false_or] at h4
    have h5 := Array.all_eq_true_iff_forall_mem.1 h4 e he
    simp only [Bool.or_eq_true, Bool.not_eq_true', hb, Bool.true_eq_false, false_or] at h5
    exact h5
  · rcases h3 t ht' with h4 | h4
    · omega
    · exact h4
theorem wpAnyT_take {i : Nat} {oi : Oper} {v : Value} {fuel : Nat} {listed : Array Bool} {a : Act} {w : World} (hi : ops[i]? = some oi)
    (hok : (Region.noSelect ops && Region.free md ops listed i && (Region.ready md ops listed).contains i && Region.sinkB md ops n && Region.chainB md ops n && decide (n < ops.size) && decide (i < n) && headB md ops n listed) = true)
    (hQ : ∀ c a w, Q (.panic c) (a.put oi.dst v) w → Q (.panic c) a w) (hy : YieldsIf P ops S oi v a) (hS : S w)
    (h : wpAnyT P md ops Q S n fuel (listed.setIfInBounds i true) (a.put oi.dst v) w) : wpAnyT P md ops Q S n (fuel + 1) listed a w := by
  simp only [Bool.and_eq_true, decide_eq_true_eq] at hok
  obtain ⟨⟨⟨⟨⟨⟨⟨h1, h2⟩, h3⟩, h4⟩, h5⟩, h6⟩, h7⟩, h8⟩ := hok
  exact wpAnyT_first hi (Region.noSelect_spec h1) hQ h4 h5 h6 h7 fuel listed a w (headB_spec h8) (Region.free_spec hi h2) (by simpa using h3) hy hS h
/-- The only one that may come up. -/
theorem wpAnyT_one {i : Nat} {o : Oper} {fuel : Nat} {listed : Array Bool} {a : Act} {w : World} (hr : Region.ready md ops listed = [i]) (ho : ops[i]? = some o)
    (h : ∀ K' : Act → World → Prop, Shut (∀ a w, (i < n → S w) → wpAnyT P md ops Q S n fuel (listed.setIfInBounds i true) a w → K' a w) → if Region.wanted o (yielded ops a.tmps) = true then Oper.wp P o a w K' Q else K' (a.put o.dst undef) w) :
    wpAnyT P md ops Q S n (fuel + 1) listed a w := by
  refine ⟨fun h0 => (by rw [hr] at h0; cases h0), fun j hj => ?_⟩
  rw [hr] at hj
  obtain rfl := List.mem_singleton.1 hj
  exact wpOp_step ho (fun K' hK => h K' (fun a w hS hW => hK a w ⟨hS, hW⟩))
/-- Two that may come up. -/
theorem wpAnyT_two {i j : Nat} {oi oj : Oper} {fuel : Nat} {listed : Array Bool} {a : Act} {w : World} (hr : Region.ready md ops listed = [i, j]) (hi : ops[i]? = some oi) (hj : ops[j]? = some oj)
    (h1 : ∀ K' : Act → World → Prop, Shut (∀ a w, (i < n → S w) → wpAnyT P md ops Q S n fuel (listed.setIfInBounds i true) a w → K' a w) → if Region.wanted oi (yielded ops a.tmps) = true then Oper.wp P oi a w K' Q else K' (a.put oi.dst undef) w)
    (h2 : ∀ K' : Act → World → Prop, Shut (∀ a w, (j < n → S w) → wpAnyT P md ops Q S n fuel (listed.setIfInBounds j true) a w → K' a w) → if Region.wanted oj (yielded ops a.tmps) = true then Oper.wp P oj a w K' Q else K' (a.put oj.dst undef) w) :
    wpAnyT P md ops Q S n (fuel + 1) listed a w := by
  refine ⟨fun h0 => (by rw [hr] at h0; cases h0), fun q hq => ?_⟩
  rw [hr] at hq
  rcases List.mem_cons.1 hq with rfl | hq
  · exact wpOp_step hi (fun K' hK => h1 K' (fun a w hS hW => hK a w ⟨hS, hW⟩))
  · obtain rfl := List.mem_singleton.1 hq
    exact wpOp_step hj (fun K' hK => h2 K' (fun a w hS hW => hK a w ⟨hS, hW⟩))
theorem wpAnyT_done {listed : Array Bool} {a : Act} {w : World} (hr : Region.ready md ops listed = []) (h : Q .normal a w) :
    ∀ fuel, wpAnyT P md ops Q S n fuel listed a w
  | 0 => ⟨hr, h⟩
  | _ + 1 => ⟨fun _ => h, by rw [hr]; simp⟩
theorem wp_region_tail (S : World → Prop) (n : Nat) {id : Nat} {a : Act} {w : World} (hm : P.follows .mixedOrders = true)
    (h : wpAnyT P .any ops Q S n ops.size (Array.replicate ops.size false) a w.drew) : (Code.region id ops true).wp P Q a w :=
  wp_region_any hm (wpAny_of_tail _ _ _ _ h)
end
end Go.Proofs.YtcceoildbnoliaaGreat

/- ZFloor -/
namespace Go.Proofs.YtcceoildbnoliaaGreat
open Go.RowKit
set_option linter.unusedVariables false

end Go.Proofs.YtcceoildbnoliaaGreat

/- ZEuclid -/
namespace Go.Proofs.YtcceoildbnoliaaGreat
open Go.RowKit
set_option linter.unusedVariables false

end Go.Proofs.YtcceoildbnoliaaGreat

/- ZMod -/
namespace Go.Proofs.YtcceoildbnoliaaGreat
open Go.RowKit
set_option linter.unusedVariables false

end Go.Proofs.YtcceoildbnoliaaGreat

/- Zlaw0 -/
namespace Go.Proofs.YtcceoildbnoliaaGreat
open Go.RowKit
set_option linter.unusedVariables false

theorem cmp_cases (a b : Int) : (a < b ∧ cmpI a b = -1) ∨ (a = b ∧ cmpI a b = 0) ∨ (b < a ∧ cmpI a b = 1) := by
  rcases Int.lt_trichotomy a b with h | h | h
  · exact .inl ⟨h, cmpI_lt h⟩
  · subst h; exact .inr (.inl ⟨rfl, cmpI_self a⟩)
  · exact .inr (.inr ⟨h, cmpI_gt h⟩)
end Go.Proofs.YtcceoildbnoliaaGreat

/- ZDivs -/
namespace Go.Proofs.YtcceoildbnoliaaGreat
open Go.RowKit
set_option linter.unusedVariables false

theorem alloc1 (w : World) (o1 : Obj) : Below w.heap.size w (w.alloc o1) ∧ (w.alloc o1).heap.size = w.heap.size + 1 := ⟨(Below.refl _ _).alloc (Nat.le_refl _) _, by simp⟩
theorem exact_none {w : World} {v u : Value} {z y : Int} {k l : Nat} (h0 : Zi w v z k) (h1 : Zi w u y l) (hy : y = 0) : Calls Tryz.prog 84 #[v, u] w (GivesZ1 4 w 0 k) :=
  (exact_zero_z h0 h1 hy).mono fun e w' ⟨h1, h2⟩ => ⟨_, h1, zm_nil _ _ _, h2⟩
theorem exact_yes {w : World} {v u : Value} {z y : Int} {k l : Nat} (h0 : Zi w v z k) (h1 : Zi w u y l) (hy : y ≠ 0) (hk : k ≤ 1099511627776) (hl : l ≤ 1099511627776) (hr : z.tmod y = 0) : Calls Tryz.prog 84 #[v, u] w (GivesZ1 0 w (z.tdiv y) k) :=
  (exact_z h0 h1 hy hk hl).mono fun e w' h => by
    rcases h with ⟨_, h⟩ | ⟨h, _⟩
    · exact h
    · exact absurd hr h
end Go.Proofs.YtcceoildbnoliaaGreat

/- Less6 -/
namespace Go.Proofs.YtcceoildbnoliaaGreat
open Go.RowKit
set_option linter.unusedVariables false

theorem cel_at {w : World} {b : Nat} {T : TypeId} {L : List Value} (hb : w.heap.size = b) : Cel (w.alloc (.cells L.toArray T)) b T L := by subst hb; exact Cel.new w T L
/-- A row is no list of words. -/
theorem Row.cel {w : World} {g b i : Nat} {L : List Value} {T : TypeId} {M : List Value} {u : Value} (h : Row w g L) (d : Cel w b T M) (hT : T ≠ 125) : Row (w.setCell ⟨b, i, none⟩ u) g L := by
  have hne : g ≠ b := fun e => by
    subst e
    have := (show w.heap[g]? = _ from h).symm.trans (show w.heap[g]? = _ from d)
    simp at this
    exact hT this.2.symm
  exact (Below.heap_setCell w _ u g (fun e => hne (by simpa using e))).trans h
theorem Mine.cel {B : Nat} {w : World} {v : Value} {zs : List Int} (h : Mine B w v zs) {b i : Nat} {T : TypeId} {M : List Value} {u : Value} (d : Cel w b T M) (hT : T ≠ 125) : Mine B (w.setCell ⟨b, i, none⟩ u) v zs := by
  obtain ⟨hw, h | ⟨g, r, cap, h1, h2, h3, h4, h5, h6⟩⟩ := h
  · exact ⟨hw, .inl h⟩
  · exact ⟨hw, .inr ⟨g, r, cap, h1, h2, h3, h4, h5, h6.cel d hT⟩⟩
theorem Zm.cel {B : Nat} {w : World} {v : Value} {z : Int} {k : Nat} (h : Zm B w v z k) {b i : Nat} {T : TypeId} {M : List Value} {u : Value} (d : Cel w b T M) (hT : T ≠ 125) : Zm B (w.setCell ⟨b, i, none⟩ u) v z k := by
  obtain ⟨n, xs, a, c, h1, h2, h3⟩ := h
  exact ⟨n, xs, a, c, h1, h2.cel d hT, h3⟩
end Go.Proofs.YtcceoildbnoliaaGreat

/- ZMet -/
namespace Go.Proofs.YtcceoildbnoliaaGreat
open Go.RowKit
set_option linter.unusedVariables false

def MetB (W wx : World) (s1 : Value) (z : Int) (k : Nat) : Prop :=
  ∃ bk n, ∃ x : List Int, ∃ a c, s1 = .pointer (some ⟨bk, 0, none⟩) ∧ Below W.heap.size W wx ∧ W.heap.size ≤ bk ∧ bk < wx.heap.size ∧ Duo wx bk (.bool n) (.slice a x.length c) ∧ Zm W.heap.size wx (.agg #[.bool n, .slice a x.length c]) z k
theorem metb_set {W w2 : World} {bk B : Nat} {n : Bool} {t : List Int} {a : Option Addr} {c k : Nat} {z : Int} (D : Duo w2 bk (.bool false) (.slice none 0 0)) (M : Zm B w2 (.agg #[.bool n, .slice a t.length c]) z k) (HP : Below W.heap.size W w2) (h1 : W.heap.size ≤ bk) (h2 : W.heap.size ≤ B) :
    MetB W ((w2.setCell ⟨bk, 0, none⟩ (.bool n)).setCell ⟨bk, 1, none⟩ (.slice a t.length c)) (.pointer (some ⟨bk, 0, none⟩)) z k :=
  ⟨bk, n, t, a, c, rfl, bset (bset HP h1) h1, h1, (D.set _ _).blk, D.set _ _, (M.box D _ _).mono h2⟩
end Go.Proofs.YtcceoildbnoliaaGreat

/- MWord -/
namespace Go.Proofs.YtcceoildbnoliaaGreat
open Go.RowKit
set_option linter.unusedVariables false

set_option maxHeartbeats 1600000 in
theorem word_any {w : World} {va : Value} {xs : List Int} (ha : Sl w.heap.size w va xs) {W : Int} (hW : IsW W) (hl : xs.length < 35184372088832) :
    Calls Tryz.prog 169 #[va, .int .u64 W] w (Makes w (val xs * W)) := by
  obtain ⟨a, ca, rfl⟩ : ∃ a ca, va = .slice a xs.length ca := by obtain ⟨_, a, ca, e, _⟩ := ha; exact ⟨a, ca, e⟩
  have HT1 := hid (trimmed_any ha)
  have l1 := wid_le xs
  have SX := hid (ha.taken l1)
  change Hid (Sl w.heap.size w _ (lst xs)) at SX
  have CX := hid (canon_lst ha.1)
  have LX := hid (length_lst xs)
  rw [← val_lst xs]
  generalize lst xs = X at *
  generalize wid xs = n at *
  clear ha
  have HW := hid hW
  go_enter Tryz.func169, Tryz.ntmps169
  go_wp2_with fail
  refine HT1.out.mono ?_
  rintro e w1 ⟨rfl, rfl⟩
  clear HT1
  go_wp2_with (at_make; refine wpList_make_words _ rfl _ _ rfl _ _ (n + 1) (n + 1) rfl rfl (by omega) (by omega) (Nat.le_refl _) (by omega) ?_)
  intro w2 hrow hb2 hsz2
  have HA := hid (addTimes_any (o := 0) (len := n + 1) (cap := n + 1) (r := []) (wf_zeros (n + 1)) (by simpa using hrow) (by simp; omega) (SX.out.below hb2 (Nat.le_refl _)) HW.out (by rw [LX.out]; simp) (by rw [LX.out]; omega))
  rw [LX.out] at HA
  have HB2 := hid hb2
  clear hrow hb2 hsz2
  go_wp2_with fail
  refine HA.out.mono ?_
  rintro e w3 ⟨zs', c, rfl, hzl, hwz', hc, hv, hd, hr3, hb3⟩
  rw [Nat.zero_add] at hv hd
  have hzl' : zs'.length = n + 1 := by rw [hzl]; simp
  have D3 : zs'.drop n = List.replicate (0 + 1) 0 := by rw [hd]; simp
  obtain ⟨hk3, hz3⟩ := zeros_head D3
  have c3 : w3.cell? ⟨w1.heap.size, n, none⟩ = some (.int .u64 zs'[n]) := hr3.word hk3
  have cf : w3.frozen? ⟨w1.heap.size, n, none⟩ = false := hr3.frozen _
  have HV4 : Hid (val (zs'.set n c) = val X * W) := by
    unfold Hid
    rw [val_set zs' n c hk3, hz3]
    rw [val_zeros] at hv
    have : pw 0 = 1 := rfl
    rw [this] at hv
    grind
  have HR4 := hid (hr3.setWord hk3 c)
  have HB4 := hid ((HB2.out.trans hb3).setCell (p := ⟨w1.heap.size, n, none⟩) (Nat.le_refl _) (.int .u64 c))
  have HW4 := hid (hwz'.set n hc)
  have HL4 : Hid ((zs'.set n c).length = n + 1) := by unfold Hid; rw [List.length_set, hzl']
  generalize zs'[n] = z at *
  generalize zs'.set n c = zs'' at *
  clear hd D3 hr3 hb3 hv hzl hwz' HA HB2 hzl'
  go_wp2_with fail
  have hr5 : Row (w3.setCell ⟨w1.heap.size, n, none⟩ (.int .u64 c)) w1.heap.size (ws zs'') := by simpa using HR4.out
  have hsl := Row.sl (r := []) (by simpa using hr5) HW4.out (cap := n + 1) (by rw [HL4.out]; exact Nat.le_refl _) (by omega) hr5.lt
  rw [HL4.out] at hsl
  refine (trimmed_any hsl).mono ?_
  rintro e w5 ⟨rfl, rfl⟩
  go_wp2
  go_ret
  exact ⟨lst zs'', _, rfl, trim_mine (Nat.le_refl _) HW4.out (by rw [HL4.out]; omega) hr5, canon_lst HW4.out, by rw [val_lst]; exact HV4.out, HB4.out⟩
end Go.Proofs.YtcceoildbnoliaaGreat
