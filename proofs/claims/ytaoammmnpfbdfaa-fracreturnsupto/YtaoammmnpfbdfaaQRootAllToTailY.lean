/-
  QRootAllToTailY: RootAll, TailX, TailY, joined.
-/
import Derived.Test.YtaoammmnpfbdfaaQRootAny
import Derived.Test.YtaoammmnpfbdfaaQTail

/- RootAll -/
namespace Go.Proofs.Ytaoammmnpfbdfaa
open Go.RowKit
set_option linter.unusedVariables false

def RootedT (w : World) (r : Int) (e : Ending) (w' : World) : Prop := ∃ zs v, e = .returned (.tuple #[v, .int .i64 0]) ∧ Own w.heap.size w' v zs ∧ Canon zs ∧ val zs = r ∧ Below w.heap.size w w'
theorem nroot_one {a k : Nat} (h0 : a ≠ 0) (h : bitLen a ≤ k) : NRoot 1 a k := by
  refine ⟨by rw [Nat.one_pow]; omega, Nat.lt_of_lt_of_le (bitLen_has h0).2 ?_⟩
  exact Nat.pow_le_pow_right (by omega) h
theorem nroot_unique {r s a k : Nat} (h : NRoot r a k) (h' : NRoot s a k) : r = s := Nat.le_antisymm (h'.le h.1) (h.le h'.1)
theorem own_last (w : World) (xs : List Int) (cs : Array Value) (hcs : cs = (ws xs).toArray) (hx : WF xs) (h : xs.length ≤ 35184372088832) (n : Nat) (hn : n = xs.length) : Own w.heap.size (w.alloc (.cells cs 52)) (.slice (some ⟨w.heap.size, 0, none⟩) n n) xs := by
  subst hcs
  subst hn
  exact ⟨hx, .inr ⟨w.heap.size, [], Nat.le_refl _, by simpa using h, by simp, by simpa using Row.new w xs⟩⟩

set_option maxHeartbeats 1600000 in
theorem rootT_any {w : World} {va : Value} {xs : List Int} {k r : Nat} (ha : Sl w.heap.size w va xs) (h1 : 1 ≤ k) (hk : k < 9223372036854775808) (lx : xs.length ≤ 33554432) (hr : NRoot r (vn xs) k) : Calls Try.prog 87 #[va, .int .i64 (k : Int)] w (RootedT w (r : Int)) := by
  have HA := hid ha
  have HR := hid hr
  have HV := hid (val_vn ha.1)
  have HBL := hid (bitLen_any ha)
  have z1 : ¬ (k : Int) < 1 := by omega
  by_cases h0 : vn xs = 0
  · have hb : bitLen (vn xs) = 0 := by rw [h0]; rfl
    rw [hb] at HBL
    have hr0 : r = 0 := by
      have := hr.1
      rw [h0] at this
      rcases Nat.eq_zero_or_pos r with q | q
      · exact q
      · have := Nat.pow_pos (n := k) q; omega
    clear ha hr
    go_enter Try.func87, Try.ntmps87
    go_wp2_with fail
    refine HBL.out.mono ?_
    rintro e w1 ⟨rfl, rfl⟩
    clear HBL
    go_wp2
    go_ret2
    exact ⟨[], _, rfl, ⟨WF.nil, .inl ⟨rfl, rfl⟩⟩, canon_nil, by rw [hr0]; rfl, Below.refl _ _⟩
  · have hbl : bitLen (vn xs) ≤ 64 * xs.length := by
      unfold bitLen
      rw [if_neg h0]
      have := (Nat.log2_lt (n := vn xs) (k := 64 * xs.length) h0).2 (vn_lt ha.1)
      omega
    have hb0 : 0 < bitLen (vn xs) := by unfold bitLen; rw [if_neg h0]; omega
    have HN1 : Hid (bitLen (vn xs) ≤ k → NRoot 1 (vn xs) k) := nroot_one h0
    have HRA : Hid (2 ≤ k → k < 4294967296 → Calls Try.prog 98 #[va, .int .i64 (k : Int)] w (Rooted w.heap.size w (r : Int))) := fun a b => root_any ha a b h0 (by omega) hr
    have HLE := hid (least_own ha)
    generalize bitLen (vn xs) = b at *
    have z2 : ((b : Int) == 0) = false := by rw [beq_eq_false_iff_ne]; omega
    clear ha hr
    by_cases hkb : b ≤ k
    · have z3 : (b : Int) ≤ (k : Int) := by omega
      have e1 := nroot_unique HR.out (HN1.out hkb)
      go_enter Try.func87, Try.ntmps87
      go_wp2_with fail
      refine HBL.out.mono ?_
      rintro e w1 ⟨rfl, rfl⟩
      clear HBL
      go_wp2
      go_ret2
      exact ⟨[1], _, rfl, own_last _ [1] _ rfl canon_one.1 (by simp) 1 rfl, canon_one, by rw [e1]; rfl, (Below.refl _ _).alloc (Nat.le_refl _) _⟩
    · have z3 : ¬ (b : Int) ≤ (k : Int) := by omega
      by_cases hk1 : k = 1
      · subst hk1
        have z4 : ((1 : Int) == 1) = true := rfl
        have er : r = vn xs := by
          have h3 := HR.out.1
          have h4 := HR.out.2
          rw [Nat.pow_one] at h3 h4
          omega
        go_enter Try.func87, Try.ntmps87
        go_wp2_with fail
        refine HBL.out.mono ?_
        rintro e w1 ⟨rfl, rfl⟩
        clear HBL
        go_wp2_with fail
        refine HLE.out.mono ?_
        rintro e w2 ⟨v2, rfl, ho, hb2⟩
        have HO := hid ho
        have HB := hid hb2
        clear ho hb2 HLE
        go_wp2
        go_ret2
        exact ⟨lst xs, v2, rfl, HO.out, canon_lst HA.out.1, by rw [val_lst, HV.out, er], HB.out⟩
      · have z4 : ((k : Int) == 1) = false := by rw [beq_eq_false_iff_ne]; omega
        have HRR := hid (HRA.out (by omega) (by omega))
        go_enter Try.func87, Try.ntmps87
        go_wp2_with fail
        refine HBL.out.mono ?_
        rintro e w1 ⟨rfl, rfl⟩
        clear HBL
        go_wp2_with fail
        refine HRR.out.mono ?_
        rintro e w2 ⟨zs, v, rfl, o1, c1, e1, b1⟩
        have O1 := hid o1
        have B1 := hid b1
        clear HRR o1 b1 HRA
        go_wp2
        go_ret2
        exact ⟨zs, v, rfl, O1.out, c1, e1, B1.out⟩
theorem rootT_bad (v : Value) (w : World) {i : Int} (hi : i < 1) (hl : -9223372036854775808 ≤ i) :
    Calls Try.prog 87 #[v, .int .i64 i] w fun e w' => e = .returned (.tuple #[.slice none 0 0, .int .i64 3]) ∧ w' = w := by
  go_enter Try.func87, Try.ntmps87
  go_wp2
  go_ret2
  exact ⟨rfl, rfl⟩
/-- What Sqrt answers. -/
def Sqrted (w : World) (xs : List Int) (r : Nat) (e : Ending) (w' : World) : Prop := ∃ zs ls v u, e = .returned (.tuple #[v, u]) ∧ Sl w'.heap.size w' v zs ∧ Sl w'.heap.size w' u ls ∧ Canon zs ∧ Canon ls ∧ val zs = (r : Int) ∧ val ls = val xs - val zs * val zs ∧ Below w.heap.size w w'
set_option maxHeartbeats 1600000 in
theorem sqrt_any {w : World} {va : Value} {xs : List Int} {r : Nat} (ha : Sl w.heap.size w va xs) (lx : xs.length ≤ 33554432) (hr : NRoot r (vn xs) 2) : Calls Try.prog 74 #[va] w (Sqrted w xs r) := by
  have HA := hid ha
  have HR := hid hr
  have HV := hid (val_vn ha.1)
  have HRT := hid (rootT_any ha (k := 2) (by omega) (by omega) lx hr)
  clear ha hr
  go_enter Try.func74, Try.ntmps74
  go_wp2_with fail
  refine HRT.out.mono ?_
  rintro e w1 ⟨zs, v, rfl, o1, c1, e1, b1⟩
  have hle : r ≤ vn xs := by
    have := HR.out.1
    rw [Nat.pow_succ, Nat.pow_one] at this
    exact Nat.le_trans (Nat.le_mul_self r) this
  have lz := canon_len_le c1 (canon_lst HA.out.1) (by rw [e1, val_lst, HV.out]; omega)
  rw [length_lst] at lz
  have lw := wid_le xs
  have HSQ := hid (square_any o1.sl (by omega))
  have O1 := hid o1
  have E1 := hid e1
  have B1 := hid b1
  obtain ⟨a1, a2, rfl⟩ := o1.form
  clear HRT o1 e1 b1
  go_wp2_with fail
  refine HSQ.out.mono ?_
  rintro e w2 ⟨qs, vq, rfl, mq, cq, eq2, b2⟩
  have B2 := hid (below_step B1.out b2)
  have hsq : val qs ≤ val xs := by
    have := HR.out.1
    rw [Nat.pow_succ, Nat.pow_one] at this
    rw [eq2, E1.out, HV.out, ← Int.natCast_mul]
    omega
  have HSB := hid (sub_now (HA.out.now B2.out) mq.sl hsq)
  have SZ2 := hid (O1.out.sl.now b2)
  have EQ2 := hid eq2
  clear HSQ mq b2 eq2
  go_wp2_with fail
  refine HSB.out.mono ?_
  rintro e w3 ⟨ls, la, lc, rfl, sl, cl, el, ll, b3⟩
  have B3 := hid (below_step B2.out b3)
  have SZ3 := hid (SZ2.out.now b3)
  have SL3 := hid sl
  have EL := hid el
  clear HSB sl b3 el
  go_wp2
  go_ret2
  exact ⟨zs, ls, _, _, rfl, SZ3.out, SL3.out, c1, cl, E1.out, by rw [EL.out, EQ2.out], B3.out⟩
end Go.Proofs.Ytaoammmnpfbdfaa

/- TailX -/
namespace Go.Proofs.Ytaoammmnpfbdfaa
open Go.RowKit
set_option linter.unusedVariables false

section
variable {P : Program} {ops : Array Oper} {Q : Exit → Act → World → Prop} {md : Region.Mode} {S : World → Prop} {X : List Nat}

def wpAnyX (P : Program) (md : Region.Mode) (ops : Array Oper) (Q : Exit → Act → World → Prop) (S : World → Prop) (X : List Nat) : Nat → Array Bool → Act → World → Prop
  | 0, listed, a, w => Region.ready md ops listed = [] ∧ Q .normal a w
  | fuel + 1, listed, a, w =>
    (Region.ready md ops listed = [] → Q .normal a w) ∧
    ∀ i ∈ Region.ready md ops listed, wpOp P ops Q i (fun a' w' => (X.contains i = false → S w → S w') ∧ wpAnyX P md ops Q S X fuel (listed.setIfInBounds i true) a' w') a w

theorem wpAny_of_X : ∀ (fuel : Nat) (listed : Array Bool) (a : Act) (w : World), wpAnyX P md ops Q S X fuel listed a w → wpAny P md ops Q fuel listed a w
  | 0, _, _, _, h => h
  | fuel + 1, _, _, _, h => ⟨h.1, fun i hi => wpOp_mono (fun a' w' h' => wpAny_of_X fuel _ a' w' h'.2) (h.2 i hi)⟩

/-- S' is what the value rests on: S, or nothing. -/
theorem wpAnyX_first {S' : World → Prop} {i : Nat} {oi : Oper} {v : Value} (hi : ops[i]? = some oi) (hsel : ∀ (j : Nat) (o : Oper) cs b, ops[j]? = some o → o.op ≠ .select cs b)
    (hQ : ∀ c a w, Q (.panic c) (a.put oi.dst v) w → Q (.panic c) a w)
    (hX : ∀ (j : Nat) (w w' : World), (∀ oj, ops[j]? = some oj → ∀ e ∈ oj.after, Region.binds md e = true → e.on ≠ i) → ((X.contains j = false → S w → S w') → S' w → S' w')) :
    ∀ (fuel : Nat) (listed : Array Bool) (a : Act) (w : World),
      (∀ j oj, ops[j]? = some oj → j ≠ i → listed.getD j true = false → (∀ e ∈ oj.after, Region.binds md e = true → e.on ≠ i) → oi.apart ops oj = true) →
      i ∈ Region.ready md ops listed → YieldsIf P ops S' oi v a → S' w →
      wpAnyX P md ops Q S X fuel (listed.setIfInBounds i true) (a.put oi.dst v) w → wpAnyX P md ops Q S X (fuel + 1) listed a w := by
  intro fuel
  induction fuel with
  | zero =>
    intro listed a w _ hr hy hS H
    refine ⟨fun h => (by rw [h] at hr; cases hr), fun j hj => ?_⟩
    by_cases hji : j = i
    · subst hji; exact hy.wpOp hi hS ⟨fun _ h => h, H⟩
    · have := ready_mono hj hji
      rw [H.1] at this
      cases this
  | succ fuel ih =>
    intro listed a w hfree hr hy hS H
    refine ⟨fun h => (by rw [h] at hr; cases hr), fun j hj => ?_⟩
    by_cases hji : j = i
    · subst hji; exact hy.wpOp hi hS ⟨fun _ h => h, H⟩
    · have h1 := H.2 j (ready_mono hj hji)
      obtain ⟨hjun, oj, hoj, hall⟩ := mem_ready.1 hj
      have hnot : ∀ e ∈ oj.after, Region.binds md e = true → e.on ≠ i := fun e he hb heq => by
        have h1 := hall e he hb
        have h0 := (mem_ready.1 hr).1
        rw [heq] at h1
        rcases Nat.lt_or_ge i listed.size with h' | h'
        · simp [h'] at h0 h1; rw [h0] at h1; cases h1
        · simp [Array.getElem?_eq_none h'] at h1
      have h2 := wpOp_putIf hoj (hfree j oj hoj hji hjun hnot) (fun cs b => hsel i oi cs b hi) (fun cs b => hsel j oj cs b hoj) hQ hy h1
      have hfree' : ∀ k ok, ops[k]? = some ok → k ≠ i → (listed.setIfInBounds j true).getD k true = false →
          (∀ e ∈ ok.after, Region.binds md e = true → e.on ≠ i) → oi.apart ops ok = true := fun k ok hk hki hun hno => by
        refine hfree k ok hk hki ?_ hno
        by_cases hjk : j = k
        · subst hjk; exact hjun
        · rw [getD_set_ne true hjk] at hun; exact hun
      refine wpOp_mono (fun a' w' h3 => ⟨h3.2.1, ih (listed.setIfInBounds j true) a' w' hfree' (ready_mono hr (Ne.symm hji)) h3.1 (hX j w w' (fun o' ho' => by rw [hoj] at ho'; cases ho'; exact hnot) h3.2.1 hS) ?_⟩) h2
      rw [Array.setIfInBounds_comm _ _ hji]
      exact h3.2.2
/-- All of X wait for i, by an edge of their own. -/
def waitsB (md : Region.Mode) (ops : Array Oper) (X : List Nat) (i : Nat) : Bool :=
  X.all (fun j => match ops[j]? with
    | some oj => oj.after.toList.any (fun e => Region.binds md e && e.on == i)
    | none => false)
theorem wpAnyX_take {i : Nat} {oi : Oper} {v : Value} {fuel : Nat} {listed : Array Bool} {a : Act} {w : World} (hi : ops[i]? = some oi)
    (hok : (Region.noSelect ops && Region.free md ops listed i && (Region.ready md ops listed).contains i && waitsB md ops X i) = true)
    (hQ : ∀ c a w, Q (.panic c) (a.put oi.dst v) w → Q (.panic c) a w) (hy : YieldsIf P ops S oi v a) (hS : S w)
    (h : wpAnyX P md ops Q S X fuel (listed.setIfInBounds i true) (a.put oi.dst v) w) : wpAnyX P md ops Q S X (fuel + 1) listed a w := by
  simp only [Bool.and_eq_true] at hok
  obtain ⟨⟨⟨h1, h2⟩, h3⟩, h4⟩ := hok
  refine wpAnyX_first hi (Region.noSelect_spec h1) hQ (fun j w w' hn hk hs => hk ?_ hs) fuel listed a w (Region.free_spec hi h2) (by simpa using h3) hy hS h
  cases hc : X.contains j with
  | false => rfl
  | true =>
    unfold waitsB at h4
    have h5 := List.all_eq_true.1 h4 j (by simpa using hc)
    cases ho : ops[j]? with
    | none => rw [ho] at h5; cases h5
    | some oj =>
      rw [ho] at h5
      obtain ⟨e, he, hb⟩ := List.any_eq_true.1 h5
      simp only [Bool.and_eq_true, beq_iff_eq] at hb
      exact absurd hb.2 (hn oj ho e (Array.mem_toList_iff.1 he) hb.1)
/-- A value that rests on no memory. -/
theorem wpAnyX_pure {i : Nat} {oi : Oper} {v : Value} {fuel : Nat} {listed : Array Bool} {a : Act} {w : World} (hi : ops[i]? = some oi)
    (hok : (Region.noSelect ops && Region.free md ops listed i && (Region.ready md ops listed).contains i) = true)
    (hQ : ∀ c a w, Q (.panic c) (a.put oi.dst v) w → Q (.panic c) a w) (hy : YieldsIf P ops (fun _ => True) oi v a)
    (h : wpAnyX P md ops Q S X fuel (listed.setIfInBounds i true) (a.put oi.dst v) w) : wpAnyX P md ops Q S X (fuel + 1) listed a w := by
  simp only [Bool.and_eq_true] at hok
  obtain ⟨⟨h1, h2⟩, h3⟩ := hok
  exact wpAnyX_first (S' := fun _ => True) hi (Region.noSelect_spec h1) hQ (fun _ _ _ _ _ _ => trivial) fuel listed a w (Region.free_spec hi h2) (by simpa using h3) hy trivial h
theorem wpAnyX_one {i : Nat} {o : Oper} {fuel : Nat} {listed : Array Bool} {a : Act} {w : World} (hr : Region.ready md ops listed = [i]) (ho : ops[i]? = some o)
    (h : ∀ K' : Act → World → Prop, Shut (∀ a' w', (X.contains i = false → S w → S w') → wpAnyX P md ops Q S X fuel (listed.setIfInBounds i true) a' w' → K' a' w') → if Region.wanted o (yielded ops a.tmps) = true then Oper.wp P o a w K' Q else K' (a.put o.dst undef) w) :
    wpAnyX P md ops Q S X (fuel + 1) listed a w := by
  refine ⟨fun h0 => (by rw [hr] at h0; cases h0), fun j hj => ?_⟩
  rw [hr] at hj
  obtain rfl := List.mem_singleton.1 hj
  exact wpOp_step ho (fun K' hK => h K' (fun a' w' hS hW => hK a' w' ⟨hS, hW⟩))
theorem wpAnyX_two {i j : Nat} {oi oj : Oper} {fuel : Nat} {listed : Array Bool} {a : Act} {w : World} (hr : Region.ready md ops listed = [i, j]) (hi : ops[i]? = some oi) (hj : ops[j]? = some oj)
    (h1 : ∀ K' : Act → World → Prop, Shut (∀ a' w', (X.contains i = false → S w → S w') → wpAnyX P md ops Q S X fuel (listed.setIfInBounds i true) a' w' → K' a' w') → if Region.wanted oi (yielded ops a.tmps) = true then Oper.wp P oi a w K' Q else K' (a.put oi.dst undef) w)
    (h2 : ∀ K' : Act → World → Prop, Shut (∀ a' w', (X.contains j = false → S w → S w') → wpAnyX P md ops Q S X fuel (listed.setIfInBounds j true) a' w' → K' a' w') → if Region.wanted oj (yielded ops a.tmps) = true then Oper.wp P oj a w K' Q else K' (a.put oj.dst undef) w) :
    wpAnyX P md ops Q S X (fuel + 1) listed a w := by
  refine ⟨fun h0 => (by rw [hr] at h0; cases h0), fun q hq => ?_⟩
  rw [hr] at hq
  rcases List.mem_cons.1 hq with rfl | hq
  · exact wpOp_step hi (fun K' hK => h1 K' (fun a' w' hS hW => hK a' w' ⟨hS, hW⟩))
  · obtain rfl := List.mem_singleton.1 hq
    exact wpOp_step hj (fun K' hK => h2 K' (fun a' w' hS hW => hK a' w' ⟨hS, hW⟩))
theorem wpAnyX_done {listed : Array Bool} {a : Act} {w : World} (hr : Region.ready md ops listed = []) (h : Q .normal a w) :
    ∀ fuel, wpAnyX P md ops Q S X fuel listed a w
  | 0 => ⟨hr, h⟩
  | _ + 1 => ⟨fun _ => h, by rw [hr]; simp⟩
theorem wp_region_X (S : World → Prop) (X : List Nat) {id : Nat} {a : Act} {w : World} (hm : P.follows .mixedOrders = true)
    (h : wpAnyX P .any ops Q S X ops.size (Array.replicate ops.size false) a w.drew) : (Code.region id ops true).wp P Q a w :=
  wp_region_any hm (wpAny_of_X _ _ _ _ h)
end
end Go.Proofs.Ytaoammmnpfbdfaa

/- TailY -/
namespace Go.Proofs.Ytaoammmnpfbdfaa
open Go.RowKit
set_option linter.unusedVariables false
section
variable {P : Program} {ops : Array Oper} {Q : Exit → Act → World → Prop} {md : Region.Mode} {S : World → Prop} {X : List Nat}
theorem wpAnyX_three {i j k : Nat} {oi oj ok : Oper} {fuel : Nat} {listed : Array Bool} {a : Act} {w : World} (hr : Region.ready md ops listed = [i, j, k]) (hi : ops[i]? = some oi) (hj : ops[j]? = some oj) (hk : ops[k]? = some ok)
    (h1 : ∀ K' : Act → World → Prop, Shut (∀ a' w', (X.contains i = false → S w → S w') → wpAnyX P md ops Q S X fuel (listed.setIfInBounds i true) a' w' → K' a' w') → if Region.wanted oi (yielded ops a.tmps) = true then Oper.wp P oi a w K' Q else K' (a.put oi.dst undef) w)
    (h2 : ∀ K' : Act → World → Prop, Shut (∀ a' w', (X.contains j = false → S w → S w') → wpAnyX P md ops Q S X fuel (listed.setIfInBounds j true) a' w' → K' a' w') → if Region.wanted oj (yielded ops a.tmps) = true then Oper.wp P oj a w K' Q else K' (a.put oj.dst undef) w)
    (h3 : ∀ K' : Act → World → Prop, Shut (∀ a' w', (X.contains k = false → S w → S w') → wpAnyX P md ops Q S X fuel (listed.setIfInBounds k true) a' w' → K' a' w') → if Region.wanted ok (yielded ops a.tmps) = true then Oper.wp P ok a w K' Q else K' (a.put ok.dst undef) w) :
    wpAnyX P md ops Q S X (fuel + 1) listed a w := by
  refine ⟨fun h0 => (by rw [hr] at h0; cases h0), fun q hq => ?_⟩
  rw [hr] at hq
  rcases List.mem_cons.1 hq with rfl | hq
  · exact wpOp_step hi (fun K' hK => h1 K' (fun a' w' hS hW => hK a' w' ⟨hS, hW⟩))
  · rcases List.mem_cons.1 hq with rfl | hq
    · exact wpOp_step hj (fun K' hK => h2 K' (fun a' w' hS hW => hK a' w' ⟨hS, hW⟩))
    · obtain rfl := List.mem_singleton.1 hq
      exact wpOp_step hk (fun K' hK => h3 K' (fun a' w' hS hW => hK a' w' ⟨hS, hW⟩))
end
end Go.Proofs.Ytaoammmnpfbdfaa
