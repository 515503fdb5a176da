/-
 QExtPureToTy9: ExtPure, Gcd6, Ext6, Lm6, CrtPure, TailA, Crt6, CrtLPure, Fit8, Chain8, IsChain8, Bw8, TailX, Round8, Rf11, Pure9, St11, Ty9, joined.
-/
import Derived.Test.YtakkmpkkoecnhaaGreatQUnit9ToMWord
import Derived.Test.YtakkmpkkoecnhaaGreatQGcdAll
import Derived.Deep.LoopGhost
import Derived.Test.YtakkmpkkoecnhaaGreatQFil9ToTail
import Derived.Test.YtakkmpkkoecnhaaGreatQAlikeToShift
import Derived.Test.YtakkmpkkoecnhaaGreatQZOnesToZCmp
import Derived.Test.YtakkmpkkoecnhaaGreatQZStoreToLst9
import Derived.Test.YtakkmpkkoecnhaaGreatQMulToOnes
import Derived.RangeFuncNested
import Derived.RangeFuncBound
import Derived.RangeFuncCalls
import Derived.RangeFuncLeaves
import Derived.RangeFuncBox
import Derived.Shelf.Abstract
import Derived.Shelf.RegionOpen
import Derived.WalkKit
import Derived.OwnWalkIn
import Derived.TacticsInMore
import Derived.LoopNIn
import Derived.LoopIn
import Derived.Test.YtakkmpkkoecnhaaGreatQCat9ToColsP9

set_option maxRecDepth 100000
set_option maxHeartbeats 6400000
set_option linter.unusedVariables false
set_option linter.unusedSimpArgs false
namespace Go.Proofs.YtakkmpkkoecnhaaGreat
open Go.RowKit
theorem ig_vals {n m : Bool} {xs ys : List Int} {A B : Int} (hx : WF xs) (hy : WF ys) (ha : iv n xs = A) (hb : iv m ys = B) : (ig (val xs) (val ys) : Int) = (Int.gcd A B : Int) := by
 rw [zpC hx ha, zpC hy hb]
 rfl
theorem gcd_lt {A B : Int} {k : Nat} (hA : (A.natAbs : Int) < pw k) (hB : (B.natAbs : Int) < pw k) : ((Int.gcd A B : Int).natAbs : Int) < pw k := by
 have h := zKB k
 by_cases e : A = 0
 ·subst e
  simp only [Int.gcd, Int.natAbs_zero, Nat.gcd_zero_left]; omega
 ·have := Nat.le_of_dvd (show 0 < A.natAbs by omega) (Nat.gcd_dvd_left A.natAbs B.natAbs)
  simp only [Int.gcd]; omega
theorem zOG {w : World} {va vb : Value} {A B : Int} {k : Nat} (ha : Zi w va A k) (hb : Zi w vb B k) (hk : k ≤ 68719476736) :
  Calls Tryz.prog 32 #[va, vb] w (zYA w (Int.gcd A B : Int) k) := by
 have LA := hid ha.lt; have LB := hid hb.lt; have za0 := ha; obtain ⟨na, xa, ada, ca, rfl, sa, ea, la⟩ := ha; have zb0 := hb; obtain ⟨nb, xb, adb, cb, rfl, sb, eb, lb⟩ := hb; obtain ⟨W0, hW⟩ : ∃ W0, ((w.alloc (duo (.bool na) (.slice ada xa.length ca))).alloc (duo (.bool nb) (.slice adb xb.length cb))).alloc zbox = W0 := ⟨_, rfl⟩
 obtain ⟨b0, sz0⟩ := zyA w (duo (.bool na) (.slice ada xa.length ca)) (duo (.bool nb) (.slice adb xb.length cb)) zbox; rw [hW] at b0 sz0; have Pa : Hid (Duo W0 (w.heap.size) (.bool na) (.slice ada xa.length ca)) := by unfold Hid; rw [← hW]; exact zLA (zLA (zZA (by simp)) _) _
 have Pb : Hid (Duo W0 (w.heap.size + 1) (.bool nb) (.slice adb xb.length cb)) := by unfold Hid; rw [← hW]; exact zLA (zZA (by simp)) _
 have PRG : Hid (Duo W0 (w.heap.size + 1 + 1) (.bool false) (.slice none 0 0)) := by unfold Hid; rw [← hW]; exact zZA (by simp)
 have Za := hid (za0.now b0); clear za0; have Sa := hid (sa.now b0); clear sa; have Zb := hid (zb0.now b0); clear zb0; have Sb := hid (sb.now b0); clear sb; have G := hid b0; clear b0; have EW := hid hW; clear hW; go_enter Tryz.func32, Tryz.ntmps32; have IG := hid (ig_vals Sa.out.1 Sb.out.1 ea eb); clear ea eb; have ca0 := Pa.out.c0; have ca1 := Pa.out.c1; have cb0 := Pb.out.c0; have cb1 := Pb.out.c1; rw [← EW.out] at ca0 ca1 cb0 cb1; go_wp2_with fail; rw [EW.out]; clear EW; clear ca0 ca1 cb0 cb1; refine (gcd_any Sa.out Sb.out (by omega) (by omega)).mono ?_; rintro e w1 ⟨zs, r, rfl, ho, hc, hv, b⟩; obtain ⟨az, cz, rfl⟩ := ho.form; have HM := hid ho.mine5; have HC := hid hc; have HV : Hid (val zs = (Int.gcd A B : Int)) := hv.trans IG.out; have hl : Hid (zs.length ≤ k) := zpB hc (by rw [HV.out]; exact Int.lt_of_le_of_lt (by omega) (gcd_lt LA.out LB.out)); replace Za := hid (Za.out.now b); replace Zb := hid (Zb.out.now b); replace Pa := hid (Pa.out.step b); replace Pb := hid (Pb.out.step b); replace PRG := hid (PRG.out.step b); replace Sa := hid (Sa.out.now b); replace Sb := hid (Sb.out.now b); replace G := hid (zAA G.out b); have lz1 := (show Below _ _ _ from b).size; clear b ho hc hv; have cRG0 := PRG.out.c0; have cRG1 := PRG.out.c1; have fRG0 := PRG.out.fz 0; have fRG1 := PRG.out.fz 1; have FIN : Hid (Zm W0.heap.size w1 (.agg #[.bool false, .slice az zs.length cz]) (Int.gcd A B : Int) k) := by
  unfold Hid; have q := zQH (n := false) HM.out HC.out hl.out; rw [zdE, HV.out] at q; exact q
 go_wp2; exact bodyPost_ret (zoA Tryz.results32 (PRG.out.set _ _) _ (by rfl)) rfl (zqC (B := W0.heap.size) FIN.out G.out (by omega) (by omega))



section
variable {P : Program} {ops : Array Oper} {Q : Exit → Act → World → Prop} {md : Region.Mode} {S : World → Prop} {n : Nat}
end





open Go.RowKit Go.Shelf
attribute [local go_sem] Oper.semAt_some
end Go.Proofs.YtakkmpkkoecnhaaGreat
namespace Go.Proofs.YtakkmpkkoecnhaaGreat
open Go.RowKit
section
variable {P : Program} {ops : Array Oper} {Q : Exit → Act → World → Prop} {md : Region.Mode} {S : World → Prop} {X : List Nat}
def zBC (P : Program) (md : Region.Mode) (ops : Array Oper) (Q : Exit → Act → World → Prop) (S : World → Prop) (X : List Nat) : Nat → Array Bool → Act → World → Prop
 | 0, listed, a, w => Region.ready md ops listed = [] ∧ Q .normal a w
 | fuel + 1, listed, a, w =>
  (Region.ready md ops listed = [] → Q .normal a w) ∧
  ∀ i ∈ Region.ready md ops listed, wpOp P ops Q i (fun a' w' => (X.contains i = false → S w → S w') ∧ zBC P md ops Q S X fuel (listed.setIfInBounds i true) a' w') a w
theorem zWE : ∀ (fuel : Nat) (listed : Array Bool) (a : Act) (w : World), zBC P md ops Q S X fuel listed a w → wpAny P md ops Q fuel listed a w
 | 0, _, _, _, h => h
 | fuel + 1, _, _, _, h => ⟨h.1, fun i hi => wpOp_mono (fun a' w' h' => zWE fuel _ a' w' h'.2) (h.2 i hi)⟩
theorem zMD {S' : World → Prop} {i : Nat} {oi : Oper} {v : Value} (hi : ops[i]? = some oi) (hsel : ∀ (j : Nat) (o : Oper) cs b, ops[j]? = some o → o.op ≠ .select cs b)
  (hQ : ∀ c a w, Q (.panic c) (a.put oi.dst v) w → Q (.panic c) a w)
  (hX : ∀ (j : Nat) (w w' : World), (∀ oj, ops[j]? = some oj → ∀ e ∈ oj.after, Region.binds md e = true → e.on ≠ i) → ((X.contains j = false → S w → S w') → S' w → S' w')) :
  ∀ (fuel : Nat) (listed : Array Bool) (a : Act) (w : World),
   (∀ j oj, ops[j]? = some oj → j ≠ i → listed.getD j true = false → (∀ e ∈ oj.after, Region.binds md e = true → e.on ≠ i) → oi.apart ops oj = true) →
   i ∈ Region.ready md ops listed → YieldsIf P ops S' oi v a → S' w →
   zBC P md ops Q S X fuel (listed.setIfInBounds i true) (a.put oi.dst v) w → zBC P md ops Q S X (fuel + 1) listed a w := by
 intro fuel
 induction fuel with
 | zero =>
  intro listed a w _ hr hy hS H; refine ⟨fun h => (by rw [h] at hr; cases hr), fun j hj => ?_⟩
  by_cases hji : j = i
  ·subst hji; exact hy.wpOp hi hS ⟨fun _ h => h, H⟩
  ·have := ready_mono hj hji
   rw [H.1] at this; cases this
 | succ fuel ih =>
  intro listed a w hfree hr hy hS H; refine ⟨fun h => (by rw [h] at hr; cases hr), fun j hj => ?_⟩
  by_cases hji : j = i
  ·subst hji; exact hy.wpOp hi hS ⟨fun _ h => h, H⟩
  ·have h1 := H.2 j (ready_mono hj hji)
   obtain ⟨hjun, oj, hoj, hall⟩ := mem_ready.1 hj; have hnot : ∀ e ∈ oj.after, Region.binds md e = true → e.on ≠ i := fun e he hb heq => by
    have h1 := hall e he hb; have h0 := (mem_ready.1 hr).1; rw [heq] at h1; rcases Nat.lt_or_ge i listed.size with h' | h'
    ·simp [h'] at h0 h1; rw [h0] at h1; cases h1
    ·simp [Array.getElem?_eq_none h'] at h1
   have h2 := wpOp_putIf hoj (hfree j oj hoj hji hjun hnot) (fun cs b => hsel i oi cs b hi) (fun cs b => hsel j oj cs b hoj) hQ hy h1; have hfree' : ∀ k ok, ops[k]? = some ok → k ≠ i → (listed.setIfInBounds j true).getD k true = false →
     (∀ e ∈ ok.after, Region.binds md e = true → e.on ≠ i) → oi.apart ops ok = true := fun k ok hk hki hun hno => by
    refine hfree k ok hk hki ?_ hno
    by_cases hjk : j = k
    ·subst hjk; exact hjun
    ·rw [getD_set_ne true hjk] at hun; exact hun
   refine wpOp_mono (fun a' w' h3 => ⟨h3.2.1, ih (listed.setIfInBounds j true) a' w' hfree' (ready_mono hr (Ne.symm hji)) h3.1 (hX j w w' (fun o' ho' => by rw [hoj] at ho'; cases ho'; exact hnot) h3.2.1 hS) ?_⟩) h2; rw [Array.setIfInBounds_comm _ _ hji]; exact h3.2.2
def zqI (md : Region.Mode) (ops : Array Oper) (X : List Nat) (i : Nat) : Bool :=
 X.all (fun j => match ops[j]? with
  | some oj => oj.after.toList.any (fun e => Region.binds md e && e.on == i)
  | none => false)
theorem zeA {i : Nat} {oi : Oper} {v : Value} {fuel : Nat} {listed : Array Bool} {a : Act} {w : World} (hi : ops[i]? = some oi)
  (hok : (Region.noSelect ops && Region.free md ops listed i && (Region.ready md ops listed).contains i && zqI md ops X i) = true)
  (hQ : ∀ c a w, Q (.panic c) (a.put oi.dst v) w → Q (.panic c) a w) (hy : YieldsIf P ops S oi v a) (hS : S w)
  (h : zBC P md ops Q S X fuel (listed.setIfInBounds i true) (a.put oi.dst v) w) : zBC P md ops Q S X (fuel + 1) listed a w := by
 simp only [Bool.and_eq_true] at hok; obtain ⟨⟨⟨h1, h2⟩, h3⟩, h4⟩ := hok; refine zMD hi (Region.noSelect_spec h1) hQ (fun j w w' hn hk hs => hk ?_ hs) fuel listed a w (Region.free_spec hi h2) (by simpa using h3) hy hS h; cases hc : X.contains j with
 | false => rfl
 | true =>
  unfold zqI at h4; have h5 := List.all_eq_true.1 h4 j (by simpa using hc); cases ho : ops[j]? with
  | none => rw [ho] at h5; cases h5
  | some oj =>
   rw [ho] at h5; obtain ⟨e, he, hb⟩ := List.any_eq_true.1 h5; simp only [Bool.and_eq_true, beq_iff_eq] at hb; exact absurd hb.2 (hn oj ho e (Array.mem_toList_iff.1 he) hb.1)
theorem zIA {i : Nat} {oi : Oper} {v : Value} {fuel : Nat} {listed : Array Bool} {a : Act} {w : World} (hi : ops[i]? = some oi)
  (hok : (Region.noSelect ops && Region.free md ops listed i && (Region.ready md ops listed).contains i) = true)
  (hQ : ∀ c a w, Q (.panic c) (a.put oi.dst v) w → Q (.panic c) a w) (hy : YieldsIf P ops (fun _ => True) oi v a)
  (h : zBC P md ops Q S X fuel (listed.setIfInBounds i true) (a.put oi.dst v) w) : zBC P md ops Q S X (fuel + 1) listed a w := by
 simp only [Bool.and_eq_true] at hok; obtain ⟨⟨h1, h2⟩, h3⟩ := hok; exact zMD (S' := fun _ => True) hi (Region.noSelect_spec h1) hQ (fun _ _ _ _ _ _ => trivial) fuel listed a w (Region.free_spec hi h2) (by simpa using h3) hy trivial h
theorem zRB {i : Nat} {o : Oper} {fuel : Nat} {listed : Array Bool} {a : Act} {w : World} (hr : Region.ready md ops listed = [i]) (ho : ops[i]? = some o)
  (h : ∀ K' : Act → World → Prop, Shut (∀ a' w', (X.contains i = false → S w → S w') → zBC P md ops Q S X fuel (listed.setIfInBounds i true) a' w' → K' a' w') → if Region.wanted o (yielded ops a.tmps) = true then Oper.wp P o a w K' Q else K' (a.put o.dst undef) w) :
  zBC P md ops Q S X (fuel + 1) listed a w := by
 refine ⟨fun h0 => (by rw [hr] at h0; cases h0), fun j hj => ?_⟩; rw [hr] at hj; obtain rfl := List.mem_singleton.1 hj; exact wpOp_step ho (fun K' hK => h K' (fun a' w' hS hW => hK a' w' ⟨hS, hW⟩))
theorem zZC {listed : Array Bool} {a : Act} {w : World} (hr : Region.ready md ops listed = []) (h : Q .normal a w) :
  ∀ fuel, zBC P md ops Q S X fuel listed a w
 | 0 => ⟨hr, h⟩
 | _ + 1 => ⟨fun _ => h, by rw [hr]; simp⟩
theorem zYC (S : World → Prop) (X : List Nat) {id : Nat} {a : Act} {w : World} (hm : P.follows .mixedOrders = true)
  (h : zBC P .any ops Q S X ops.size (Array.replicate ops.size false) a w.drew) : (Code.region id ops true).wp P Q a w :=
 wp_region_any hm (zWE _ _ _ _ h)
end
open Go.RowKit Go.Shelf
theorem rows_in {n : Nat} {P : Program} {row : String} {args : Array Value} {w : World} {R : Value → World → Prop} (l : Nat) (h : Rows P row args w R) : RowsIn (Fence.wide.inRound l) n P row args w R :=
 fun c cs _ => let ⟨v, w', r, s⟩ := h c cs; ⟨v, w', r, stepsIn_wide.2 s⟩
theorem zrG {P : Program} {l n : Nat} {o : Oper} {a : Act} {w : World} {K : Act → World → Prop} {Q : Exit → Act → World → Prop} (hno : ∀ c, o.op ≠ .defer c) (h : o.wp P a w K Q) : o.wpIn (Fence.wide.inRound l) n P a w K Q := by
 refine ⟨fun _ _ => trivial, ?_⟩; rw [Fence.inRound_round, Oper.semAt_some l a.eval o hno]; unfold Oper.wp at h; generalize (execOp a.eval o).run P w = r at *; cases r with
 | ok x w' =>
  cases x <;> simp only [Oper.upon, Oper.uponIn] at h ⊢
  all_goals first
   | exact h
   | exact ⟨fun e => (by cases e), CallsIn.inRound l (callsIn_wide.2 h)⟩
   | exact ⟨fun e => (by cases e), rows_in l h⟩
   | exact h.elim
 | halt x w' => cases x <;> simp only [Oper.upon, Oper.uponIn] at h ⊢ <;> first | exact h | exact h.elim
theorem zvC {P : Program} {l n : Nat} {md : Region.Mode} {ops : Array Oper} {Q : Exit → Act → World → Prop} (hno : ∀ (i : Nat) (o : Oper), ops[i]? = some o → ∀ c, o.op ≠ .defer c) (hL : ¬ LetsOut Q) :
  ∀ fuel listed a w, wpAny P md ops Q fuel listed a w → wpAnyIn (Fence.wide.inRound l) n P md ops Q fuel listed a w
 | 0, listed, a, w, h => h
 | fuel + 1, listed, a, w, h => by
  refine ⟨h.1, fun i hi => ?_⟩; have q := h.2 i hi; unfold wpOp at q; unfold wpOpIn; cases ho : ops[i]? with
  | none => rw [ho] at q; exact zvC hno hL fuel _ _ _ q
  | some o =>
   rw [ho] at q; simp only at q ⊢
   by_cases hw : Region.wanted o (yielded ops a.tmps) = true
   ·rw [if_pos hw] at q ⊢
    rcases q with q | ⟨_, q⟩
    ·exact Oper.wpIn_mono (fun a w => zvC hno hL fuel _ a w) (zrG (hno i o ho) q)
    ·exact absurd q hL
   ·rw [if_neg hw] at q ⊢
    exact ⟨fun _ _ => trivial, zvC hno hL fuel _ _ _ q⟩
theorem region_round {P : Program} {l n id : Nat} {ops : Array Oper} {Q : Exit → Act → World → Prop} {a : Act} {w : World} (hm : P.follows .mixedOrders = true) (hno : ∀ (i : Nat) (o : Oper), ops[i]? = some o → ∀ c, o.op ≠ .defer c) (hL : ¬ LetsOut Q)
  (h : wpAny P .any ops Q ops.size (Array.replicate ops.size false) a w.drew) : (Code.region id ops true).wpIn (Fence.wide.inRound l) n P Q a w :=
 wpIn_region_any hm (zvC hno hL _ _ _ _ h)
theorem zSC {A B : World} (h : Below A.heap.size A B) : A.grownBy B none := ⟨h.os, h.tape, h.output, h.size, fun k hk _ => h.block k hk⟩
theorem rangeW {σ α : Type} {P : Program} {n : Nat} {g : Operand} {ps : Array Tmp} {assign body : Code} {Q : Exit → Act → World → Prop} {a : Act} {w : World}
  (h1 : 1 ≤ n) {gf : Nat} {lb : Array Value} (hg : a.eval g = .func (.func gf) #[] lb) (eg : ∀ args w, (callFunc gf args).run P w = .ok (.enter gf args) w)
  (enc : α → Array Value) (hps : ∀ x, (enc x).size = ps.size)
  (J : σ → World → Prop) (hJ : OwnFrom w.heap.size J) (At : σ → α → World → Prop) (hAt : ∀ s x, OwnFrom w.heap.size (fun (_ : Unit) W => At s x W)) (nx : σ → α → σ)
  (Kp : σ → World → World → Prop) (hKt : ∀ {s : σ} {A B C : World}, Kp s A B → Kp s B C → Kp s A C) (hKb : ∀ (s : σ) (W : World) (l : Nat) (o o' : Obj), w.heap.size ≤ l → W.heap[l]? = some o → o.isCells = false → Kp s W (W.putObj l o'))
  (Ini Fin : σ → Prop) (h0 : ∀ s, Ini s → J s w)
  (hit : ∀ (l : Nat) (J' : σ → World → Prop) (W : World), Below w.heap.size w W → (∀ s X, J' s X → J s X) → (∀ s A B, J' s A → Below A.heap.size A B → J' s B) → (∀ s, Ini s → J' s W) →
   (∀ s x X, J' s X → At s x X → YieldAt Fence.wide (n - 1 - 1) P l (enc x) X fun e Y => e = .returned (.bool true) ∧ J' (nx s x) Y ∧ Kp s X Y) →
   CallsIn Fence.wide (n - 1) P gf (#[.func (.yield l) #[] #[]] ++ lb) W fun e Y => (∃ v, e = .returned v) ∧ ∃ s, Fin s ∧ J' s Y)
  (a₁ : α → Act) (hassign : ∀ (l : Nat) (x : α) (W : World) (K : Act → World → Prop), K (a₁ x) W →
   assign.wpIn (Fence.wide.inRound l) (n - 1 - 1) P (Exit.then K (fun _ _ _ => False)) { tmps := (ps.zip (enc x)).foldl (fun t (p, v) => t.setIfInBounds p v) a.tmps, defers := [] } W)
  (hbody : ∀ (l : Nat) (s : σ) (x : α) (W : World), J s W → At s x W → body.wpIn (Fence.wide.inRound l) (n - 1 - 1) P (fun e _ Y => e = .normal ∧ KeepsFrom w.heap.size W Y ∧ J (nx s x) Y ∧ Kp s W Y) (a₁ x) W)
  (hdone : ∀ (D : Nat) (s : σ) (W : World), w.heap.size ≤ D → Fin s → J s W → W.heap[D]? = some (.deferred (some [])) → Q .normal { a with defers := { target := .collected D, args := #[] } :: a.defers } W) :
  (Code.rangeFunc g ps assign body).wpIn Fence.wide n P Q a w := by
 refine wpIn_rangeFunc fun fn hfn => ?_
 obtain ⟨R, hR⟩ : ∃ R : LoopState → Option Code → Loop, R = fun st pe => { state := st, pending := pe, fn, tmps := a.tmps, params := ps, assign, body, defers := w.heap.size } := ⟨_, rfl⟩
 obtain ⟨W1, hW1⟩ : ∃ W1, (w.alloc (.deferred (some []))).alloc (.loop (R .ready none)) = W1 := ⟨_, rfl⟩
 have bw : Below w.heap.size w W1 := by rw [← hW1]; exact (((Below.refl _ w).alloc (Nat.le_refl _) _).alloc (by simp) _)
 have hL : W1.heap[w.heap.size + 1]? = some (.loop (R .ready none)) := by
  rw [← hW1]; have := World.alloc_heap_new (w.alloc (.deferred (some []))) (.loop (R .ready none))
  rwa [World.size_alloc] at this
 have hD : W1.heap[w.heap.size]? = some (.deferred (some [])) := by
  rw [← hW1]; exact (Below.heap_alloc _ _ _ (by simp)).trans (World.alloc_heap_new w _)
 refine ⟨w.heap.size + 1, [{ target := .collected w.heap.size, args := #[] }], W1, { target := .fn (.func gf) lb, args := #[.func (.yield (w.heap.size + 1)) #[] #[]] }, W1, gf, #[.func (.yield (w.heap.size + 1)) #[] #[]] ++ lb, W1, ?_, ?_, fun _ _ => trivial, ?_, fun _ => h1, ?_⟩
 ·rw [← hW1, hR]; exact run_enterLoop_outer _ _ _ _ _
 ·simp only [resolve, hg]
  simp [go_sem]
 ·simp [invoke, go_sem, eg]
 ·refine (hit (w.heap.size + 1) (fun s W => J s W ∧ W.heap[w.heap.size + 1]? = some (.loop (R .ready none)) ∧ W.heap[w.heap.size]? = some (.deferred (some []))) W1 bw (fun s X h => h.1)
   (fun s A B h b => ⟨hJ s A B none h.1 (zSC b) (fun r e => by cases e), (b.block _ (Array.getElem?_eq_some_iff.1 h.2.1).1).trans h.2.1, (b.block _ (Array.getElem?_eq_some_iff.1 h.2.2).1).trans h.2.2⟩)
   (fun s hs => ⟨hJ s w W1 none (h0 s hs) (zSC bw) (fun r e => by cases e), hL, hD⟩) ?_).mono ?_
  ·rintro s x X ⟨hj, hl, hk⟩ hat
   have hlt : w.heap.size + 1 < X.heap.size := (Array.getElem?_eq_some_iff.1 hl).1; have hy := run_yield (P := P) (args := enc x) hl (by rw [hR]; exact hps x); rw [hR] at hy; refine ⟨fn, _, assign, body, hy, roundIn_of_wpIn hfn (hassign _ x X _ ?_)⟩; clear hy; refine ⟨_, run_beginRound hl (by rw [hR]), ?_⟩; obtain ⟨X2, hX2⟩ : ∃ X2, X.putObj (w.heap.size + 1) (.loop { R .ready none with state := .busy }) = X2 := ⟨_, rfl⟩
   have hl2 : X2.heap[w.heap.size + 1]? = some (.loop { R .ready none with state := .busy }) := by rw [← hX2]; exact World.putObj_heap_same hlt
   have hk2 : X2.heap[w.heap.size]? = some (.deferred (some [])) := by rw [← hX2]; exact (World.putObj_heap_other (by omega)).trans hk
   have hj2 : J s X2 := by rw [← hX2]; exact hJ.putObj _ hj (by omega) hl rfl
   have ha2 : At s x X2 := by rw [← hX2]; exact (hAt s x).putObj (s := ()) _ hat (by omega) hl rfl
   have hp2 : Kp s X X2 := by rw [← hX2]; exact hKb s _ _ _ _ (by omega) hl rfl
   rw [hX2]; refine wpIn_mono (hbody _ s x X2 hj2 ha2) ?_; rintro e a3 X3 ⟨rfl, q1, q2, q3⟩; have hl3 := q1.same _ _ (by omega) hl2 rfl; have hr := run_endRound (P := P) none hl3; refine ⟨_, _, hr, rfl, ⟨hJ.putObj _ q2 (by omega) hl3 rfl, ?_, ?_⟩, hKt (hKt hp2 q3) (hKb s _ _ _ _ (by omega) hl3 rfl)⟩
   ·have := World.putObj_heap_same (w := X3) (r := w.heap.size + 1) (o := .loop { { R .ready none with state := .busy } with state := .ready, pending := none }) (Array.getElem?_eq_some_iff.1 hl3).1
    rw [hR] at this ⊢; exact this
   ·exact (World.putObj_heap_other (by omega)).trans (q1.same _ _ (Nat.le_refl _) hk2 rfl)
  ·rintro e Y ⟨⟨v, rfl⟩, s, hf, hj, hl, hk⟩
   have hr := run_endLoop (P := P) hl (by rw [hR]; simp); refine ⟨_, _, hr, ?_⟩; rw [hR]; exact hdone _ s _ (Nat.le_refl _) hf (hJ.putObj _ hj (by omega) hl rfl) ((World.putObj_heap_other (by omega)).trans hk)
end Go.Proofs.YtakkmpkkoecnhaaGreat
namespace Go.Proofs.YtakkmpkkoecnhaaGreat
def sumN (n : Nat) (f : Nat → Int) : Int := zsum ((List.range n).map f)
theorem zsD (n : Nat) (f : Nat → Int) : sumN (n + 1) f = sumN n f + f n := by
 unfold sumN; rw [List.range_succ, List.map_append, zlD]; simp [zsum]
theorem sumN_congr {n : Nat} {f g : Nat → Int} (h : ∀ t, t < n → f t = g t) : sumN n f = sumN n g := by
 induction n with
 | zero => rfl
 | succ n ih => rw [zsD, zsD, ih (fun t ht => h t (by omega)), h n (by omega)]
theorem zIE {α : Type} {c j : Nat} {d : α} (hj : j < c) : ∀ {L : List (List α)} {i : Nat}, (∀ x ∈ L, x.length = c) → i < L.length → L.flatten.getD (i * c + j) d = (L.getD i []).getD j d
 | [], i, _, h => by simp at h
 | a :: L, 0, hL, _ => by
  have ha : a.length = c := hL a (by simp); simp only [List.flatten_cons, Nat.zero_mul, Nat.zero_add, List.getD_cons_zero]; rw [List.getD_eq_getElem?_getD, List.getD_eq_getElem?_getD, List.getElem?_append_left (by omega)]
 | a :: L, i + 1, hL, h => by
  have ha : a.length = c := hL a (by simp); have h2 : (i + 1) * c = i * c + c := by rw [Nat.add_mul, Nat.one_mul]
  have := zIE hj (L := L) (i := i) (d := d) (fun x hx => hL x (by simp [hx])) (by simpa using h); simp only [List.flatten_cons, List.getD_cons_succ]; rw [← this, List.getD_eq_getElem?_getD, List.getD_eq_getElem?_getD, List.getElem?_append_right (by omega), show (i + 1) * c + j - a.length = i * c + j by omega]
theorem zwE {r c : Nat} {xs ys : List Int} (hx : xs.length = r * c) (hy : ys.length = r * c) (h : ∀ i j, i < r → j < c → xs.getD (i * c + j) 0 = ys.getD (i * c + j) 0) : xs = ys := by
 apply List.ext_getElem
 ·omega
 ·intro t h1 h2
  have hc : 0 < c := by
   rcases Nat.eq_zero_or_pos c with q | q
   ·subst q; simp at hx; omega
   ·exact q
  have e := h (t / c) (t % c) (by rw [Nat.div_lt_iff_lt_mul hc]; omega) (Nat.mod_lt _ hc); have e2 : t / c * c + t % c = t := by rw [Nat.mul_comm]; exact Nat.div_add_mod t c
  rw [e2] at e
  simpa [h1, h2] using e
theorem dotv_sum {m : Nat} {xs ys : List Int} (hx : xs.length = m) : dotv xs ys = sumN m (fun t => xs.getD t 0 * ys.getD t 0) := by
 unfold dotv sumN; rw [hx]
theorem zxD {r m c i j : Nat} {xs ys : List Int} (hx : xs.length = r * m) (hi : i < r) (hj : j < c) : (zeC r m c xs ys).getD (i * c + j) 0 = sumN m (fun t => xs.getD (i * m + t) 0 * ys.getD (t * c + j) 0) := by
 unfold zeC; rw [zIE hj (by intro x hx'; simp only [List.mem_map] at hx'; obtain ⟨row, _, rfl⟩ := hx'; simp [colsL]) (by simp [rowsL]; exact hi)]; have e1 : ((rowsL r m xs).map fun row => (colsL m c ys 0).map (dotv row)).getD i [] = (colsL m c ys 0).map (dotv ((xs.drop (i * m)).take m)) := by simp [rowsL, hi]
 rw [e1]; have e2 : ((colsL m c ys 0).map (dotv ((xs.drop (i * m)).take m))).getD j 0 = dotv ((xs.drop (i * m)).take m) (colL c ys 0 m j) := by simp [colsL, hj]
 rw [e2]; have h5 : (i + 1) * m ≤ r * m := Nat.mul_le_mul_right m hi; have h6 : (i + 1) * m = i * m + m := by rw [Nat.add_mul, Nat.one_mul]
 rw [dotv_sum (m := m) (by simp; omega)]; refine sumN_congr (fun t ht => ?_); have e3 : ((xs.drop (i * m)).take m).getD t 0 = xs.getD (i * m + t) 0 := by
  rw [List.getD_eq_getElem?_getD, List.getD_eq_getElem?_getD, List.getElem?_take, if_pos ht, List.getElem?_drop]
 have e4 : (colL c ys 0 m j).getD t 0 = ys.getD (t * c + j) 0 := by simp [colL, ht]
 rw [e3, e4]
theorem znG {r c i j : Nat} (hi : i < r) (hj : j < c) : i * c + j < r * c := by
 have h5 : (i + 1) * c ≤ r * c := Nat.mul_le_mul_right c hi; have h6 : (i + 1) * c = i * c + c := by rw [Nat.add_mul, Nat.one_mul]
 omega
theorem zZF {n i t k : Nat} (ht : t < n) (hk : k < n) : i * n + t = k * n + k ↔ i = k ∧ t = k := by
 refine ⟨fun h => ?_, fun ⟨a, b⟩ => by rw [a, b]⟩; rcases Nat.lt_trichotomy i k with q | q | q
 ·have h5 : (i + 1) * n ≤ k * n := Nat.mul_le_mul_right n q
  have h6 : (i + 1) * n = i * n + n := by rw [Nat.add_mul, Nat.one_mul]
  omega
 ·subst q
  exact ⟨rfl, by omega⟩
 ·have h5 : (k + 1) * n ≤ i * n := Nat.mul_le_mul_right n q
  have h6 : (k + 1) * n = k * n + n := by rw [Nat.add_mul, Nat.one_mul]
  omega
theorem zSF {n i t : Nat} (hi : i < n) (ht : t < n) : ∀ k, k ≤ n → (ziB n k).getD (i * n + t) 0 = if i = t ∧ i < k then 1 else 0
 | 0, _ => by
  rw [if_neg (by omega)]; simp [ziB, znG hi ht]
 | k + 1, hk => by
  have ih := zSF hi ht k (by omega); rw [ziB, List.getD_eq_getElem?_getD]
  by_cases q : i * n + t = k * n + k
  ·have := (zZF ht (by omega)).1 q
   rw [q, List.getElem?_set_self (by rw [zrA]; exact znG (by omega) (by omega)), if_pos (by omega)]
   rfl
  ·rw [List.getElem?_set_ne (by omega), ← List.getD_eq_getElem?_getD, ih]
   have h2 : ¬ (i = k ∧ t = k) := fun h => q ((zZF ht (by omega)).2 h)
   by_cases p : i = t ∧ i < k
   ·rw [if_pos p, if_pos (by omega)]
   ·rw [if_neg p, if_neg (by omega)]
theorem unit_at {n i t : Nat} (hi : i < n) (ht : t < n) : (ziB n n).getD (i * n + t) 0 = if t = i then 1 else 0 := by
 rw [zSF hi ht n (Nat.le_refl _)]
 by_cases p : t = i
 ·rw [if_pos p, if_pos (by omega)]
 ·rw [if_neg p, if_neg (by omega)]
def zYB (zss : List (List Int)) (i : Nat) : List Int := zss.getD i []
def Wide (c : Nat) (m : List (List Int)) : Prop := ∀ r ∈ m, r.length = c
theorem Wide.at {c i : Nat} {m : List (List Int)} (h : Wide c m) (hi : i < m.length) : (zYB m i).length = c := by
 have e : zYB m i = m[i] := by simp [zYB, hi]
 rw [e]; exact h _ (List.getElem_mem hi)
theorem zPD {r c : Nat} {zs : List Int} : (rowsL r c zs).length = r := by simp [rowsL]
open Go.RowKit
def Ty (T : TypeId) (w w' : World) : Prop := w.heap.size ≤ w'.heap.size ∧ ∀ (b : Nat) (L : Array Value) (T' : TypeId) (fr : Nat × Nat), w.heap[b]? = some (.cells L T' fr) → T' ≠ T → w'.heap[b]? = some (.cells L T' fr)
theorem Ty.of {T : TypeId} {w w' : World} (h : Below w.heap.size w w') : Ty T w w' := ⟨h.size, fun b L T' fr e _ => (h.block b (Array.getElem?_eq_some_iff.1 e).1).trans e⟩
theorem Ty.trans {T : TypeId} {a b c : World} (h : Ty T a b) (h' : Ty T b c) : Ty T a c := ⟨Nat.le_trans h.1 h'.1, fun g L T' fr e hne => h'.2 g L T' fr (h.2 g L T' fr e hne) hne⟩
theorem Ty.set {T : TypeId} {w : World} {g i : Nat} {L : List Value} {u : Value} (d : Cel w g T L) : Ty T w (w.setCell ⟨g, i, none⟩ u) := by
 refine ⟨by simp, fun b L' T' fr e hne => ?_⟩; have hb : b ≠ g := fun q => by
  subst q; have := e.symm.trans (show w.heap[b]? = _ from d); simp at this; exact hne this.2.1
 exact (Below.heap_setCell w _ u b (fun q => hb (by simpa using q))).trans e
theorem Ty.grown {T : TypeId} {w w' : World} {B size n : Nat} {v : Value} {xs : List Value} (h : w.ownsRow B T size v n xs) (hg : w.grownBy w' v.ownBlock) : Ty T w w' := by
 refine ⟨hg.size, fun b L' T' fr e hne => (hg.block b (Array.getElem?_eq_some_iff.1 e).1 (fun q => ?_)).trans e⟩; obtain ⟨_, ⟨q1, _⟩ | ⟨g, cap, cur, q1, _, q3, _⟩⟩ := h
 ·rw [q1] at q; cases q
 ·rw [q1] at q
  simp only [Value.ownBlock, Option.some.injEq] at q; subst q; have := e.symm.trans q3; simp at this; exact hne this.2.1
theorem Zm.ty {T : TypeId} {B k : Nat} {w w' : World} {v : Value} {z : Int} (h : Zm B w v z k) (ht : Ty T w w') (hT : 70 ≠ T) : Zm B w' v z k := by
 obtain ⟨n1, zs, a, c, e, hm, rest⟩ := h; refine ⟨n1, zs, a, c, e, ?_, rest⟩; obtain ⟨hw, h | ⟨g, r, cap, h1, h2, h3, h4, h5, h6⟩⟩ := hm
 ·exact ⟨hw, .inl h⟩
 ·exact ⟨hw, .inr ⟨g, r, cap, h1, h2, h3, h4, h5, ht.2 g _ _ _ h6 hT⟩⟩
def PrsT (w : World) (v : Value) (ps : List (Value × Value)) : Prop := Prs 0 w v ps ∧ ∀ (b off l c : Nat), v = .slice (some ⟨b, off, none⟩) l c → ∃ (L : Array Value) (fr : Nat × Nat), w.heap[b]? = some (.cells L 29 fr)
theorem Arr.prsT {w : World} {g : Nat} {ps : List (Value × Value)} (h : Arr w g ps) (hl : ps.length ≤ 1048576) : PrsT w (.slice (some ⟨g, 0, none⟩) ps.length ps.length) ps := by
 refine ⟨h.prs (Nat.zero_le _) hl (Nat.le_refl _), fun b off l c e => ?_⟩; simp only [Value.slice.injEq, Option.some.injEq, Addr.mk.injEq] at e; obtain ⟨⟨rfl, -, -⟩, -, -⟩ := e; exact ⟨_, _, h.1⟩
def Zms (w : World) (ps : List (Value × Value)) (zs : List Int) (k : Nat) : Prop := ps.length = zs.length ∧ ∀ (j : Nat) (p : Value × Value) (z : Int), ps[j]? = some p → zs[j]? = some z → Zm 0 w (.agg #[p.1, p.2]) z k
theorem Zms.ty {T : TypeId} {w w' : World} {ps : List (Value × Value)} {zs : List Int} {k : Nat} (h : Zms w ps zs k) (ht : Ty T w w') (hT : 70 ≠ T) : Zms w' ps zs k := ⟨h.1, fun j p z hp hz => (h.2 j p z hp hz).ty ht hT⟩
theorem Zms.now {w w' : World} {ps : List (Value × Value)} {zs : List Int} {k : Nat} (h : Zms w ps zs k) (hb : Below w.heap.size w w') : Zms w' ps zs k := ⟨h.1, fun j p z hp hz => (h.2 j p z hp hz).now hb⟩
theorem Zms.zcs {w : World} {ps : List (Value × Value)} {zs : List Int} {k : Nat} (h : Zms w ps zs k) : Zcs w ps zs k := ⟨h.1, fun j p z hp hz => (h.2 j p z hp hz).zc⟩
theorem Zms.append {w : World} {ps qs : List (Value × Value)} {zs ys : List Int} {k : Nat} (h : Zms w ps zs k) (h' : Zms w qs ys k) : Zms w (ps ++ qs) (zs ++ ys) k := by
 refine ⟨by simp [h.1, h'.1], fun j p z hp hz => ?_⟩
 by_cases q : j < ps.length
 ·rw [List.getElem?_append_left q] at hp
  rw [List.getElem?_append_left (by rw [← h.1]; exact q)] at hz; exact h.2 j p z hp hz
 ·rw [List.getElem?_append_right (by omega)] at hp
  rw [List.getElem?_append_right (by rw [← h.1]; omega), ← h.1] at hz; exact h'.2 _ p z hp hz
def FilM (wx : World) (g n i : Nat) (F : Nat → Int) (k : Nat) : Prop := ∃ ps, Arr wx g ps ∧ ps.length = n ∧ ∀ (j : Nat) (p : Value × Value), j < i → ps[j]? = some p → Zm 0 wx (.agg #[p.1, p.2]) (F j) k
theorem FilM.start {w : World} {g n : Nat} (h : Arr w g (List.replicate n zzA)) (F : Nat → Int) (k : Nat) : FilM w g n 0 F k := ⟨_, h, by simp, fun j p hj => by omega⟩
theorem FilM.step {w w' : World} {g n i : Nat} {F : Nat → Int} {k : Nat} (h : FilM w g n i F k) (hb : Below w.heap.size w w') : FilM w' g n i F k := by
 obtain ⟨ps, h1, h2, h3⟩ := h; exact ⟨ps, h1.step hb, h2, fun j p hj hp => (h3 j p hj hp).now hb⟩
theorem FilM.put {w : World} {g n i : Nat} {F : Nat → Int} {k : Nat} {x y : Value} (h : FilM w g n i F k) (hi : i < n) (hz : Zm 0 w (.agg #[x, y]) (F i) k) : FilM ((w.setCell ⟨g, i * 2, none⟩ x).setCell ⟨g, i * 2 + 1, none⟩ y) g n (i + 1) F k := by
 obtain ⟨ps, h1, h2, h3⟩ := h; have ht : Ty 29 w ((w.setCell ⟨g, i * 2, none⟩ x).setCell ⟨g, i * 2 + 1, none⟩ y) := (Ty.set h1.1).trans (Ty.set (h1.1.set _ _)); refine ⟨ps.set i (x, y), h1.put (by omega) hz.zi.isI, by simpa using h2, fun j p hj hp => ?_⟩
 by_cases q : j = i
 ·subst q
  rw [List.getElem?_set_self (by omega), Option.some.injEq] at hp; subst hp; exact hz.ty ht (by decide)
 ·rw [List.getElem?_set_ne (by omega)] at hp
  exact (h3 j p (by omega) hp).ty ht (by decide)
theorem FilM.cells {w : World} {g n i j : Nat} {F : Nat → Int} {k : Nat} (h : FilM w g n i F k) (hj : j < n) : ∃ m a l c, w.cell? ⟨g, j * 2, none⟩ = some (.bool m) ∧ w.cell? ⟨g, j * 2 + 1, none⟩ = some (.slice a l c) ∧ w.frozen? ⟨g, j * 2, none⟩ = false ∧ w.frozen? ⟨g, j * 2 + 1, none⟩ = false := by
 obtain ⟨ps, h1, h2, h3⟩ := h; have hp : ps[j]? = some (ps[j]'(by omega)) := List.getElem?_eq_getElem (by omega); obtain ⟨m, a, l, c, e⟩ := h1.2 _ (List.getElem_mem (l := ps) (n := j) (by omega)); have q := h1.at hp; rw [e] at q; exact ⟨m, a, l, c, q.1, q.2, h1.1.fz _, h1.1.fz _⟩
theorem FilM.done {w : World} {g n : Nat} {F : Nat → Int} {k : Nat} (h : FilM w g n n F k) (hn : n ≤ 1048576) : ∃ ps, PrsT w (.slice (some ⟨g, 0, none⟩) n n) ps ∧ Zms w ps ((List.range n).map F) k := by
 obtain ⟨ps, h1, rfl, h3⟩ := h; refine ⟨ps, h1.prsT hn, by simp, fun j p z hp hz => ?_⟩; have hj : j < ps.length := (List.getElem?_eq_some_iff.1 hp).1; rw [List.getElem?_map, List.getElem?_range hj, Option.map_some, Option.some.injEq] at hz; subst hz; exact h3 j p hj hp
def zKF (w : World) (zs : List Int) (k : Nat) (e : Ending) (w' : World) : Prop := ∃ u ps, e = .returned u ∧ PrsT w' u ps ∧ Zms w' ps zs k ∧ Below w.heap.size w w'
end Go.Proofs.YtakkmpkkoecnhaaGreat
