/-
 QFil9ToCat9: Fil9, Tail, Dot9, Rows9, RowsOf9, Cat9, joined.
-/
import Derived.Test.YtkklldokdnfkgaaGreatQZStoreToLst9
import Derived.Deep.LoopGhost
import Derived.Test.YtkklldokdnfkgaaGreatQWordsToCarry
import Derived.Deep.RegionHeld3
import Derived.StillTail
import Derived.Lib.AppendZeros
import Derived.Laws.AppendOwnNone

set_option maxRecDepth 100000
set_option maxHeartbeats 6400000
set_option linter.unusedVariables false
set_option linter.unusedSimpArgs false
namespace Go.Proofs.YtkklldokdnfkgaaGreat
open Go.RowKit
theorem Zl.form9 {w : World} {v : Value} {zs : List Int} {k : Nat} (h : Zl w v zs k) : ∃ a c,v = .slice a zs.length c ∧ zs.length ≤ c ∧ zs.length ≤ 1048576 ∧ (zs ≠ [] → ∃ b off,a = some ⟨b,off,none⟩) := by
 obtain ⟨a,c,h1,h2,h3,h4⟩ := h;refine ⟨a,c,h1,h2,h3,fun hne => ?_⟩;rcases h4 with h4 | ⟨b,off,h5,_⟩
 ·exact absurd h4 hne
 ·exact ⟨b,off,h5⟩
theorem Zl.at9 {w : World} {b off l c : Nat} {zs : List Int} {k : Nat} (h : Zl w (.slice (some ⟨b,off,none⟩) l c) zs k) {i : Nat} (hi : i < zs.length) : ∃ n,∃ xs : List Int,∃ a c,w.cell? ⟨b,off + i * 2,none⟩ = some (.bool n) ∧ w.cell? ⟨b,off + i * 2 + 1,none⟩ = some (.slice a xs.length c) ∧ Zi w (.agg #[.bool n,.slice a xs.length c]) zs[i] k := by
 obtain ⟨a',c',h1,h2,h3,h4⟩ := h;rcases h4 with h4 | ⟨b',off',h5,h6,h7⟩
 ·subst h4;simp at hi
 ·simp only [Value.slice.injEq] at h1
  obtain ⟨rfl,-,-⟩ := h1;simp only [Option.some.injEq,Addr.mk.injEq,and_true] at h5;obtain ⟨rfl,rfl⟩ := h5;obtain ⟨x,y,q1,q2,q3⟩ := h7 i hi;have q3' := q3;obtain ⟨n,xs,a,c,e,-⟩ := q3;simp only [Value.agg.injEq,Array.mk.injEq,List.cons.injEq,and_true] at e;obtain ⟨rfl,rfl⟩ := e;rw [Nat.mul_comm 2 i] at q1 q2;exact ⟨n,xs,a,c,q1,q2,q3'⟩
theorem Zm.parts {B : Nat} {w : World} {v : Value} {z : Int} {k : Nat} (h : Zm B w v z k) : ∃ n,∃ xs : List Int,∃ a c,v = .agg #[.bool n,.slice a xs.length c] := by
 obtain ⟨n,xs,a,c,e,-⟩ := h;exact ⟨n,xs,a,c,e⟩
theorem sIb {α : Type _} (l : List α) (i : Nat) (a : α) : l.toArray.setIfInBounds i a = (l.set i a).toArray := List.setIfInBounds_toArray l i a
theorem sC0 {α : Type _} {a b : α} {l : List α} : (a :: l).set 0 b = b :: l := List.set_cons_zero
theorem sC1 {α : Type _} {a b : α} {n : Nat} {l : List α} : (a :: l).set (n + 1) b = a :: l.set n b := List.set_cons_succ
section
variable {P : Program} {ops : Array Oper} {Q : Exit → Act → World → Prop} {md : Region.Mode} {S : World → Prop} {n : Nat}
def zmA (P : Program) (md : Region.Mode) (ops : Array Oper) (Q : Exit → Act → World → Prop) (S : World → Prop) (n : Nat) : Nat → Array Bool → Act → World → Prop
 | 0,listed,a,w => Region.ready md ops listed = [] ∧ Q .normal a w
 | fuel + 1,listed,a,w =>
  (Region.ready md ops listed = [] → Q .normal a w) ∧
  ∀ i ∈ Region.ready md ops listed,wpOp P ops Q i (fun a' w' => (i < n → S w') ∧ zmA P md ops Q S n fuel (listed.setIfInBounds i true) a' w') a w
theorem zpC : ∀ (fuel : Nat) (listed : Array Bool) (a : Act) (w : World),zmA P md ops Q S n fuel listed a w → wpAny P md ops Q fuel listed a w
 | 0,_,_,_,h => h
 | fuel + 1,_,_,_,h => ⟨h.1,fun i hi => wpOp_mono (fun a' w' h' => zpC fuel _ a' w' h'.2) (h.2 i hi)⟩
theorem wpAnyT_first {i : Nat} {oi : Oper} {v : Value} (hi : ops[i]? = some oi) (hsel : ∀ (j : Nat) (o : Oper) cs b,ops[j]? = some o → o.op ≠ .select cs b)
  (hQ : ∀ c a w,Q (.panic c) (a.put oi.dst v) w → Q (.panic c) a w)
  (hs : Region.sinkB md ops n = true) (hc : Region.chainB md ops n = true) (hn : n < ops.size) (hin : i < n) :
  ∀ (fuel : Nat) (listed : Array Bool) (a : Act) (w : World),HeadInv md ops n listed →
   (∀ j oj,ops[j]? = some oj → j ≠ i → listed.getD j true = false → (∀ e ∈ oj.after,Region.binds md e = true → e.on ≠ i) → oi.apart ops oj = true) →
   i ∈ Region.ready md ops listed → YieldsIf P ops S oi v a → S w →
   zmA P md ops Q S n fuel (listed.setIfInBounds i true) (a.put oi.dst v) w → zmA P md ops Q S n (fuel + 1) listed a w := by
 intro fuel
 induction fuel with
 | zero =>
  intro listed a w inv _ hr hy hS H;refine ⟨fun h => (by rw [h] at hr;cases hr),fun j hj => ?_⟩
  by_cases hji : j = i
  ·subst hji;exact hy.wpOp hi hS ⟨fun _ => hS,H⟩
  ·have := ready_mono hj hji
   rw [H.1] at this;cases this
 | succ fuel ih =>
  intro listed a w inv hfree hr hy hS H;have hun := (mem_ready.1 hr).1;refine ⟨fun h => (by rw [h] at hr;cases hr),fun j hj => ?_⟩;have hjn : j < n := by
   rcases Nat.lt_or_ge j n with h | h
   ·exact h
   ·exact absurd hj (tail_waits hs hc hn inv _ i rfl hin hun j h)
  by_cases hji : j = i
  ·subst hji;exact hy.wpOp hi hS ⟨fun _ => hS,H⟩
  ·have h1 := H.2 j (ready_mono hj hji)
   obtain ⟨hjun,oj,hoj,hall⟩ := mem_ready.1 hj;have hnot : ∀ e ∈ oj.after,Region.binds md e = true → e.on ≠ i := fun e he hb heq => by
    have h1 := hall e he hb;have h0 := (mem_ready.1 hr).1;rw [heq] at h1;rcases Nat.lt_or_ge i listed.size with h' | h'
    ·simp [h'] at h0 h1;rw [h0] at h1;cases h1
    ·simp [Array.getElem?_eq_none h'] at h1
   have h2 := wpOp_putIf hoj (hfree j oj hoj hji hjun hnot) (fun cs b => hsel i oi cs b hi) (fun cs b => hsel j oj cs b hoj) hQ hy h1;have hfree' : ∀ k ok,ops[k]? = some ok → k ≠ i → (listed.setIfInBounds j true).getD k true = false →
     (∀ e ∈ ok.after,Region.binds md e = true → e.on ≠ i) → oi.apart ops ok = true := fun k ok hk hki hun hno => by
    refine hfree k ok hk hki ?_ hno
    by_cases hjk : j = k
    ·subst hjk;exact hjun
    ·rw [getD_set_ne true hjk] at hun;exact hun
   refine wpOp_mono (fun a' w' h3 => ⟨fun _ => h3.2.1 hjn,ih (listed.setIfInBounds j true) a' w' (inv.set hj hjn) hfree' (ready_mono hr (Ne.symm hji)) h3.1 (h3.2.1 hjn) ?_⟩) h2;rw [Array.setIfInBounds_comm _ _ hji];exact h3.2.2
def zDI (md : Region.Mode) (ops : Array Oper) (n : Nat) (listed : Array Bool) : Bool :=
 decide (listed.size = ops.size) && (List.range ops.size).all (fun j => match ops[j]? with
  | some oj => !(listed.getD j false) || oj.after.all (fun e => !(Region.binds md e) || listed.getD e.on false)
  | none => true) && (List.range ops.size).all (fun t => decide (t < n) || !(listed.getD t true))
theorem headB_spec {listed : Array Bool} (h : zDI md ops n listed = true) : HeadInv md ops n listed := by
 unfold zDI at h;simp only [Bool.and_eq_true,decide_eq_true_eq,List.all_eq_true,List.mem_range,Bool.or_eq_true,Bool.not_eq_true'] at h;obtain ⟨⟨h1,h2⟩,h3⟩ := h;refine ⟨h1,fun j oj hj hl e he hb => ?_,fun t ht ht' => ?_⟩
 ·have h4 := h2 j (Array.getElem?_eq_some_iff.1 hj).1
  simp only [hj,Bool.or_eq_true,Bool.not_eq_true',hl,Bool.true_eq_false,false_or] at h4;have h5 := Array.all_eq_true_iff_forall_mem.1 h4 e he;simp only [Bool.or_eq_true,Bool.not_eq_true',hb,Bool.true_eq_false,false_or] at h5;exact h5
 ·rcases h3 t ht' with h4 | h4
  ·omega
  ·exact h4
theorem zAA {i : Nat} {oi : Oper} {v : Value} {fuel : Nat} {listed : Array Bool} {a : Act} {w : World} (hi : ops[i]? = some oi)
  (hok : (Region.noSelect ops && Region.free md ops listed i && (Region.ready md ops listed).contains i && Region.sinkB md ops n && Region.chainB md ops n && decide (n < ops.size) && decide (i < n) && zDI md ops n listed) = true)
  (hQ : ∀ c a w,Q (.panic c) (a.put oi.dst v) w → Q (.panic c) a w) (hy : YieldsIf P ops S oi v a) (hS : S w)
  (h : zmA P md ops Q S n fuel (listed.setIfInBounds i true) (a.put oi.dst v) w) : zmA P md ops Q S n (fuel + 1) listed a w := by
 simp only [Bool.and_eq_true,decide_eq_true_eq] at hok;obtain ⟨⟨⟨⟨⟨⟨⟨h1,h2⟩,h3⟩,h4⟩,h5⟩,h6⟩,h7⟩,h8⟩ := hok;exact wpAnyT_first hi (Region.noSelect_spec h1) hQ h4 h5 h6 h7 fuel listed a w (headB_spec h8) (Region.free_spec hi h2) (by simpa using h3) hy hS h
theorem zCA {i : Nat} {o : Oper} {fuel : Nat} {listed : Array Bool} {a : Act} {w : World} (hr : Region.ready md ops listed = [i]) (ho : ops[i]? = some o)
  (h : ∀ K' : Act → World → Prop,Shut (∀ a w,(i < n → S w) → zmA P md ops Q S n fuel (listed.setIfInBounds i true) a w → K' a w) → if Region.wanted o (yielded ops a.tmps) = true then Oper.wp P o a w K' Q else K' (a.put o.dst undef) w) :
  zmA P md ops Q S n (fuel + 1) listed a w := by
 refine ⟨fun h0 => (by rw [hr] at h0;cases h0),fun j hj => ?_⟩;rw [hr] at hj;obtain rfl := List.mem_singleton.1 hj;exact wpOp_step ho (fun K' hK => h K' (fun a w hS hW => hK a w ⟨hS,hW⟩))
theorem zTC {i j : Nat} {oi oj : Oper} {fuel : Nat} {listed : Array Bool} {a : Act} {w : World} (hr : Region.ready md ops listed = [i,j]) (hi : ops[i]? = some oi) (hj : ops[j]? = some oj)
  (h1 : ∀ K' : Act → World → Prop,Shut (∀ a w,(i < n → S w) → zmA P md ops Q S n fuel (listed.setIfInBounds i true) a w → K' a w) → if Region.wanted oi (yielded ops a.tmps) = true then Oper.wp P oi a w K' Q else K' (a.put oi.dst undef) w)
  (h2 : ∀ K' : Act → World → Prop,Shut (∀ a w,(j < n → S w) → zmA P md ops Q S n fuel (listed.setIfInBounds j true) a w → K' a w) → if Region.wanted oj (yielded ops a.tmps) = true then Oper.wp P oj a w K' Q else K' (a.put oj.dst undef) w) :
  zmA P md ops Q S n (fuel + 1) listed a w := by
 refine ⟨fun h0 => (by rw [hr] at h0;cases h0),fun q hq => ?_⟩;rw [hr] at hq;rcases List.mem_cons.1 hq with rfl | hq
 ·exact wpOp_step hi (fun K' hK => h1 K' (fun a w hS hW => hK a w ⟨hS,hW⟩))
 ·obtain rfl := List.mem_singleton.1 hq
  exact wpOp_step hj (fun K' hK => h2 K' (fun a w hS hW => hK a w ⟨hS,hW⟩))
theorem zFA {listed : Array Bool} {a : Act} {w : World} (hr : Region.ready md ops listed = []) (h : Q .normal a w) :
  ∀ fuel,zmA P md ops Q S n fuel listed a w
 | 0 => ⟨hr,h⟩
 | _ + 1 => ⟨fun _ => h,by rw [hr];simp⟩
theorem zDA (S : World → Prop) (n : Nat) {id : Nat} {a : Act} {w : World} (hm : P.follows .mixedOrders = true)
  (h : zmA P .any ops Q S n ops.size (Array.replicate ops.size false) a w.drew) : (Code.region id ops true).wp P Q a w :=
 wp_region_any hm (zpC _ _ _ _ h)
end
theorem cnow {w w' : World} {p : Addr} {v : Value} (h : Below w.heap.size w w') (k : w.cell? p = some v) : w'.cell? p = some v := (h.cell (World.block_lt_of_cell? w p k)).trans k
theorem slice_mid (w : World) (b off n c lo hi : Nat) (h : lo ≤ hi) (h1 : hi ≤ c) (h2 : lo < c) : (Instr.slice 22 (.slice (some ⟨b,off,none⟩) n c) (some (.int .i64 (lo : Int))) (some (.int .i64 (hi : Int))) none).run Tryz.prog w = .ok (.slice (some ⟨b,off + 2 * lo,none⟩) (hi - lo) (c - lo)) w := by
 have i3 : (lo : Int) ≤ (hi : Int) := by omega
 have i1 : (0 : Int) ≤ (lo : Int) := by omega
 have i2 : (0 : Int) ≤ (hi : Int) := by omega
 have i5 : (hi : Int) ≤ (c : Int) := by omega
 have i4 : ¬ c = lo := by omega
 go_simp
theorem slice_zero (w : World) (a : Option Addr) (c : Nat) : (Instr.slice 22 (.slice a 0 c) (some (.int .i64 (0 : Int))) (some (.int .i64 (0 : Int))) none).run Tryz.prog w = .ok (.slice a 0 c) w := by
 have i5 : (0 : Int) ≤ (c : Int) := by omega
 rcases a with _ | ⟨b,off,sp⟩
 ·go_simp
 ·by_cases q : c = 0
  ·subst q;go_simp
  ·go_simp
def zWH {α : Type} (r c : Nat) (ps : List α) : List (List α) := (List.range r).map fun i => (ps.drop (i * c)).take c
theorem rowsL_at {α : Type} {r c i : Nat} {ps : List α} (h : i < r) : (zWH r c ps)[i]? = some ((ps.drop (i * c)).take c) := by simp [zWH,h]
abbrev matv (r c : Nat) (at_ : Value) : Value := .agg #[.int .i64 (r : Int),.int .i64 (c : Int),at_]
abbrev matc (r c : Nat) (at_ : Value) : List Value := [.int .i64 (r : Int),.int .i64 (c : Int),at_]
theorem cut_row {B : Nat} {w : World} {a : Option Addr} {n cap r c i : Nat} {ps : List (Value × Value)} (h : Prs B w (.slice a n cap) ps) (hl : ps.length = r * c) (hi : i < r) :
  ∃ a' cap',(∀ wx,(Instr.slice 22 (.slice a n cap) (some (.int .i64 ((i * c : Nat) : Int))) (some (.int .i64 (((i + 1) * c : Nat) : Int))) none).run Tryz.prog wx = .ok (.slice a' c cap') wx) ∧ Prs B w (.slice a' c cap') ((ps.drop (i * c)).take c) := by
 have h0 := h;obtain ⟨a',c',h1,h2,h3,-,h4⟩ := h;simp only [Value.slice.injEq] at h1;obtain ⟨rfl,rfl,rfl⟩ := h1
 by_cases hc : c = 0
 ·subst hc
  have e0 : ps = [] := List.eq_nil_of_length_eq_zero (by simpa using hl);subst e0;refine ⟨a,cap,fun wx => ?_,?_⟩
  ·simpa using slice_zero wx a cap
  ·simpa using h0
 ·rcases h4 with rfl | ⟨b,off,rfl,h5',h6,h7⟩
  ·rcases Nat.mul_eq_zero.1 (show r * c = 0 by simpa using hl.symm) with q | q <;> omega
  ·have e1 : (i + 1) * c ≤ r * c := Nat.mul_le_mul_right c hi
   have e2 : (i + 1) * c = i * c + c := by rw [Nat.add_mul,Nat.one_mul]
   refine ⟨some ⟨b,off + i * c * 2,none⟩,cap - i * c,fun wx => ?_,h0.piece (by omega)⟩;have := slice_mid wx b off ps.length cap (i * c) ((i + 1) * c) (by omega) (by omega) (by omega);rw [show (i + 1) * c - i * c = c by omega,Nat.mul_comm 2] at this;exact this
theorem zGC {i c : Nat} (hi : i ≤ 64) (hc : c ≤ 64) : IntKind.i64.wrap ((i : Int) * (c : Int)) = ((i * c : Nat) : Int) := by
 have h : i * c ≤ 64 * 64 := Nat.mul_le_mul hi hc;rw [show (i : Int) * (c : Int) = ((i * c : Nat) : Int) by simp];rw [zRA] <;> omega
theorem zQB {w w' : World} {base : Nat} {e : TypeId} {size : Nat} {v : Value} {n : Nat} {xs : List Value} (h : w.ownsRow base e size v n xs) (hk : ∀ b,v.ownBlock = some b → b < w.heap.size → w'.heap[b]? = w.heap[b]?) : w'.ownsRow base e size v n xs := by
 obtain ⟨q1,q2 | ⟨g,cap,cur,q2,q3,q4,q5⟩⟩ := h
 ·exact ⟨q1,.inl q2⟩
 ·exact ⟨q1,.inr ⟨g,cap,cur,q2,q3,(hk g (by rw [q2];rfl) (Array.getElem?_eq_some_iff.1 q4).1).trans q4,q5⟩⟩
theorem owns_prs {w : World} {B : Nat} {v : Value} {ps : List (Value × Value)} (h : w.ownsRow B 44 2 v ps.length (flat ps)) (hl : ps.length ≤ 1048576) : Prs B w v ps := by
 have h1' := h;obtain ⟨q1,⟨q2,q3⟩ | ⟨g,cap,cur,q2,q3,q4,q5,q6⟩⟩ := h
 ·rw [q2]
  have : ps = [] := List.eq_nil_of_length_eq_zero q3;subst this;exact Prs.nil _ _
 ·refine ⟨_,cap,q2,q5,hl,(fun q => by cases q),.inr ⟨g,0,rfl,q3,(Array.getElem?_eq_some_iff.1 q4).1,fun j p hp => ?_⟩⟩
  have ea : ∀ j,(⟨g,0,none⟩ : Addr).add j = ⟨g,j,none⟩ := fun j => by unfold Addr.add;split <;> simp_all
  have c0 := World.ownsRow.cells h1' (g := g) (by rw [q2];rfl) _ _ (zZC hp).1;have c1 := World.ownsRow.cells h1' (g := g) (by rw [q2];rfl) _ _ (zZC hp).2;rw [ea] at c0 c1;rw [Nat.zero_add];exact ⟨c0,c1⟩
theorem isI_one {ps : List (Value × Value)} (h : ∀ p ∈ ps,IsI p) : ∀ u ∈ flat ps,u.oneCell' = true := by
 induction ps with
 | nil => intro u hu;simp [flat] at hu
 | cons p r ih =>
  intro u hu;obtain ⟨n,a,l,c,e⟩ := h p (by simp);simp only [flat,List.mem_cons] at hu;rw [e] at hu;rcases hu with rfl | rfl | hu
  ·rfl
  ·rfl
  ·exact ih (fun q hq => h q (by simp [hq])) u hu
def OwnP (B : Nat) (w : World) (v : Value) (ps : List (Value × Value)) : Prop := w.ownsRow B 44 2 v ps.length (flat ps)
theorem wpList_append_pairs (w : World) {ops : Array Oper} {rest : List Oper} {o : Oper} {a : Act} {Q : Exit → Act → World → Prop}
  (hgd : o.guard = none) (s x : Operand) (hop : o.op = .call { callee := .builtin .append,args := #[s,x],argTypes := #[22,22] })
  (B : Nat) (v u : Value) (ps qs : List (Value × Value)) (hs : a.eval s = v) (hB : OwnP B w v ps) (hx : a.eval x = u) (B' : Nat) (hu : Prs B' w u qs) (hi : ∀ p ∈ qs,IsI p) (hlen : ps.length + qs.length ≤ 1048576) (hBs : B ≤ w.heap.size)
  (hK : ∀ v' w',OwnP B w' v' (ps ++ qs) → Hid (w.grownBy w' v.ownBlock) → wpList Tryz.prog ops Q rest (a.put o.dst v') w') :
  wpList Tryz.prog ops Q (o :: rest) a w := by
 obtain ⟨i,hii,hz,hsz,hby⟩ := info_parts Tryz.infoZ9;obtain ⟨au,cu,rfl,h2,h3,hn,h4⟩ := hu;rcases au with _ | ad
 ·have e : qs = [] := by
   rcases h4 with h4 | ⟨b,off,q,_⟩
   ·exact h4
   ·cases q
  subst e;have := hn rfl;subst this;refine wpList_append_own_none hgd s x 22 hop B 44 i 2 Tryz.underlying22 hii v ps.length (flat ps) hs hB hx ?_;have := hK v w (by simpa using hB) ⟨rfl,rfl,rfl,Nat.le_refl _,fun _ _ _ => rfl⟩;exact this
 ·refine wpList_plain hgd fun K hK' => ?_
  have hnews : ∀ j y,(flat qs)[j]? = some y → w.cell? (ad.add j) = some y := fun j y hj => by
   have hjl := (List.getElem?_eq_some_iff.1 hj).1;rw [zjC] at hjl;rcases h4 with rfl | ⟨b,off,q,_,_,hc⟩
   ·simp at hjl
   ·obtain rfl : ad = ⟨b,off,none⟩ := by simpa using q
    have ea : ∀ j,(⟨b,off,none⟩ : Addr).add j = ⟨b,off + j,none⟩ := fun j => by unfold Addr.add;split <;> simp_all
    rw [ea];have hp : qs[j / 2]? = some (qs[j / 2]'(by omega)) := List.getElem?_eq_getElem (by omega);have hf := zZC hp;have hq := hc _ _ hp;rcases Nat.mod_two_eq_zero_or_one j with m | m
    ·have e : j / 2 * 2 = j := by omega
     rw [e] at hf hq;rw [hq.1,← hf.1,hj]
    ·have e : j / 2 * 2 + 1 = j := by omega
     rw [Nat.add_assoc,e] at hq;rw [e] at hf;rw [hq.2,← hf.2,hj]
  obtain ⟨v',w',hr,k1,k2,-,-⟩ := run_append_own_at (P := Tryz.prog) w B 22 o.type 44 i (.agg #[.bool false,.slice none 0 0]) 2 32 Tryz.underlying22 hii hz hsz hby rfl (by omega) v ps.length (flat ps) hB ad qs.length cu (flat qs) (zjC qs) hnews (isI_one hi) (by unfold maxLen;omega) (by omega) hBs;unfold Oper.wp execOp;simp only [hop,resolve,invoke,builtin,Sem.run_bind,Sem.run_pure,Result.andThen_ok,List.map_toArray,List.map_cons,List.map_nil,hs,hx,hr];refine hK' _ _ (hK v' w' ?_ k2);unfold OwnP;rw [zkC,List.length_append];exact k1
theorem zQF {α : Type} {m : Nat} {pss : List (List α)} (h : ∀ ps ∈ pss,ps.length = m) (i : Nat) (hi : i ≤ pss.length) : (pss.take i).flatten.length = i * m := by
 induction i with
 | zero => simp
 | succ i ih =>
  rw [List.take_succ_eq_append_getElem (by omega),List.flatten_append,List.length_append,ih (by omega),List.flatten_cons,List.flatten_nil,List.append_nil,h _ (List.getElem_mem _),Nat.add_mul,Nat.one_mul]
theorem take_flat_succ {α : Type} {pss : List (List α)} {i : Nat} {ps : List α} (h : pss[i]? = some ps) : (pss.take (i + 1)).flatten = (pss.take i).flatten ++ ps := by
 obtain ⟨hi,e⟩ := List.getElem?_eq_some_iff.1 h;rw [List.take_succ_eq_append_getElem hi,List.flatten_append,e]
 simp
def CatA (w : World) (n m : Nat) (gk : Nat) (s3 s11 : Value) (wx : World) : Prop := ∃ i : Nat,s3 = .int .i64 ((i * m : Nat) : Int) ∧ s11 = .int .i64 (i : Int) ∧ i ≤ n ∧ gk = n - i ∧ wx = w
theorem grown_below {B : Nat} {w0 w w' : World} {v : Value} {n : Nat} {xs : List Value} (hb : Below w0.heap.size w0 w) (h : w.ownsRow w0.heap.size 44 2 v n xs) (hg : w.grownBy w' v.ownBlock) : Below w0.heap.size w0 w' := by
 refine hb.trans ⟨hg.os,hg.tape,hg.output,hg.size,fun b hb' => hg.block b (Nat.lt_of_lt_of_le hb' hb.size) (fun e => ?_)⟩;have := (World.ownsRow.lt h b e.symm).1;omega
theorem zhI {f : Func} {s : Nat} (hr : f.results = #[ResultVar.cell s 24]) {W : World} {b : Nat} {x0 x1 x2 : Value} (h : Cel W b 24 [x0,x1,x2]) (tmps : Array Value) (ht : tmps[s]? = some (.pointer (some ⟨b,0,none⟩))) :
  (results f tmps).run Tryz.prog W = .ok (.agg #[x0,x1,x2]) W := by
 simp [results,hr,go_sem,ht,h.at (i := 0) rfl,h.at (i := 1) rfl,h.at (i := 2) rfl]
theorem zeH {f : Func} {s1 s3 : Nat} (hr : f.results = #[ResultVar.cell s1 24,ResultVar.tmp s3]) {W : World} {b : Nat} {x0 x1 x2 e : Value} (h : Cel W b 24 [x0,x1,x2]) (tmps : Array Value) (ht : tmps[s1]? = some (.pointer (some ⟨b,0,none⟩))) (he : tmps[s3]? = some e) :
  (results f tmps).run Tryz.prog W = .ok (.tuple #[.agg #[x0,x1,x2],e]) W := by
 simp [results,hr,go_sem,ht,he,h.at (i := 0) rfl,h.at (i := 1) rfl,h.at (i := 2) rfl]
abbrev put3 (w : World) (b : Nat) (y0 y1 y2 : Value) : World := ((w.setCell ⟨b,0,none⟩ y0).setCell ⟨b,1,none⟩ y1).setCell ⟨b,2,none⟩ y2
theorem Cel.put3 {w : World} {b : Nat} {T : TypeId} {x0 x1 x2 : Value} (h : Cel w b T [x0,x1,x2]) (y0 y1 y2 : Value) : Cel (put3 w b y0 y1 y2) b T [y0,y1,y2] := ((h.set 0 y0).set 1 y1).set 2 y2
theorem zgA {B b : Nat} {w0 w : World} (h : Below B w0 w) (hb : B ≤ b) (y0 y1 y2 : Value) : Below B w0 (Go.Proofs.YtkklldokdnfkgaaGreat.put3 w b y0 y1 y2) := bset (bset (bset h hb) hb) hb
def NoWs (L : List Value) : Prop := ∀ u ∈ L,NoW u
theorem noWs_mat (r c : Int) (a : Option Addr) (l n : Nat) : NoWs [.int .i64 r,.int .i64 c,.slice a l n] := by
 intro u hu x e;simp at hu;rcases hu with rfl | rfl | rfl <;> simp at e
theorem Cel.wk3 {w : World} {b : Nat} {T : TypeId} {r c : Int} {a : Option Addr} {l n : Nat} (h : Cel w b T [.int .i64 r,.int .i64 c,.slice a l n]) (y0 y1 y2 : Value) : Wk w (Go.Proofs.YtkklldokdnfkgaaGreat.put3 w b y0 y1 y2) := by
 have q := noWs_mat r c a l n;exact ((h.wk (i := 0) rfl (q _ (by simp)) y0).trans ((h.set 0 y0).wk (i := 1) rfl (q _ (by simp)) y1)).trans (((h.set 0 y0).set 1 y1).wk (i := 2) rfl (q _ (by simp)) y2)
end Go.Proofs.YtkklldokdnfkgaaGreat
