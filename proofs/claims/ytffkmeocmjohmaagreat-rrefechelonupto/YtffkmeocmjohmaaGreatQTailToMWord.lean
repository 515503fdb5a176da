/-
 QTailToMWord: Tail, ZFloor, ZEuclid, ZMod, Zlaw0, ZDivs, Less6, ZMet, MWord, joined.
-/
import Derived.Test.YtffkmeocmjohmaaGreatQWordsToCarry
import Derived.Deep.RegionHeld3
import Derived.StillTail
import Derived.Test.YtffkmeocmjohmaaGreatQExact0ToCells6
import Derived.Test.YtffkmeocmjohmaaGreatQAlikeToShift
import Derived.Deep.Cut
import Derived.Test.YtffkmeocmjohmaaGreatQMulAllToOnes

set_option maxRecDepth 100000
set_option maxHeartbeats 6400000
set_option linter.unusedVariables false
set_option linter.unusedSimpArgs false
namespace Go.Proofs.YtffkmeocmjohmaaGreat
open Go.RowKit
theorem sIb {α : Type _} (l : List α) (i : Nat) (a : α) : l.toArray.setIfInBounds i a = (l.set i a).toArray := List.setIfInBounds_toArray l i a
theorem sC0 {α : Type _} {a b : α} {l : List α} : (a :: l).set 0 b = b :: l := List.set_cons_zero
theorem sC1 {α : Type _} {a b : α} {n : Nat} {l : List α} : (a :: l).set (n + 1) b = a :: l.set n b := List.set_cons_succ
section
variable {P : Program} {ops : Array Oper} {Q : Exit → Act → World → Prop} {md : Region.Mode} {S : World → Prop} {n : Nat}
def zrA (P : Program) (md : Region.Mode) (ops : Array Oper) (Q : Exit → Act → World → Prop) (S : World → Prop) (n : Nat) : Nat → Array Bool → Act → World → Prop
 | 0,listed,a,w => Region.ready md ops listed = [] ∧ Q .normal a w
 | fuel + 1,listed,a,w =>
  (Region.ready md ops listed = [] → Q .normal a w) ∧
  ∀ i ∈ Region.ready md ops listed,wpOp P ops Q i (fun a' w' => (i < n → S w') ∧ zrA P md ops Q S n fuel (listed.setIfInBounds i true) a' w') a w
theorem zSC : ∀ (fuel : Nat) (listed : Array Bool) (a : Act) (w : World),zrA P md ops Q S n fuel listed a w → wpAny P md ops Q fuel listed a w
 | 0,_,_,_,h => h
 | fuel + 1,_,_,_,h => ⟨h.1,fun i hi => wpOp_mono (fun a' w' h' => zSC fuel _ a' w' h'.2) (h.2 i hi)⟩
theorem wpAnyT_first {i : Nat} {oi : Oper} {v : Value} (hi : ops[i]? = some oi) (hsel : ∀ (j : Nat) (o : Oper) cs b,ops[j]? = some o → o.op ≠ .select cs b)
  (hQ : ∀ c a w,Q (.panic c) (a.put oi.dst v) w → Q (.panic c) a w)
  (hs : Region.sinkB md ops n = true) (hc : Region.chainB md ops n = true) (hn : n < ops.size) (hin : i < n) :
  ∀ (fuel : Nat) (listed : Array Bool) (a : Act) (w : World),HeadInv md ops n listed →
   (∀ j oj,ops[j]? = some oj → j ≠ i → listed.getD j true = false → (∀ e ∈ oj.after,Region.binds md e = true → e.on ≠ i) → oi.apart ops oj = true) →
   i ∈ Region.ready md ops listed → YieldsIf P ops S oi v a → S w →
   zrA P md ops Q S n fuel (listed.setIfInBounds i true) (a.put oi.dst v) w → zrA P md ops Q S n (fuel + 1) listed a w := by
 intro fuel
 induction fuel with
 | zero =>
  intro listed a w inv _ hr hy hS H;refine ⟨fun h => (by rw [h] at hr;cases hr),fun j hj => ?_⟩
  by_cases hji : j = i
  ·subst hji;exact hy.wpOp hi hS ⟨fun _ => hS,H⟩
  ·have := ready_mono hj hji
   rw [H.1] at this;cases this
 | succ fuel ih =>
  intro listed a w inv hfree hr hy hS H;have hun := (mem_ready.1 hr).1;refine ⟨fun h => (by rw [h] at hr;cases hr),fun j hj => ?_⟩;have hjn : j < n := by
   rcases Nat.lt_or_ge j n with h | h
   ·exact h
   ·exact absurd hj (tail_waits hs hc hn inv _ i rfl hin hun j h)
  by_cases hji : j = i
  ·subst hji;exact hy.wpOp hi hS ⟨fun _ => hS,H⟩
  ·have h1 := H.2 j (ready_mono hj hji)
   obtain ⟨hjun,oj,hoj,hall⟩ := mem_ready.1 hj;have hnot : ∀ e ∈ oj.after,Region.binds md e = true → e.on ≠ i := fun e he hb heq => by
    have h1 := hall e he hb;have h0 := (mem_ready.1 hr).1;rw [heq] at h1;rcases Nat.lt_or_ge i listed.size with h' | h'
    ·simp [h'] at h0 h1;rw [h0] at h1;cases h1
    ·simp [Array.getElem?_eq_none h'] at h1
   have h2 := wpOp_putIf hoj (hfree j oj hoj hji hjun hnot) (fun cs b => hsel i oi cs b hi) (fun cs b => hsel j oj cs b hoj) hQ hy h1;have hfree' : ∀ k ok,ops[k]? = some ok → k ≠ i → (listed.setIfInBounds j true).getD k true = false →
     (∀ e ∈ ok.after,Region.binds md e = true → e.on ≠ i) → oi.apart ops ok = true := fun k ok hk hki hun hno => by
    refine hfree k ok hk hki ?_ hno
    by_cases hjk : j = k
    ·subst hjk;exact hjun
    ·rw [getD_set_ne true hjk] at hun;exact hun
   refine wpOp_mono (fun a' w' h3 => ⟨fun _ => h3.2.1 hjn,ih (listed.setIfInBounds j true) a' w' (inv.set hj hjn) hfree' (ready_mono hr (Ne.symm hji)) h3.1 (h3.2.1 hjn) ?_⟩) h2;rw [Array.setIfInBounds_comm _ _ hji];exact h3.2.2
def zRH (md : Region.Mode) (ops : Array Oper) (n : Nat) (listed : Array Bool) : Bool :=
 decide (listed.size = ops.size) && (List.range ops.size).all (fun j => match ops[j]? with
  | some oj => !(listed.getD j false) || oj.after.all (fun e => !(Region.binds md e) || listed.getD e.on false)
  | none => true) && (List.range ops.size).all (fun t => decide (t < n) || !(listed.getD t true))
theorem headB_spec {listed : Array Bool} (h : zRH md ops n listed = true) : HeadInv md ops n listed := by
 unfold zRH at h;simp only [Bool.and_eq_true,decide_eq_true_eq,List.all_eq_true,List.mem_range,Bool.or_eq_true,Bool.not_eq_true'] at h;obtain ⟨⟨h1,h2⟩,h3⟩ := h;refine ⟨h1,fun j oj hj hl e he hb => ?_,fun t ht ht' => ?_⟩
 ·have h4 := h2 j (Array.getElem?_eq_some_iff.1 hj).1
  simp only [hj,Bool.or_eq_true,Bool.not_eq_true',hl,Bool.true_eq_false,false_or] at h4;have h5 := Array.all_eq_true_iff_forall_mem.1 h4 e he;simp only [Bool.or_eq_true,Bool.not_eq_true',hb,Bool.true_eq_false,false_or] at h5;exact h5
 ·rcases h3 t ht' with h4 | h4
  ·omega
  ·exact h4
theorem zCA {i : Nat} {oi : Oper} {v : Value} {fuel : Nat} {listed : Array Bool} {a : Act} {w : World} (hi : ops[i]? = some oi)
  (hok : (Region.noSelect ops && Region.free md ops listed i && (Region.ready md ops listed).contains i && Region.sinkB md ops n && Region.chainB md ops n && decide (n < ops.size) && decide (i < n) && zRH md ops n listed) = true)
  (hQ : ∀ c a w,Q (.panic c) (a.put oi.dst v) w → Q (.panic c) a w) (hy : YieldsIf P ops S oi v a) (hS : S w)
  (h : zrA P md ops Q S n fuel (listed.setIfInBounds i true) (a.put oi.dst v) w) : zrA P md ops Q S n (fuel + 1) listed a w := by
 simp only [Bool.and_eq_true,decide_eq_true_eq] at hok;obtain ⟨⟨⟨⟨⟨⟨⟨h1,h2⟩,h3⟩,h4⟩,h5⟩,h6⟩,h7⟩,h8⟩ := hok;exact wpAnyT_first hi (Region.noSelect_spec h1) hQ h4 h5 h6 h7 fuel listed a w (headB_spec h8) (Region.free_spec hi h2) (by simpa using h3) hy hS h
theorem zBA {i : Nat} {o : Oper} {fuel : Nat} {listed : Array Bool} {a : Act} {w : World} (hr : Region.ready md ops listed = [i]) (ho : ops[i]? = some o)
  (h : ∀ K' : Act → World → Prop,Shut (∀ a w,(i < n → S w) → zrA P md ops Q S n fuel (listed.setIfInBounds i true) a w → K' a w) → if Region.wanted o (yielded ops a.tmps) = true then Oper.wp P o a w K' Q else K' (a.put o.dst undef) w) :
  zrA P md ops Q S n (fuel + 1) listed a w := by
 refine ⟨fun h0 => (by rw [hr] at h0;cases h0),fun j hj => ?_⟩;rw [hr] at hj;obtain rfl := List.mem_singleton.1 hj;exact wpOp_step ho (fun K' hK => h K' (fun a w hS hW => hK a w ⟨hS,hW⟩))
theorem zRA {i j : Nat} {oi oj : Oper} {fuel : Nat} {listed : Array Bool} {a : Act} {w : World} (hr : Region.ready md ops listed = [i,j]) (hi : ops[i]? = some oi) (hj : ops[j]? = some oj)
  (h1 : ∀ K' : Act → World → Prop,Shut (∀ a w,(i < n → S w) → zrA P md ops Q S n fuel (listed.setIfInBounds i true) a w → K' a w) → if Region.wanted oi (yielded ops a.tmps) = true then Oper.wp P oi a w K' Q else K' (a.put oi.dst undef) w)
  (h2 : ∀ K' : Act → World → Prop,Shut (∀ a w,(j < n → S w) → zrA P md ops Q S n fuel (listed.setIfInBounds j true) a w → K' a w) → if Region.wanted oj (yielded ops a.tmps) = true then Oper.wp P oj a w K' Q else K' (a.put oj.dst undef) w) :
  zrA P md ops Q S n (fuel + 1) listed a w := by
 refine ⟨fun h0 => (by rw [hr] at h0;cases h0),fun q hq => ?_⟩;rw [hr] at hq;rcases List.mem_cons.1 hq with rfl | hq
 ·exact wpOp_step hi (fun K' hK => h1 K' (fun a w hS hW => hK a w ⟨hS,hW⟩))
 ·obtain rfl := List.mem_singleton.1 hq
  exact wpOp_step hj (fun K' hK => h2 K' (fun a w hS hW => hK a w ⟨hS,hW⟩))
theorem zEA {listed : Array Bool} {a : Act} {w : World} (hr : Region.ready md ops listed = []) (h : Q .normal a w) :
  ∀ fuel,zrA P md ops Q S n fuel listed a w
 | 0 => ⟨hr,h⟩
 | _ + 1 => ⟨fun _ => h,by rw [hr];simp⟩
theorem zFA (S : World → Prop) (n : Nat) {id : Nat} {a : Act} {w : World} (hm : P.follows .mixedOrders = true)
  (h : zrA P .any ops Q S n ops.size (Array.replicate ops.size false) a w.drew) : (Code.region id ops true).wp P Q a w :=
 wp_region_any hm (zSC _ _ _ _ h)
end
def okV (md : Region.Mode) (ops : Array Oper) (n : Nat) : Array Bool → List (Nat × Value) → Bool
 | _,[] => true
 | l,(i,_) :: r => (Region.noSelect ops && Region.free md ops l i && (Region.ready md ops l).contains i && Region.sinkB md ops n && Region.chainB md ops n && decide (n < ops.size) && decide (i < n) && zRH md ops n l) && okV md ops n (l.setIfInBounds i true) r
def lisV : Array Bool → List (Nat × Value) → Array Bool
 | l,[] => l
 | l,(i,_) :: r => lisV (l.setIfInBounds i true) r
def actV (ops : Array Oper) : Act → List (Nat × Value) → Act
 | a,[] => a
 | a,(i,v) :: r => match ops[i]? with
  | some o => actV ops (a.put o.dst v) r
  | none => a
def zJA (P : Program) (ops : Array Oper) (S : World → Prop) : Act → List (Nat × Value) → Prop
 | _,[] => True
 | a,(i,v) :: r => match ops[i]? with
  | some o => YieldsIf P ops S o v a ∧ zJA P ops S (a.put o.dst v) r
  | none => False
section
variable {P : Program} {ops : Array Oper} {Q : Exit → Act → World → Prop} {md : Region.Mode} {S : World → Prop} {n : Nat}
theorem zDB (hQ : ∀ c d v a w,Q (.panic c) (a.put d v) w → Q (.panic c) a w) : ∀ (vs : List (Nat × Value)) (fuel : Nat) (listed : Array Bool) (a : Act) (w : World),okV md ops n listed vs = true → zJA P ops S a vs → S w → zrA P md ops Q S n fuel (lisV listed vs) (actV ops a vs) w → zrA P md ops Q S n (fuel + vs.length) listed a w
 | [],fuel,listed,a,w,_,_,_,h => h
 | (i,v) :: r,fuel,listed,a,w,hok,hy,hS,h => by
  rw [okV,Bool.and_eq_true] at hok;cases e : ops[i]? with
  | none => simp only [zJA,e] at hy
  | some o =>
   simp only [zJA,e] at hy;simp only [actV,e,lisV] at h;exact zCA (fuel := fuel + r.length) e hok.1 (fun c a w hq => hQ c _ _ a w hq) hy.1 hS (zDB hQ r fuel _ _ w hok.2 hy.2 hS h)
theorem zDA {fuel : Nat} {listed : Array Bool} {a : Act} {w : World} (vs : List (Nat × Value)) (m : Nat) (hy : zJA P ops S a vs) (hS : S w)
  (h : zrA P md ops Q S n fuel (lisV listed vs) (actV ops a vs) w) (hm : vs.length = m := by rfl) (hok : okV md ops n listed vs = true := by kernel_rfl) (hQ : ∀ c d v a w,Q (.panic c) (a.put d v) w → Q (.panic c) a w := by (intro _ d _ _ _ h;cases d <;> exact h)) : zrA P md ops Q S n (fuel + m) listed a w := by
 subst hm;exact zDB hQ vs fuel listed a w hok hy hS h
end
theorem sI9 {α : Type _} (l : List α) (i : Nat) (a : α) : l.toArray.setIfInBounds i a = (l.set i a).toArray := List.setIfInBounds_toArray l i a
theorem s09 {α : Type _} {a b : α} {l : List α} : (a :: l).set 0 b = b :: l := List.set_cons_zero
theorem s19 {α : Type _} {a b : α} {n : Nat} {l : List α} : (a :: l).set (n + 1) b = a :: l.set n b := List.set_cons_succ
theorem g09 {α : Type _} {a : α} {l : List α} : (a :: l)[0]? = some a := List.getElem?_cons_zero
theorem g19 {α : Type _} {a : α} {n : Nat} {l : List α} : (a :: l)[n + 1]? = l[n]? := List.getElem?_cons_succ
theorem gA9 {α : Type _} {l : List α} {n : Nat} : l.toArray[n]? = l[n]? := List.getElem?_toArray



theorem zuF {x y : Int} (hx : -1 ≤ x ∧ x ≤ 1) (hy : -1 ≤ y ∧ y ≤ 1) : IntKind.i64.wrap (x * y) = x * y := by
 obtain ⟨h1,h2⟩ := hx;obtain ⟨h3,h4⟩ := hy;rcases (show x = -1 ∨ x = 0 ∨ x = 1 by omega) with rfl | rfl | rfl <;> rw [zmA] <;> omega
theorem cmp_cases (a b : Int) : (a < b ∧ cmpI a b = -1) ∨ (a = b ∧ cmpI a b = 0) ∨ (b < a ∧ cmpI a b = 1) := by
 rcases Int.lt_trichotomy a b with h | h | h
 ·exact .inl ⟨h,zUB h⟩
 ·subst h;exact .inr (.inl ⟨rfl,cmpI_self a⟩)
 ·exact .inr (.inr ⟨h,zMB h⟩)
theorem zyB (w : World) (o1 : Obj) : Below w.heap.size w (w.alloc o1) ∧ (w.alloc o1).heap.size = w.heap.size + 1 := ⟨(Below.refl _ _).alloc (Nat.le_refl _) _,by simp⟩
theorem znC {w : World} {v u : Value} {z y : Int} {k l : Nat} (h0 : Zi w v z k) (h1 : Zi w u y l) (hy : y = 0) : Calls Tryz.prog 75 #[v,u] w (zeE 4 w 0 k) :=
 (exact_zero_z h0 h1 hy).mono fun e w' ⟨h1,h2⟩ => ⟨_,h1,zm_nil _ _ _,h2⟩
theorem zsA {w : World} {v u : Value} {z y : Int} {k l : Nat} (h0 : Zi w v z k) (h1 : Zi w u y l) (hy : y ≠ 0) (hk : k ≤ 1099511627776) (hl : l ≤ 1099511627776) (hr : z.tmod y = 0) : Calls Tryz.prog 75 #[v,u] w (zeE 0 w (z.tdiv y) k) :=
 (exact_z h0 h1 hy hk hl).mono fun e w' h => by
  rcases h with ⟨_,h⟩ | ⟨h,_⟩
  ·exact h
  ·exact absurd hr h
theorem zzA {x0 x1 y0 y1 : Value} (h : #[x0,x1] = #[y0,y1]) : x0 = y0 ∧ x1 = y1 := by simpa using h
theorem Zi.comp {w : World} {v0 v1 : Value} {z : Int} {k : Nat} (h : Zi w (.agg #[v0,v1]) z k) : ∃ n,∃ xs : List Int,∃ a c,v0 = .bool n ∧ v1 = .slice a xs.length c := by
 obtain ⟨n,xs,a,c,e,_⟩ := h;obtain ⟨e1,e2⟩ := zzA (show #[v0,v1] = _ by simpa using e);exact ⟨n,xs,a,c,e1,e2⟩
theorem zIC {w : World} {b : Nat} {T : TypeId} {L : List Value} (hb : w.heap.size = b) : Cel (w.alloc (.cells L.toArray T)) b T L := by subst hb;exact Cel.new w T L
theorem ztB {w : World} {b : Nat} {T : TypeId} {L : List Value} (h : Cel w b T L) (o : Obj) : Cel (w.alloc o) b T L := h.step ((Below.refl _ _).alloc (Nat.le_refl _) o)
theorem Row.cel {w : World} {g b i : Nat} {L : List Value} {T : TypeId} {M : List Value} {u : Value} (h : Row w g L) (d : Cel w b T M) (hT : T ≠ 120) : Row (w.setCell ⟨b,i,none⟩ u) g L := by
 have hne : g ≠ b := fun e => by
  subst e;have := (show w.heap[g]? = _ from h).symm.trans (show w.heap[g]? = _ from d);simp at this;exact hT this.2.symm
 exact (Below.heap_setCell w _ u g (fun e => hne (by simpa using e))).trans h
theorem Mine.cel {B : Nat} {w : World} {v : Value} {zs : List Int} (h : Mine B w v zs) {b i : Nat} {T : TypeId} {M : List Value} {u : Value} (d : Cel w b T M) (hT : T ≠ 120) : Mine B (w.setCell ⟨b,i,none⟩ u) v zs := by
 obtain ⟨hw,h | ⟨g,r,cap,h1,h2,h3,h4,h5,h6⟩⟩ := h
 ·exact ⟨hw,.inl h⟩
 ·exact ⟨hw,.inr ⟨g,r,cap,h1,h2,h3,h4,h5,h6.cel d hT⟩⟩
theorem Zm.cel {B : Nat} {w : World} {v : Value} {z : Int} {k : Nat} (h : Zm B w v z k) {b i : Nat} {T : TypeId} {M : List Value} {u : Value} (d : Cel w b T M) (hT : T ≠ 120) : Zm B (w.setCell ⟨b,i,none⟩ u) v z k := by
 obtain ⟨n,xs,a,c,h1,h2,h3⟩ := h;exact ⟨n,xs,a,c,h1,h2.cel d hT,h3⟩
def MetB (W wx : World) (s1 : Value) (z : Int) (k : Nat) : Prop :=
 ∃ bk n,∃ x : List Int,∃ a c,s1 = .pointer (some ⟨bk,0,none⟩) ∧ Below W.heap.size W wx ∧ W.heap.size ≤ bk ∧ bk < wx.heap.size ∧ Duo wx bk (.bool n) (.slice a x.length c) ∧ Zm W.heap.size wx (.agg #[.bool n,.slice a x.length c]) z k
theorem zJG {W w2 : World} {bk B : Nat} {n : Bool} {t : List Int} {a : Option Addr} {c k : Nat} {z : Int} (D : Duo w2 bk (.bool false) (.slice none 0 0)) (M : Zm B w2 (.agg #[.bool n,.slice a t.length c]) z k) (HP : Below W.heap.size W w2) (h1 : W.heap.size ≤ bk) (h2 : W.heap.size ≤ B) :
  MetB W ((w2.setCell ⟨bk,0,none⟩ (.bool n)).setCell ⟨bk,1,none⟩ (.slice a t.length c)) (.pointer (some ⟨bk,0,none⟩)) z k :=
 ⟨bk,n,t,a,c,rfl,bset (bset HP h1) h1,h1,(D.set _ _).blk,D.set _ _,(M.box D _ _).mono h2⟩
theorem zJD {w : World} {va : Value} {xs : List Int} (ha : Sl w.heap.size w va xs) {W : Int} (hW : IsW W) (hl : xs.length < 35184372088832) :
  Calls Tryz.prog 159 #[va,.int .u64 W] w (zmB w (val xs * W)) := by
 obtain ⟨a,ca,rfl⟩ : ∃ a ca,va = .slice a xs.length ca := by obtain ⟨_,a,ca,e,_⟩ := ha;exact ⟨a,ca,e⟩
 have HT1 := hid (zSB ha);have l1 := zSA xs;have SX := hid (ha.taken l1)
 change Hid (Sl w.heap.size w _ (lst xs)) at SX
 have CX := hid (canon_lst ha.1);have LX := hid (zHA xs);rw [← val_lst xs];generalize lst xs = X at *;generalize wid xs = n at *;clear ha;have HW := hid hW;go_enter Tryz.func159,Tryz.ntmps159;go_wp2_with fail;refine HT1.out.mono ?_;rintro e w1 ⟨rfl,rfl⟩;clear HT1;go_wp2_with (at_make;refine wpList_make_words _ rfl _ _ rfl _ _ (n + 1) (n + 1) rfl rfl (by omega) (by omega) (Nat.le_refl _) (by omega) ?_)
 intro w2 hrow hb2 hsz2;have HA := hid (zGD (o := 0) (len := n + 1) (cap := n + 1) (r := []) (zKD (n + 1)) (by simpa using hrow) (by simp;omega) (SX.out.below hb2 (Nat.le_refl _)) HW.out (by rw [LX.out];simp) (by rw [LX.out];omega));rw [LX.out] at HA;have HB2 := hid hb2;clear hrow hb2 hsz2;go_wp2_with fail;refine HA.out.mono ?_;rintro e w3 ⟨zs',c,rfl,hzl,hwz',hc,hv,hd,hr3,hb3⟩;rw [Nat.zero_add] at hv hd;have hzl' : zs'.length = n + 1 := by rw [hzl];simp
 have D3 : zs'.drop n = List.replicate (0 + 1) 0 := by rw [hd];simp
 obtain ⟨hk3,hz3⟩ := zhC D3;have c3 : w3.cell? ⟨w1.heap.size,n,none⟩ = some (.int .u64 zs'[n]) := hr3.word hk3;have cf : w3.frozen? ⟨w1.heap.size,n,none⟩ = false := hr3.frozen _;have HV4 : Hid (val (zs'.set n c) = val X * W) := by
  unfold Hid;rw [zKB zs' n c hk3,hz3];rw [zTC] at hv;have : pw 0 = 1 := rfl;rw [this] at hv
  grind
 have HR4 := hid (hr3.setWord hk3 c);have HB4 := hid ((HB2.out.trans hb3).setCell (p := ⟨w1.heap.size,n,none⟩) (Nat.le_refl _) (.int .u64 c));have HW4 := hid (hwz'.set n hc);have HL4 : Hid ((zs'.set n c).length = n + 1) := by unfold Hid;rw [List.length_set,hzl']
 generalize zs'[n] = z at *;generalize zs'.set n c = zs'' at *;clear hd D3 hr3 hb3 hv hzl hwz' HA HB2 hzl';go_wp2_with fail;have hr5 : Row (w3.setCell ⟨w1.heap.size,n,none⟩ (.int .u64 c)) w1.heap.size (ws zs'') := by simpa using HR4.out
 have hsl := Row.sl (r := []) (by simpa using hr5) HW4.out (cap := n + 1) (by rw [HL4.out];exact Nat.le_refl _) (by omega) hr5.lt;rw [HL4.out] at hsl;refine (zSB hsl).mono ?_;rintro e w5 ⟨rfl,rfl⟩;go_wp2;go_ret;exact ⟨lst zs'',_,rfl,trim_mine (Nat.le_refl _) HW4.out (by rw [HL4.out];omega) hr5,canon_lst HW4.out,by rw [val_lst];exact HV4.out,HB4.out⟩
end Go.Proofs.YtffkmeocmjohmaaGreat
