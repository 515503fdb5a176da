/-
 QFil9ToDot9: Fil9, Tail, Dot9, joined.
-/
import Derived.Test.YtkdobgbicnemcaaGreatDoorQZStoreToLst9
import Derived.Deep.LoopGhost
import Derived.Test.YtkdobgbicnemcaaGreatDoorQWordsToCarry
import Derived.Deep.RegionHeld3
import Derived.StillTail

set_option maxRecDepth 100000
set_option maxHeartbeats 6400000
set_option linter.unusedVariables false
set_option linter.unusedSimpArgs false
namespace Go.Proofs.YtkdobgbicnemcaaGreatDoor
open Go.RowKit
def Fil (wx : World) (g n i : Nat) (F : Nat → Int) (k : Nat) : Prop := ∃ ps,Arr wx g ps ∧ ps.length = n ∧ ∀ (j : Nat) (p : Value × Value),j < i → ps[j]? = some p → Zc wx (.agg #[p.1,p.2]) (F j) k
theorem Fil.start {w : World} {g n : Nat} (h : Arr w g (List.replicate n zaH)) (F : Nat → Int) (k : Nat) : Fil w g n 0 F k := ⟨_,h,by simp,fun j p hj => by omega⟩
theorem Fil.step {w w' : World} {g n i : Nat} {F : Nat → Int} {k : Nat} (h : Fil w g n i F k) (hb : Below w.heap.size w w') : Fil w' g n i F k := by
 obtain ⟨ps,h1,h2,h3⟩ := h;exact ⟨ps,h1.step hb,h2,fun j p hj hp => (h3 j p hj hp).now hb⟩
theorem Fil.put {w : World} {g n i : Nat} {F : Nat → Int} {k : Nat} {x y : Value} (h : Fil w g n i F k) (hi : i < n) (hz : Zc w (.agg #[x,y]) (F i) k) : Fil ((w.setCell ⟨g,i * 2,none⟩ x).setCell ⟨g,i * 2 + 1,none⟩ y) g n (i + 1) F k := by
 obtain ⟨ps,h1,h2,h3⟩ := h;have hw := h1.wk (i := i) (by omega) x y;refine ⟨ps.set i (x,y),h1.put (by omega) hz.zi.isI,by simpa using h2,fun j p hj hp => ?_⟩
 by_cases q : j = i
 ·subst q
  rw [List.getElem?_set_self (by omega),Option.some.injEq] at hp;subst hp;exact hz.wk hw
 ·rw [List.getElem?_set_ne (by omega)] at hp
  exact (h3 j p (by omega) hp).wk hw
theorem Fil.cells {w : World} {g n i j : Nat} {F : Nat → Int} {k : Nat} (h : Fil w g n i F k) (hj : j < n) : ∃ m a l c,w.cell? ⟨g,j * 2,none⟩ = some (.bool m) ∧ w.cell? ⟨g,j * 2 + 1,none⟩ = some (.slice a l c) ∧ w.frozen? ⟨g,j * 2,none⟩ = false ∧ w.frozen? ⟨g,j * 2 + 1,none⟩ = false := by
 obtain ⟨ps,h1,h2,h3⟩ := h;have hp : ps[j]? = some (ps[j]'(by omega)) := List.getElem?_eq_getElem (by omega);obtain ⟨m,a,l,c,e⟩ := h1.2 _ (List.getElem_mem (l := ps) (n := j) (by omega));have q := h1.at hp;rw [e] at q;exact ⟨m,a,l,c,q.1,q.2,h1.1.fz _,h1.1.fz _⟩
theorem Fil.done {w : World} {g n : Nat} {F : Nat → Int} {k : Nat} (h : Fil w g n n F k) {B : Nat} (hB : B ≤ g) (hn : n ≤ 1048576) : ∃ ps,Prs B w (.slice (some ⟨g,0,none⟩) n n) ps ∧ Zcs w ps ((List.range n).map F) k := by
 obtain ⟨ps,h1,rfl,h3⟩ := h;refine ⟨ps,h1.prs hB hn (Nat.le_refl _),by simp,fun j p z hp hz => ?_⟩;have hj : j < ps.length := (List.getElem?_eq_some_iff.1 hp).1;rw [List.getElem?_map,List.getElem?_range hj,Option.map_some,Option.some.injEq] at hz;subst hz;exact h3 j p hj hp
theorem Zl.form9 {w : World} {v : Value} {zs : List Int} {k : Nat} (h : Zl w v zs k) : ∃ a c,v = .slice a zs.length c ∧ zs.length ≤ c ∧ zs.length ≤ 1048576 ∧ (zs ≠ [] → ∃ b off,a = some ⟨b,off,none⟩) := by
 obtain ⟨a,c,h1,h2,h3,h4⟩ := h;refine ⟨a,c,h1,h2,h3,fun hne => ?_⟩;rcases h4 with h4 | ⟨b,off,h5,_⟩
 ·exact absurd h4 hne
 ·exact ⟨b,off,h5⟩
theorem Zl.at9 {w : World} {b off l c : Nat} {zs : List Int} {k : Nat} (h : Zl w (.slice (some ⟨b,off,none⟩) l c) zs k) {i : Nat} (hi : i < zs.length) : ∃ n,∃ xs : List Int,∃ a c,w.cell? ⟨b,off + i * 2,none⟩ = some (.bool n) ∧ w.cell? ⟨b,off + i * 2 + 1,none⟩ = some (.slice a xs.length c) ∧ Zi w (.agg #[.bool n,.slice a xs.length c]) zs[i] k := by
 obtain ⟨a',c',h1,h2,h3,h4⟩ := h;rcases h4 with h4 | ⟨b',off',h5,h6,h7⟩
 ·subst h4;simp at hi
 ·simp only [Value.slice.injEq] at h1
  obtain ⟨rfl,-,-⟩ := h1;simp only [Option.some.injEq,Addr.mk.injEq,and_true] at h5;obtain ⟨rfl,rfl⟩ := h5;obtain ⟨x,y,q1,q2,q3⟩ := h7 i hi;have q3' := q3;obtain ⟨n,xs,a,c,e,-⟩ := q3;simp only [Value.agg.injEq,Array.mk.injEq,List.cons.injEq,and_true] at e;obtain ⟨rfl,rfl⟩ := e;rw [Nat.mul_comm 2 i] at q1 q2;exact ⟨n,xs,a,c,q1,q2,q3'⟩
theorem Zm.parts {B : Nat} {w : World} {v : Value} {z : Int} {k : Nat} (h : Zm B w v z k) : ∃ n,∃ xs : List Int,∃ a c,v = .agg #[.bool n,.slice a xs.length c] := by
 obtain ⟨n,xs,a,c,e,-⟩ := h;exact ⟨n,xs,a,c,e⟩
theorem sIb {α : Type _} (l : List α) (i : Nat) (a : α) : l.toArray.setIfInBounds i a = (l.set i a).toArray := List.setIfInBounds_toArray l i a
theorem sC0 {α : Type _} {a b : α} {l : List α} : (a :: l).set 0 b = b :: l := List.set_cons_zero
theorem sC1 {α : Type _} {a b : α} {n : Nat} {l : List α} : (a :: l).set (n + 1) b = a :: l.set n b := List.set_cons_succ
section
variable {P : Program} {ops : Array Oper} {Q : Exit → Act → World → Prop} {md : Region.Mode} {S : World → Prop} {n : Nat}
def zwC (P : Program) (md : Region.Mode) (ops : Array Oper) (Q : Exit → Act → World → Prop) (S : World → Prop) (n : Nat) : Nat → Array Bool → Act → World → Prop
 | 0,listed,a,w => Region.ready md ops listed = [] ∧ Q .normal a w
 | fuel + 1,listed,a,w =>
  (Region.ready md ops listed = [] → Q .normal a w) ∧
  ∀ i ∈ Region.ready md ops listed,wpOp P ops Q i (fun a' w' => (i < n → S w') ∧ zwC P md ops Q S n fuel (listed.setIfInBounds i true) a' w') a w
theorem zHD : ∀ (fuel : Nat) (listed : Array Bool) (a : Act) (w : World),zwC P md ops Q S n fuel listed a w → wpAny P md ops Q fuel listed a w
 | 0,_,_,_,h => h
 | fuel + 1,_,_,_,h => ⟨h.1,fun i hi => wpOp_mono (fun a' w' h' => zHD fuel _ a' w' h'.2) (h.2 i hi)⟩
theorem wpAnyT_first {i : Nat} {oi : Oper} {v : Value} (hi : ops[i]? = some oi) (hsel : ∀ (j : Nat) (o : Oper) cs b,ops[j]? = some o → o.op ≠ .select cs b)
  (hQ : ∀ c a w,Q (.panic c) (a.put oi.dst v) w → Q (.panic c) a w)
  (hs : Region.sinkB md ops n = true) (hc : Region.chainB md ops n = true) (hn : n < ops.size) (hin : i < n) :
  ∀ (fuel : Nat) (listed : Array Bool) (a : Act) (w : World),HeadInv md ops n listed →
   (∀ j oj,ops[j]? = some oj → j ≠ i → listed.getD j true = false → (∀ e ∈ oj.after,Region.binds md e = true → e.on ≠ i) → oi.apart ops oj = true) →
   i ∈ Region.ready md ops listed → YieldsIf P ops S oi v a → S w →
   zwC P md ops Q S n fuel (listed.setIfInBounds i true) (a.put oi.dst v) w → zwC P md ops Q S n (fuel + 1) listed a w := by
 intro fuel
 induction fuel with
 | zero =>
  intro listed a w inv _ hr hy hS H;refine ⟨fun h => (by rw [h] at hr;cases hr),fun j hj => ?_⟩
  by_cases hji : j = i
  ·subst hji;exact hy.wpOp hi hS ⟨fun _ => hS,H⟩
  ·have := ready_mono hj hji
   rw [H.1] at this;cases this
 | succ fuel ih =>
  intro listed a w inv hfree hr hy hS H;have hun := (mem_ready.1 hr).1;refine ⟨fun h => (by rw [h] at hr;cases hr),fun j hj => ?_⟩;have hjn : j < n := by
   rcases Nat.lt_or_ge j n with h | h
   ·exact h
   ·exact absurd hj (tail_waits hs hc hn inv _ i rfl hin hun j h)
  by_cases hji : j = i
  ·subst hji;exact hy.wpOp hi hS ⟨fun _ => hS,H⟩
  ·have h1 := H.2 j (ready_mono hj hji)
   obtain ⟨hjun,oj,hoj,hall⟩ := mem_ready.1 hj;have hnot : ∀ e ∈ oj.after,Region.binds md e = true → e.on ≠ i := fun e he hb heq => by
    have h1 := hall e he hb;have h0 := (mem_ready.1 hr).1;rw [heq] at h1;rcases Nat.lt_or_ge i listed.size with h' | h'
    ·simp [h'] at h0 h1;rw [h0] at h1;cases h1
    ·simp [Array.getElem?_eq_none h'] at h1
   have h2 := wpOp_putIf hoj (hfree j oj hoj hji hjun hnot) (fun cs b => hsel i oi cs b hi) (fun cs b => hsel j oj cs b hoj) hQ hy h1;have hfree' : ∀ k ok,ops[k]? = some ok → k ≠ i → (listed.setIfInBounds j true).getD k true = false →
     (∀ e ∈ ok.after,Region.binds md e = true → e.on ≠ i) → oi.apart ops ok = true := fun k ok hk hki hun hno => by
    refine hfree k ok hk hki ?_ hno
    by_cases hjk : j = k
    ·subst hjk;exact hjun
    ·rw [getD_set_ne true hjk] at hun;exact hun
   refine wpOp_mono (fun a' w' h3 => ⟨fun _ => h3.2.1 hjn,ih (listed.setIfInBounds j true) a' w' (inv.set hj hjn) hfree' (ready_mono hr (Ne.symm hji)) h3.1 (h3.2.1 hjn) ?_⟩) h2;rw [Array.setIfInBounds_comm _ _ hji];exact h3.2.2
def zoI (md : Region.Mode) (ops : Array Oper) (n : Nat) (listed : Array Bool) : Bool :=
 decide (listed.size = ops.size) && (List.range ops.size).all (fun j => match ops[j]? with
  | some oj => !(listed.getD j false) || oj.after.all (fun e => !(Region.binds md e) || listed.getD e.on false)
  | none => true) && (List.range ops.size).all (fun t => decide (t < n) || !(listed.getD t true))
theorem headB_spec {listed : Array Bool} (h : zoI md ops n listed = true) : HeadInv md ops n listed := by
 unfold zoI at h;simp only [Bool.and_eq_true,decide_eq_true_eq,List.all_eq_true,List.mem_range,Bool.or_eq_true,Bool.not_eq_true'] at h;obtain ⟨⟨h1,h2⟩,h3⟩ := h;refine ⟨h1,fun j oj hj hl e he hb => ?_,fun t ht ht' => ?_⟩
 ·have h4 := h2 j (Array.getElem?_eq_some_iff.1 hj).1
  simp only [hj,Bool.or_eq_true,Bool.not_eq_true',hl,Bool.true_eq_false,false_or] at h4;have h5 := Array.all_eq_true_iff_forall_mem.1 h4 e he;simp only [Bool.or_eq_true,Bool.not_eq_true',hb,Bool.true_eq_false,false_or] at h5;exact h5
 ·rcases h3 t ht' with h4 | h4
  ·omega
  ·exact h4
theorem zBA {i : Nat} {oi : Oper} {v : Value} {fuel : Nat} {listed : Array Bool} {a : Act} {w : World} (hi : ops[i]? = some oi)
  (hok : (Region.noSelect ops && Region.free md ops listed i && (Region.ready md ops listed).contains i && Region.sinkB md ops n && Region.chainB md ops n && decide (n < ops.size) && decide (i < n) && zoI md ops n listed) = true)
  (hQ : ∀ c a w,Q (.panic c) (a.put oi.dst v) w → Q (.panic c) a w) (hy : YieldsIf P ops S oi v a) (hS : S w)
  (h : zwC P md ops Q S n fuel (listed.setIfInBounds i true) (a.put oi.dst v) w) : zwC P md ops Q S n (fuel + 1) listed a w := by
 simp only [Bool.and_eq_true,decide_eq_true_eq] at hok;obtain ⟨⟨⟨⟨⟨⟨⟨h1,h2⟩,h3⟩,h4⟩,h5⟩,h6⟩,h7⟩,h8⟩ := hok;exact wpAnyT_first hi (Region.noSelect_spec h1) hQ h4 h5 h6 h7 fuel listed a w (headB_spec h8) (Region.free_spec hi h2) (by simpa using h3) hy hS h
theorem zDA {i : Nat} {o : Oper} {fuel : Nat} {listed : Array Bool} {a : Act} {w : World} (hr : Region.ready md ops listed = [i]) (ho : ops[i]? = some o)
  (h : ∀ K' : Act → World → Prop,Shut (∀ a w,(i < n → S w) → zwC P md ops Q S n fuel (listed.setIfInBounds i true) a w → K' a w) → if Region.wanted o (yielded ops a.tmps) = true then Oper.wp P o a w K' Q else K' (a.put o.dst undef) w) :
  zwC P md ops Q S n (fuel + 1) listed a w := by
 refine ⟨fun h0 => (by rw [hr] at h0;cases h0),fun j hj => ?_⟩;rw [hr] at hj;obtain rfl := List.mem_singleton.1 hj;exact wpOp_step ho (fun K' hK => h K' (fun a w hS hW => hK a w ⟨hS,hW⟩))
theorem zIA {listed : Array Bool} {a : Act} {w : World} (hr : Region.ready md ops listed = []) (h : Q .normal a w) :
  ∀ fuel,zwC P md ops Q S n fuel listed a w
 | 0 => ⟨hr,h⟩
 | _ + 1 => ⟨fun _ => h,by rw [hr];simp⟩
theorem zFA (S : World → Prop) (n : Nat) {id : Nat} {a : Act} {w : World} (hm : P.follows .mixedOrders = true)
  (h : zwC P .any ops Q S n ops.size (Array.replicate ops.size false) a w.drew) : (Code.region id ops true).wp P Q a w :=
 wp_region_any hm (zHD _ _ _ _ h)
end
theorem cnow {w w' : World} {p : Addr} {v : Value} (h : Below w.heap.size w w') (k : w.cell? p = some v) : w'.cell? p = some v := (h.cell (World.block_lt_of_cell? w p k)).trans k
theorem znD {xs : List Int} {i : Nat} (h : i < xs.length) : xs[i] = xs.getD i 0 := by simp [h]
def dotv (xs ys : List Int) : Int := zsum ((List.range xs.length).map fun j => xs.getD j 0 * ys.getD j 0)
def DotH (w : World) (g n : Nat) (F : Nat → Int) (k gk : Nat) (s : Value) (wx : World) : Prop :=
 ∃ i : Nat,s = .int .i64 (i : Int) ∧ i ≤ n ∧ gk = n - i ∧ Fil wx g n i F k ∧ Duo wx w.heap.size (.bool false) (.slice none 0 0) ∧ Below w.heap.size w wx
def Dotted (w : World) (z : Int) (k : Nat) (e : Ending) (w' : World) : Prop := ∃ r,e = .returned (.tuple #[r,.int .i64 0]) ∧ Zm w.heap.size w' r z k ∧ Below w.heap.size w w'
theorem dot_any {w : World} {va vb : Value} {xs ys : List Int} {k l : Nat} (ha : Zl w va xs k) (hb : Zl w vb ys l) (he : ys.length = xs.length) (hk : k + l + xs.length < 35184372088832) :
  Calls Tryz.prog 50 #[va,vb] w (Dotted w (dotv xs ys) (k + l + xs.length)) := by
 have A0 := hid ha;have B0 := hid hb;obtain ⟨a0,c0,rfl,hc0,hn0,hf0⟩ := ha.form9;obtain ⟨a1,c1,rfl,hc1,hn1,hf1⟩ := hb.form9;have DV : Hid (dotv xs ys = zsum ((List.range xs.length).map fun j => xs.getD j 0 * ys.getD j 0)) := rfl;obtain ⟨D,hD⟩ : ∃ D,dotv xs ys = D := ⟨_,rfl⟩
 rw [hD] at DV ⊢;obtain ⟨n,hn⟩ : ∃ n,xs.length = n := ⟨_,rfl⟩
 rw [he] at hc1 hn1 B0 ⊢;rw [hn] at A0 B0 hc0 hn0 hc1 hn1 hk DV ⊢;have HN := hid hn;have HE := hid (he.trans hn);have F0 := hid hf0;have F1 := hid hf1;clear ha hb hf0 hf1 hn he hD;obtain ⟨W0,hW⟩ : ∃ W0,w.alloc zbox = W0 := ⟨_,rfl⟩
 obtain ⟨b0,sz0⟩ := alo1 w zbox;rw [hW] at b0 sz0;have P4 : Hid (Duo W0 w.heap.size (.bool false) (.slice none 0 0)) := by unfold Hid;rw [← hW];exact Duo.new w _ _
 have G0 := hid b0;have EW := hid hW;have SZ := hid sz0;have q0 : ((n : Int) != (n : Int)) = false := by simp
 clear b0 hW sz0;go_enter Tryz.func50,Tryz.ntmps50;go_wp2_with (at_make;rw [EW.out];refine zpB _ rfl _ _ rfl _ _ n n rfl rfl rfl rfl (Nat.le_refl _) (by omega) ?_)
 intro w1 hrow hb1 hsz1;have H0 : Hid (DotH w W0.heap.size n (fun j => xs.getD j 0 * ys.getD j 0) (k + l) n (.int .i64 0) w1) := ⟨0,rfl,Nat.zero_le _,by omega,Fil.start hrow _ _,P4.out.step hb1,below_step G0.out hb1⟩
 have HGE : Hid (w.heap.size < W0.heap.size) := by unfold Hid;rw [SZ.out];omega
 clear hrow hb1 hsz1 P4 G0 EW SZ;generalize W0.heap.size = g at *;go_wp2_with fail
 go_loopg [19] n (fun gk s19 wx => DotH w g n (fun j => xs.getD j 0 * ys.getD j 0) (k + l) gk s19 wx)
 case atStart => exact H0.out
 case round =>
  clear H0;obtain ⟨i,rfl,hin,hg,hfil,hduo,hG⟩ := hrel;have FI := hid hfil;have P4 := hid hduo;have G := hid hG;have HG := hid hg;clear hfil hduo hG hg
  by_cases hlt : i < n
  ·have hlt' : (i : Int) < (n : Int) := by omega
   obtain ⟨b1,o1,rfl⟩ := F0.out (fun e => by have := HN.out;rw [e] at this;simp at this;omega);obtain ⟨b2,o2,rfl⟩ := F1.out (fun e => by have := HE.out;rw [e] at this;simp at this;omega);obtain ⟨nf,xf,adf,qf,k0,k1,zf⟩ := (A0.out.now G.out).at9 (i := i) (by rw [HN.out];exact hlt);obtain ⟨ng,xg,adg,qg,k2,k3,zg⟩ := (B0.out.now G.out).at9 (i := i) (by rw [HE.out];exact hlt);have ZF : Hid (∀ h : i < xs.length,∀ h' : i < ys.length,xs[i] * ys[i] = xs.getD i 0 * ys.getD i 0) := fun h h' => by rw [znD h,znD h']
   have HS : Hid (∀ w',Below wr.heap.size wr w' → Calls Tryz.prog 18 #[.agg #[.bool nf,.slice adf xf.length qf],.agg #[.bool ng,.slice adg xg.length qg]] w' (zOA w' _ (k + l))) := fun w' h => zVI (zf.now h) (zg.now h) (by omega)
   clear zf zg;have hw := zlG (i := i) (by omega);go_wp2_with fail;have KB : Hid (∀ w',Below wr.heap.size wr w' → w'.cell? ⟨b1,o1 + i * 2,none⟩ = some (.bool nf) ∧ w'.cell? ⟨b1,o1 + i * 2 + 1,none⟩ = some (.slice adf xf.length qf) ∧ w'.cell? ⟨b2,o2 + i * 2,none⟩ = some (.bool ng) ∧ w'.cell? ⟨b2,o2 + i * 2 + 1,none⟩ = some (.slice adg xg.length qg)) := fun w' h => ⟨cnow h k0,cnow h k1,cnow h k2,cnow h k3⟩
   refine zFA (fun w' => w'.cell? ⟨b1,o1 + i * 2,none⟩ = some (.bool nf) ∧ w'.cell? ⟨b1,o1 + i * 2 + 1,none⟩ = some (.slice adf xf.length qf) ∧ w'.cell? ⟨b2,o2 + i * 2,none⟩ = some (.bool ng) ∧ w'.cell? ⟨b2,o2 + i * 2 + 1,none⟩ = some (.slice adg xg.length qg)) 12 (by kernel_rfl) ?_;obtain ⟨D1,hD⟩ : ∃ D1,wr.drew = D1 := ⟨_,rfl⟩
   have GB : Hid (Below wr.heap.size wr D1) := by unfold Hid;rw [← hD];exact (Below.refl _ _).drew
   rw [hD];clear hD;have GBs := GB;refine zBA (i := 0) (oi := ⟨some 22,.move (.tmp 6),27, "zint.go:129",#[],none⟩) (v := (.slice (some ⟨g,0,none⟩) n n)) rfl (by kernel_rfl) (fun _ _ _ h => h) (Or.inl ⟨by rfl,?_⟩) (KB.out _ GB.out) ?_
   ·intro w hSw;(try dsimp only at hSw);go_simp
   simp only [Act.put,sIb,sC0,sC1];refine zBA (i := 1) (oi := ⟨some 23,.move (.tmp 7),3, "zint.go:129",#[],none⟩) (v := (.int .i64 (i : Int))) rfl (by kernel_rfl) (fun _ _ _ h => h) (Or.inl ⟨by rfl,?_⟩) (KB.out _ GB.out) ?_
   ·intro w hSw;(try dsimp only at hSw);go_simp
   simp only [Act.put,sIb,sC0,sC1];refine zBA (i := 2) (oi := ⟨some 24,.move (.tmp 0),27, "zint.go:129",#[],none⟩) (v := (.slice (some ⟨b1,o1,none⟩) n c0)) rfl (by kernel_rfl) (fun _ _ _ h => h) (Or.inl ⟨by rfl,?_⟩) (KB.out _ GB.out) ?_
   ·intro w hSw;(try dsimp only at hSw);go_simp
   simp only [Act.put,sIb,sC0,sC1];refine zBA (i := 3) (oi := ⟨some 25,.move (.tmp 7),3, "zint.go:129",#[],none⟩) (v := (.int .i64 (i : Int))) rfl (by kernel_rfl) (fun _ _ _ h => h) (Or.inl ⟨by rfl,?_⟩) (KB.out _ GB.out) ?_
   ·intro w hSw;(try dsimp only at hSw);go_simp
   simp only [Act.put,sIb,sC0,sC1];refine zBA (i := 4) (oi := ⟨some 26,.indexAddr 27 (.tmp 24) (.tmp 25),0, "zint.go:129",#[⟨2,.data⟩,⟨3,.data⟩],none⟩) (v := (.pointer (some ⟨b1,o1 + i * 2,none⟩))) rfl (by kernel_rfl) (fun _ _ _ h => h) (Or.inl ⟨by rfl,?_⟩) (KB.out _ GB.out) ?_
   ·intro w hSw;(try dsimp only at hSw);go_simp
   simp only [Act.put,sIb,sC0,sC1];refine zBA (i := 5) (oi := ⟨some 27,.load 26 (.tmp 26),26, "zint.go:129",#[⟨4,.data⟩],none⟩) (v := (.agg #[.bool nf,.slice adf xf.length qf])) rfl (by kernel_rfl) (fun _ _ _ h => h) (Or.inl ⟨by rfl,?_⟩) (KB.out _ GB.out) ?_
   ·intro w hSw;(try dsimp only at hSw);go_simp
   simp only [Act.put,sIb,sC0,sC1];refine zBA (i := 6) (oi := ⟨some 28,.move (.tmp 1),27, "zint.go:129",#[],none⟩) (v := (.slice (some ⟨b2,o2,none⟩) n c1)) rfl (by kernel_rfl) (fun _ _ _ h => h) (Or.inl ⟨by rfl,?_⟩) (KB.out _ GB.out) ?_
   ·intro w hSw;(try dsimp only at hSw);go_simp
   simp only [Act.put,sIb,sC0,sC1];refine zBA (i := 7) (oi := ⟨some 29,.move (.tmp 7),3, "zint.go:129",#[],none⟩) (v := (.int .i64 (i : Int))) rfl (by kernel_rfl) (fun _ _ _ h => h) (Or.inl ⟨by rfl,?_⟩) (KB.out _ GB.out) ?_
   ·intro w hSw;(try dsimp only at hSw);go_simp
   simp only [Act.put,sIb,sC0,sC1];refine zBA (i := 8) (oi := ⟨some 30,.indexAddr 27 (.tmp 28) (.tmp 29),0, "zint.go:129",#[⟨6,.data⟩,⟨7,.data⟩],none⟩) (v := (.pointer (some ⟨b2,o2 + i * 2,none⟩))) rfl (by kernel_rfl) (fun _ _ _ h => h) (Or.inl ⟨by rfl,?_⟩) (KB.out _ GB.out) ?_
   ·intro w hSw;(try dsimp only at hSw);go_simp
   simp only [Act.put,sIb,sC0,sC1];refine zBA (i := 9) (oi := ⟨some 31,.load 26 (.tmp 30),26, "zint.go:129",#[⟨8,.data⟩],none⟩) (v := (.agg #[.bool ng,.slice adg xg.length qg])) rfl (by kernel_rfl) (fun _ _ _ h => h) (Or.inl ⟨by rfl,?_⟩) (KB.out _ GB.out) ?_
   ·intro w hSw;(try dsimp only at hSw);go_simp
   simp only [Act.put,sIb,sC0,sC1];refine zDA (i := 10) (o := ⟨some 32,.call { callee := .value (.func 18),args := #[.tmp 27,.tmp 31],argTypes := #[26,26] },26, "zint.go:129",#[⟨5,.data⟩,⟨9,.data⟩],none⟩) (by kernel_rfl) rfl (fun K hK => ?_);go_simp;go_at_call 18;refine (HS.out _ GB.out).mono ?_;rintro e w2 ⟨r,rfl,m1,b⟩;have lz2 := (show Below _ _ _ from b).size;replace GB := hid (below_step GB.out b);have FI1 := hid (FI.out.step (below_step (w0 := wr) GBs.out b));have P41 := hid (P4.out.step (below_step (w0 := wr) GBs.out b));have G1 := hid (below_step G.out (below_step (w0 := wr) GBs.out b));have M1 := hid m1.zc;obtain ⟨nr,xr,ar,cr,rfl⟩ := m1.parts;rw [ZF.out (by rw [HN.out];exact hlt) (by rw [HE.out];exact hlt)] at M1;clear m1;clear b;refine hK.out _ _ (fun _ => KB.out _ GB.out) ?_;clear hK;refine zBA (i := 11) (oi := ⟨some 33,.indexAddr 27 (.tmp 22) (.tmp 23),0, "zint.go:129",#[⟨0,.data⟩,⟨1,.data⟩,⟨0,.phase⟩,⟨1,.phase⟩,⟨2,.phase⟩,⟨3,.phase⟩,⟨4,.phase⟩,⟨5,.phase⟩,⟨6,.phase⟩,⟨7,.phase⟩,⟨8,.phase⟩,⟨9,.phase⟩,⟨10,.phase⟩],none⟩) (v := (.pointer (some ⟨g,i * 2,none⟩))) rfl (by kernel_rfl) (fun _ _ _ h => h) (Or.inl ⟨by rfl,?_⟩) (KB.out _ GB.out) ?_
   ·intro w hSw;(try dsimp only at hSw);go_simp
   simp only [Act.put,sIb,sC0,sC1];refine zDA (i := 12) (o := ⟨none,.store 26 (.tmp 33) (.tmp 32),0, "zint.go:129",#[⟨11,.data⟩,⟨10,.data⟩,⟨10,.chain⟩,⟨0,.phase⟩,⟨1,.phase⟩,⟨2,.phase⟩,⟨3,.phase⟩,⟨4,.phase⟩,⟨5,.phase⟩,⟨6,.phase⟩,⟨7,.phase⟩,⟨8,.phase⟩,⟨9,.phase⟩,⟨10,.phase⟩],none⟩) (by kernel_rfl) rfl (fun K hK => ?_);obtain ⟨m0,am,lm,cm,e0,e1,e2,e3⟩ := FI1.out.cells hlt;go_simp;clear e0 e1 e2 e3;obtain ⟨V3,hW⟩ : ∃ V3,((w2.setCell ⟨g,i * 2,none⟩ (.bool nr)).setCell ⟨g,i * 2 + 1,none⟩ (.slice ar xr.length cr)) = V3 := ⟨_,rfl⟩
   have HN1 : Hid (DotH w g n (fun j => xs.getD j 0 * ys.getD j 0) (k + l) (n - (i + 1)) (.int .i64 ((i + 1 : Nat) : Int)) V3) := by
    unfold Hid;rw [← hW];exact ⟨i + 1,rfl,by omega,rfl,FI1.out.put hlt M1.out,P41.out.ne (by have := HGE.out;omega) |>.ne (by have := HGE.out;omega),bset (bset G1.out (by have := HGE.out;omega)) (by have := HGE.out;omega)⟩
   rw [hW];clear hW;refine hK.out _ _ (fun h => absurd h (by decide)) ?_;clear hK
   try simp only [Act.put]
   refine zIA (by kernel_rfl) ?_ _;have HMM : Hid (n - (i + 1) < gk) := by unfold Hid;rw [HG.out];omega
   clear HS FI P4 G HG FI1 P41 G1 M1 ZF GBs GB KB HGE;go_wp2_with fail;go_roundg (n - (i + 1))
   case rel => exact HN1.out
   case measure => exact HMM.out
  ·have hlt' : ¬ (i : Int) < (n : Int) := by omega
   obtain rfl : i = n := by omega
   obtain ⟨ps,p1,p2⟩ := FI.out.done (B := 0) (Nat.zero_le _) hn0;have HS := hid (zwI (zlI p1 p2.zis) (by simp;omega));rw [← DV.out] at HS;simp only [List.length_map,List.length_range] at HS;clear p1 p2;go_wp2_with fail;refine HS.out.mono ?_;rintro e w1 ⟨r,rfl,m1,b⟩;have P41 := hid (P4.out.step b);have G1 := hid (below_step G.out b);have HM := hid (m1.mono G.out.size);obtain ⟨nr,xr,ar,cr,rfl⟩ := m1.parts;have r0 := P41.out.c0;have r1 := P41.out.c1;have f0 := P41.out.fz 0;have f1 := P41.out.fz 1;clear HS FI P4 G HG m1 b;go_wp2;exact bodyPost_ret (zWA Tryz.results50 (P41.out.set _ _) _ (by rfl) (by rfl)) rfl ⟨_,rfl,HM.out.box P41.out _ _,bset (bset G1.out (Nat.le_refl _)) (Nat.le_refl _)⟩
end Go.Proofs.YtkdobgbicnemcaaGreatDoor
