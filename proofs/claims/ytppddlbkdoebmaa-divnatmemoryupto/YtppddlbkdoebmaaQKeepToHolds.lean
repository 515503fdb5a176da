/-
 QKeepToHolds: Keep, Touch, Holds, joined.
-/
import Derived.Test.YtppddlbkdoebmaaQSplitToJoin
import Derived.Test.YtppddlbkdoebmaaQLitsToNow
import Derived.Test.YtppddlbkdoebmaaQHWordsToMade
import Derived.Laws.AppendOwn

set_option maxRecDepth 100000
set_option maxHeartbeats 6400000
set_option linter.unusedVariables false
set_option linter.unusedSimpArgs false
namespace Go.Proofs.Ytppddlbkdoebmaa
open Go.RowKit
def zfB (T : List Int) (k : Nat) : List Int := T.take k ++ List.replicate (T.length - k) 0
theorem filled_len (T : List Int) {k : Nat} (h : k ≤ T.length) : (zfB T k).length = T.length := by simp [zfB];omega
theorem filled_zero (T : List Int) {n : Nat} (h : T.length = n) : List.replicate n 0 = zfB T 0 := by simp [zfB,h]
theorem filled_all (T : List Int) {n : Nat} (h : T.length = n) : zfB T n = T := by subst h;simp [zfB]
theorem filled_set (T : List Int) {k : Nat} (h : k < T.length) : (zfB T k).set k T[k] = zfB T (k + 1) := by
 obtain ⟨m,hm⟩ : ∃ m,T.length - k = m + 1 := ⟨T.length - k - 1,by omega⟩
 have hm' : T.length - (k + 1) = m := by omega
 unfold zfB;rw [hm,hm',List.set_append_right _ _ (by simp;omega),List.length_take,Nat.min_eq_left (by omega),Nat.sub_self,List.replicate_succ,List.set_cons_zero,← List.take_append_getElem h,List.append_assoc]
 rfl
def zAB (xs : List Int) : List Int := xs ++ (List.range 80).map fun j => 6510516211317473280 + ((xs.length + j : Nat) : Int)
theorem zDC (xs : List Int) : (zAB xs).length = xs.length + 80 := by simp [zAB]
theorem zsE {xs : List Int} {k : Nat} (h : k < (zAB xs).length) (h' : k < xs.length) : (zAB xs)[k] = xs[k] := by
 exact List.getElem_append_left h'
theorem zKE {xs : List Int} {k : Nat} (h : k < (zAB xs).length) (h' : xs.length ≤ k) : (zAB xs)[k] = 6510516211317473280 + (k : Int) := by
 have e : (xs ++ (List.range 80).map fun j => 6510516211317473280 + ((xs.length + j : Nat) : Int))[k]'h = _ := List.getElem_append_right h';refine Eq.trans e ?_
 simp
 omega
theorem roomy_wf {xs : List Int} (hw : WF xs) (hl : xs.length ≤ 35184372000000) : WF (zAB xs) := fun x hx => by
 unfold zAB at hx;rcases List.mem_append.1 hx with h | h
 ·exact hw x h
 ·obtain ⟨j,hj,rfl⟩ := List.mem_map.1 h
  have := List.mem_range.1 hj;unfold IsW wB;omega
theorem ztE {w : World} {v : Value} {xs : List Int} (h : Sl w.heap.size w v xs) (hlen : xs.length ≤ 35184372000000) :
  Calls Try.prog 12 #[v] w fun e w' => e = .returned (.slice (some ⟨w.heap.size,0,none⟩) (xs.length + 80) (xs.length + 80)) ∧ Row w' w.heap.size (ws (zAB xs)) ∧ Below w.heap.size w w' := by
 obtain ⟨hw,a,cap,rfl,hlc,hcm,hm⟩ := h;have HM := hid hm;have HL := hid (zDC xs);have H1 : Hid (∀ k (h : k < (zAB xs).length) (h' : k < xs.length),(zAB xs)[k] = xs[k]) := fun k h h' => zsE h h'
 have H2 : Hid (∀ k (h : k < (zAB xs).length),xs.length ≤ k → (zAB xs)[k] = 6510516211317473280 + (k : Int)) := fun k h h' => zKE h h'
 generalize zAB xs = T at *;clear hm hw;go_enter Try.func12,Try.ntmps12;go_wp2_with (at_make;refine wpList_make_words _ rfl _ _ rfl _ _ (xs.length + 80) (xs.length + 80) rfl rfl (by omega) (by omega) (Nat.le_refl _) (by omega) ?_)
 intro w2 hrow hb2 hsz2;have hrow2 : Row w2 w.heap.size (ws (zfB T 0)) := by rw [← filled_zero T HL.out];exact hrow
 clear hrow hsz2;go_wp2_with fail
 go_loopw [4] (fun i wr => ∃ k : Nat,k ≤ xs.length + 80 ∧ i = .int .i64 k ∧ Row wr w.heap.size (ws (zfB T k)) ∧ Below w.heap.size w wr) (fun i _ => xs.length + 80 - (intOf i).toNat)
 case atStart => exact ⟨0,Nat.zero_le _,rfl,hrow2,hb2⟩
 case round =>
  clear hrow2 hb2;obtain ⟨k,hk,rfl,hr,hb⟩ := hrel
  by_cases hlt : k < xs.length + 80
  ·have hkT : k < T.length := by have := HL.out;omega
   have hkF : k < (zfB T k).length := by rw [filled_len T (Nat.le_of_lt hkT)];exact hkT
   have c1 : wr.cell? ⟨w.heap.size,k,none⟩ = some (.int .u64 (zfB T k)[k]) := Row.word (r := []) (by simpa using hr) hkF;have cf : wr.frozen? ⟨w.heap.size,k,none⟩ = false := hr.frozen _;have HR := Row.setWord (r := []) (by simpa using hr) hkF T[k];rw [filled_set T hkT] at HR;have HB := hb.setCell (p := ⟨w.heap.size,k,none⟩) (Nat.le_refl _) (.int .u64 T[k]);generalize (zfB T k)[k] = z at *
   by_cases hx : k < xs.length
   ·rcases HM.out with e | ⟨b,off,rfl,hbg,hcy⟩
    ·subst e;simp at hx
    have c2 : wr.cell? ⟨b,off + k,none⟩ = some (.int .u64 T[k]) := by rw [H1.out k hkT hx];exact (hb.cell (p := ⟨b,off + k,none⟩) hbg).trans (hcy k hx)
    generalize T[k] = t at *;clear hcy hr hb;go_wp2;go_roundw
    case rel => exact ⟨k + 1,by omega,by go_num,(by simpa using HR),HB⟩
    case measure => simp [intOf];omega
   ·have ht := H2.out k hkT (by omega)
    rw [ht] at HR HB;clear hr hb ht;go_wp2;go_roundw
    case rel => exact ⟨k + 1,by omega,by go_num,(by simpa using HR),HB⟩
    case measure => simp [intOf];omega
  ·obtain rfl : k = xs.length + 80 := by omega
   rw [filled_all T HL.out] at hr;go_wp2;go_ret;exact ⟨rfl,hr,hb⟩
theorem kept_yes {B : Nat} {w : World} {v u : Value} {ls xs : List Int} (h : Sl B w v ls) (h' : Sl B w u xs) (he : ls = zAB xs) :
  Calls Try.prog 13 #[v,u] w fun e w' => e = .returned (.bool true) ∧ ∃ n,w' = w.drewN n := by
 subst he;obtain ⟨hw,a,cap,rfl,hlc,hcm,hm⟩ := h;obtain ⟨hw',a',cap',rfl,hlc',hcm',hm'⟩ := h';have H1 : Hid (∀ k (h : k < (zAB xs).length) (h' : k < xs.length),(zAB xs)[k] = xs[k]) := fun k h h' => zsE h h'
 have H2 : Hid (∀ k (h : k < (zAB xs).length),xs.length ≤ k → (zAB xs)[k] = 6510516211317473280 + (k : Int)) := fun k h h' => zKE h h'
 have HM := hid hm;have HM' := hid hm';have hl := zDC xs;generalize zAB xs = T at *;have HL := hid hl;rw [hl] at hlc ⊢;clear hm hm' hw hw' hl;have hne : (((xs.length + 80 : Nat) : Int) != (xs.length : Int) + 80) = false := by simp
 have hne2 : ((xs.length : Int) + 80 != (xs.length : Int) + 80) = false := by simp
 go_enter Try.func13,Try.ntmps13;go_wp2
 go_loopw [5] (fun i wr => ∃ k : Nat,k ≤ xs.length + 80 ∧ i = .int .i64 k ∧ ∃ q,wr = w.drewN q) (fun i _ => xs.length + 80 - (intOf i).toNat)
 case atStart => exact ⟨0,Nat.zero_le _,rfl,0,rfl⟩
 case round =>
  obtain ⟨k,hk,rfl,hq⟩ := hrel;have HQ := hid hq;have hcw : ∀ a,wr.cell? a = w.cell? a := by obtain ⟨q,rfl⟩ := hq;intro a;rfl
  clear hq
  by_cases hlt : k < xs.length + 80
  ·have hkT : k < T.length := by have := HL.out;omega
   rcases HM.out with e | ⟨b,off,rfl,hbg,hcy⟩
   ·subst e;simp at hkT
   have c1 : wr.cell? ⟨b,off + k,none⟩ = some (.int .u64 T[k]) := by rw [hcw];exact hcy k hkT
   by_cases hx : k < xs.length
   ·rcases HM'.out with e | ⟨b',off',rfl,hbg',hcy'⟩
    ·subst e;simp at hx
    have c2 : wr.cell? ⟨b',off' + k,none⟩ = some (.int .u64 T[k]) := by rw [hcw,H1.out k hkT hx];exact hcy' k hx
    generalize T[k] = t at *;have ht : (t != t) = false := by simp
    clear hcy hcy' hcw;go_wp2;go_quiet (fail);go_wp2;go_roundw
    case rel => exact ⟨k + 1,by omega,by go_num,(by obtain ⟨q,hq⟩ := HQ.out;exact ⟨q + nq,by rw [hq,World.drewN_drewN]⟩)⟩
    case measure => simp [intOf];omega
   ·rw [H2.out k hkT (by omega)] at c1
    have ht : ((6510516211317473280 + (k : Int)) != (6510516211317473280 + (k : Int))) = false := by simp
    clear hcy hcw;go_wp2;go_quiet (fail);go_wp2;go_roundw
    case rel => exact ⟨k + 1,by omega,by go_num,(by obtain ⟨q,hq⟩ := HQ.out;exact ⟨q + nq,by rw [hq,World.drewN_drewN]⟩)⟩
    case measure => simp [intOf];omega
  ·go_wp2
   go_ret;exact ⟨rfl,HQ.out⟩
def zUB (i j : Nat) : Int := 4323455642275676160 + (i : Int) * 1048576 + (j : Int)
theorem zND (i j : Nat) (hi : i ≤ 2097152) (hj : j ≤ 35184372088832) (w : World) :
  Calls Try.prog 64 #[.int .i64 (i : Int),.int .i64 (j : Int)] w fun e w' => e = .returned (.int .u64 (zUB i j)) ∧ w' = w := by
 unfold zUB;go_enter Try.func64,Try.ntmps64;go_wp2;go_ret;exact ⟨rfl,rfl⟩
structure zYA (S : Nat → Prop) (w w' : World) : Prop where
 os : w'.os = w.os
 tape : w'.tape = w.tape
 output : w'.output = w.output
 size : w.heap.size ≤ w'.heap.size
 block : ∀ k,k < w.heap.size → ¬ S k → w'.heap[k]? = w.heap[k]?
theorem zYA.refl (S : Nat → Prop) (w : World) : zYA S w w := ⟨rfl,rfl,rfl,Nat.le_refl _,fun _ _ _ => rfl⟩
theorem zYA.trans {S : Nat → Prop} {a b c : World} (h : zYA S a b) (k : zYA S b c) : zYA S a c :=
 ⟨k.os.trans h.os,k.tape.trans h.tape,k.output.trans h.output,Nat.le_trans h.size k.size,fun i hi hS => (k.block i (Nat.lt_of_lt_of_le hi h.size) hS).trans (h.block i hi hS)⟩
theorem zYA.ofBelow {S : Nat → Prop} {w w' : World} (h : Below w.heap.size w w') : zYA S w w' := ⟨h.os,h.tape,h.output,h.size,fun k hk _ => h.block k hk⟩
theorem zYA.drewN {S : Nat → Prop} {w0 w : World} (h : zYA S w0 w) (n : Nat) : zYA S w0 (w.drewN n) := ⟨h.os,h.tape,h.output,h.size,h.block⟩
theorem zYA.setCell {S : Nat → Prop} {w0 w : World} (h : zYA S w0 w) {g : Nat} (hg : w0.heap.size ≤ g ∨ S g) (j : Nat) (x : Value) : zYA S w0 (w.setCell ⟨g,j,none⟩ x) := by
 have b := (Below.refl g w).setCell (p := ⟨g,j,none⟩) (Nat.le_refl _) x;refine ⟨b.os.trans h.os,b.tape.trans h.tape,b.output.trans h.output,Nat.le_trans h.size b.size,fun k hk hS => ?_⟩;rw [Below.heap_setCell w _ x k (fun e => by subst e;rcases hg with q | q;(· exact absurd hk (by omega));exact hS q)];exact h.block k hk hS
theorem zYA.grown {S : Nat → Prop} {w0 w w' : World} {row : Option Nat} (h : zYA S w0 w) (hg : w.grownBy w' row) (hr : ∀ k,row = some k → w0.heap.size ≤ k ∨ S k) : zYA S w0 w' :=
 ⟨hg.os.trans h.os,hg.tape.trans h.tape,hg.output.trans h.output,Nat.le_trans h.size hg.size,fun k hk hS => by
  rw [hg.block k (Nat.lt_of_lt_of_le hk h.size) (fun e => by rcases hr k e.symm with q | q;(· omega);exact hS q)];exact h.block k hk hS⟩
theorem zYA.cell {S : Nat → Prop} {w w' : World} (h : zYA S w w') {b : Nat} (hb : b < w.heap.size) (hS : ¬ S b) (j : Nat) : w'.cell? ⟨b,j,none⟩ = w.cell? ⟨b,j,none⟩ :=
 World.cell?_of_block (h.block b hb hS)
theorem zYA.row {S : Nat → Prop} {w w' : World} (h : zYA S w w') {g : Nat} {L : List Value} (hr : Row w g L) (hS : ¬ S g) : Row w' g L := (h.block g hr.lt hS).trans hr
def zvA (i n : Nat) : List Int := (List.range n).map (zUB i)
theorem zCC (i n : Nat) : (zvA i n).length = n := by simp [zvA]
theorem zaD {i n k : Nat} (h : k < (zvA i n).length) : (zvA i n)[k] = zUB i k := by simp [zvA]
theorem signs_succ (i n : Nat) : zvA i (n + 1) = zvA i n ++ [zUB i n] := by simp [zvA,List.range_succ]
def Sw (w : World) (v : Value) (xs : List Int) : Prop :=
 ∃ a cap,v = .slice a xs.length cap ∧ (xs = [] ∨ ∃ b off,a = some ⟨b,off,none⟩ ∧ ∀ j (h : j < xs.length),w.cell? ⟨b,off + j,none⟩ = some (.int .u64 xs[j]))
theorem holds_yes {w : World} {v u : Value} {i n : Nat} (hi : i ≤ 2097152) (hn : n ≤ 35184372000000) (h : Sw w v (zvA i n)) (h' : Sw w u (zvA i (n + 80))) :
  Calls Try.prog 65 #[.int .i64 (i : Int),v,u] w fun e w' => e = .returned (.bool true) ∧ ∃ q,w' = w.drewN q := by
 obtain ⟨a,cap,rfl,hm⟩ := h;obtain ⟨a',cap',rfl,hm'⟩ := h';have H1 : Hid (∀ k (h : k < (zvA i n).length),(zvA i n)[k] = zUB i k) := fun k h => zaD h
 have H2 : Hid (∀ k (h : k < (zvA i (n + 80)).length),(zvA i (n + 80))[k] = zUB i k) := fun k h => zaD h
 have HM := hid hm;have HM' := hid hm';have l1 := zCC i n;have l2 := zCC i (n + 80);generalize zvA i n = T at *;generalize zvA i (n + 80) = T' at *;have L1 := hid l1;have L2 := hid l2;rw [l1,l2];clear hm hm' l1 l2;have hne2 : ((n : Int) + 80 != (n : Int) + 80) = false := by simp
 go_enter Try.func65,Try.ntmps65;go_wp2_with fail
 go_loopw [7] (fun j wr => ∃ k : Nat,k ≤ n ∧ j = .int .i64 k ∧ ∃ q,wr = w.drewN q) (fun j _ => n - (intOf j).toNat)
 case atStart => exact ⟨0,Nat.zero_le _,rfl,0,rfl⟩
 case round =>
  obtain ⟨k,hk,rfl,hq⟩ := hrel;have HQ := hid hq;have hcw : ∀ a,wr.cell? a = w.cell? a := by obtain ⟨q,rfl⟩ := hq;intro a;rfl
  by_cases hlt : k < n
  ·clear hq
   have hkT : k < T.length := by have := L1.out;omega
   rcases HM.out with e | ⟨b,off,rfl,hcy⟩
   ·subst e;simp at hkT
   have c1 : wr.cell? ⟨b,off + k,none⟩ = some (.int .u64 (zUB i k)) := by rw [hcw,← H1.out k hkT];exact hcy k hkT
   have HS : ∀ w,Calls Try.prog 64 #[.int .i64 (i : Int),.int .i64 (k : Int)] w fun e w' => e = .returned (.int .u64 (zUB i k)) ∧ w' = w := zND i k hi (by omega)
   generalize zUB i k = t at *;have ht : (t != t) = false := by simp
   clear hcy hcw;go_wp2_with fail;go_quiet ((go_at_call 64;exact Calls.quiet_of_same (HS _)));go_wp2;go_roundw
   case rel => exact ⟨k + 1,by omega,by go_num,(by obtain ⟨q,hq⟩ := HQ.out;exact ⟨q + nq,by rw [hq,World.drewN_drewN]⟩)⟩
   case measure => simp [intOf];omega
  ·clear hcw hq
   obtain ⟨q0,hq0⟩ := HQ.out;have HQ0 := hid hq0;clear hq0;go_wp2_with fail
   go_loopw [8] (fun j wr => ∃ k : Nat,k ≤ n + 80 ∧ j = .int .i64 k ∧ ∃ q,wr = w.drewN q) (fun j _ => n + 80 - (intOf j).toNat)
   case atStart => exact ⟨0,Nat.zero_le _,rfl,q0,HQ0.out⟩
   case round =>
    clear HQ HQ0;obtain ⟨k,hk,rfl,hq⟩ := hrel;have HQ := hid hq
    rename World => wq
    have hcw : ∀ a,wq.cell? a = w.cell? a := by obtain ⟨q,e⟩ := hq;intro a;rw [e];rfl
    clear hq
    by_cases hlt : k < n + 80
    ·have hkT : k < T'.length := by have := L2.out;omega
     rcases HM'.out with e | ⟨b,off,rfl,hcy⟩
     ·subst e;simp at hkT
     have c1 : wq.cell? ⟨b,off + k,none⟩ = some (.int .u64 (zUB i k)) := by rw [hcw,← H2.out k hkT];exact hcy k hkT
     have HS : ∀ w,Calls Try.prog 64 #[.int .i64 (i : Int),.int .i64 (k : Int)] w fun e w' => e = .returned (.int .u64 (zUB i k)) ∧ w' = w := zND i k hi (by omega)
     generalize zUB i k = t at *;have ht : (t != t) = false := by simp
     clear hcy hcw;go_wp2_with fail;go_quiet ((go_at_call 64;exact Calls.quiet_of_same (HS _)));go_wp2;go_roundw
     case rel => exact ⟨k + 1,by omega,by go_num,(by obtain ⟨q,hq⟩ := HQ.out;exact ⟨q + nq,by rw [hq,World.drewN_drewN]⟩)⟩
     case measure => simp [intOf];omega
    ·go_wp2
     go_ret;exact ⟨rfl,HQ.out⟩
def Ow (w : World) (v : Value) (zs : List Int) : Prop :=
 w.ownsRow 0 26 1 v zs.length (ws zs) ∨ ∃ g r,v = .slice (some ⟨g,0,none⟩) zs.length zs.length ∧ Row w g (ws zs ++ r) ∧ zs.length ≤ 35184372088832
theorem Ow.nil (w : World) : Ow w (.slice none 0 0) [] := .inl (World.ownsRow_nil w 0 _ 1)
theorem Ow.keep {w w' : World} {v : Value} {zs : List Int} (h : Ow w v zs) (hk : ∀ g,v.ownBlock = some g → w'.heap[g]? = w.heap[g]?) : Ow w' v zs := by
 rcases h with ⟨h1,h2 | ⟨g,cap,cur,h2,h3,h4,h5⟩⟩ | ⟨g,r,h2,h3,h4⟩
 ·exact .inl ⟨h1,.inl h2⟩
 ·exact .inl ⟨h1,.inr ⟨g,cap,cur,h2,h3,(hk g (by rw [h2];rfl)).trans h4,h5⟩⟩
 ·exact .inr ⟨g,r,h2,(hk g (by rw [h2];rfl)).trans h3,h4⟩
theorem Ow.lt {w : World} {v : Value} {zs : List Int} (h : Ow w v zs) {g : Nat} (hg : v.ownBlock = some g) : g < w.heap.size := by
 rcases h with h | ⟨g',r,h2,h3,_⟩
 ·exact (World.ownsRow.lt h g hg).2
 ·rw [h2] at hg
  simp [Value.ownBlock] at hg;subst hg;exact h3.lt
theorem Ow.form {w : World} {v : Value} {zs : List Int} (h : Ow w v zs) :
  (v = .slice none 0 0 ∧ zs = []) ∨ ∃ g cap,v = .slice (some ⟨g,0,none⟩) zs.length cap ∧ g < w.heap.size ∧ (∀ j (h : j < zs.length),w.cell? ⟨g,j,none⟩ = some (.int .u64 zs[j])) ∧ ∀ j,w.frozen? ⟨g,j,none⟩ = false := by
 rcases h with h | ⟨g,r,h2,h3,_⟩
 ·have h' := h
  obtain ⟨h1,⟨h2,h3⟩ | ⟨g,cap,cur,h2,h3,h4,h5,h6,h7,h8⟩⟩ := h
  ·exact .inl ⟨h2,List.eq_nil_of_length_eq_zero h3⟩
  ·refine .inr ⟨g,cap,h2,(World.ownsRow.lt h' g (by rw [h2];rfl)).2,fun j hj => ?_,fun j => by simp [World.frozen?,h4]⟩
   have := World.ownsRow.cells h' (g := g) (by rw [h2];rfl) j (.int .u64 zs[j]) (by simp [ws,hj]);have e : (⟨g,0,none⟩ : Addr).add j = ⟨g,j,none⟩ := by unfold Addr.add;split <;> simp_all
   rwa [e] at this
 ·exact .inr ⟨g,_,h2,h3.lt,fun j hj => h3.word hj,fun j => h3.frozen j⟩
theorem Ow.sw {w : World} {v : Value} {zs : List Int} (h : Ow w v zs) : Sw w v zs := by
 rcases h.form with ⟨rfl,rfl⟩ | ⟨g,cap,rfl,_,hc,_⟩
 ·exact ⟨none,0,rfl,.inl rfl⟩
 ·exact ⟨_,cap,rfl,.inr ⟨g,0,rfl,fun j hj => by rw [Nat.zero_add];exact hc j hj⟩⟩
theorem ws_set_any (zs : List Int) (r : List Value) (j : Nat) (x : Int) : ∃ r',(ws zs ++ r).set j (.int .u64 x) = ws (zs.set j x) ++ r' := by
 by_cases h : j < zs.length
 ·exact ⟨r,zcG zs r j h x⟩
 ·refine ⟨r.set (j - zs.length) (.int .u64 x),?_⟩
  have e : zs.set j x = zs := List.set_eq_of_length_le (by omega);rw [List.set_append_right _ _ (by rw [zGA];omega),zGA,e]
theorem Ow.set {w : World} {v : Value} {zs : List Int} (h : Ow w v zs) {g : Nat} (hg : v.ownBlock = some g) (j : Nat) (x : Int) : Ow (w.setCell ⟨g,j,none⟩ (.int .u64 x)) v (zs.set j x) := by
 rcases h with ⟨h1,⟨h2,h3⟩ | ⟨g',cap,cur,h2,h3,h4,h5,h6,h7,h8⟩⟩ | ⟨g',r,h2,h3,h4⟩
 ·rw [h2] at hg;cases hg
 ·obtain rfl : g' = g := by rw [h2] at hg;simpa [Value.ownBlock] using hg
  refine .inl ⟨by simp [zGA],.inr ⟨g',cap,cur.setIfInBounds j (.int .u64 x),by simpa using h2,h3,?_,by simpa using h5,h6,by simpa using h7,?_⟩⟩
  ·simp [World.setCell,Array.getElem?_modify,h4]
  ·rw [Array.toList_setIfInBounds,List.length_set,List.take_set,Nat.mul_one]
   rw [Nat.mul_one] at h8;rw [h8];simp [ws,List.map_set]
 ·obtain rfl : g' = g := by rw [h2] at hg;simpa [Value.ownBlock] using hg
  obtain ⟨r',e⟩ := ws_set_any zs r j x;refine .inr ⟨g',r',by simpa using h2,?_,by simpa using h4⟩;rw [← e];exact h3.set j _
theorem Row.ow {w : World} {g : Nat} {zs : List Int} {r : List Value} (h : Row w g (ws zs ++ r)) (hm : zs.length + r.length ≤ 35184372088832) : Ow w (.slice (some ⟨g,0,none⟩) zs.length (zs.length + r.length)) zs :=
 .inl ⟨by simp [zGA],.inr ⟨g,_,_,rfl,Nat.zero_le _,h,by omega,by unfold maxLen;omega,by simp [zGA],by simp [zGA]⟩⟩
theorem Own.ow {B : Nat} {w : World} {v : Value} {zs : List Int} (h : Own B w v zs) : Ow w v zs := by
 obtain ⟨hw,⟨h1,h2⟩ | ⟨g,r,h1,h2,h3,h4⟩⟩ := h
 ·subst h1 h2;exact Ow.nil w
 ·subst h3;exact h4.ow h2
end Go.Proofs.Ytppddlbkdoebmaa
