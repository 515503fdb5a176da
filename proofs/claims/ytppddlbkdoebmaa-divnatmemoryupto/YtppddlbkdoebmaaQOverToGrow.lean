/-
 QOverToGrow: Over, Rooms, Turn3, Grow, joined.
-/
import Derived.Test.YtppddlbkdoebmaaQKeepToHolds
import Derived.Laws.CopyOwn
import Derived.Test.YtppddlbkdoebmaaQAddToToAdd
import Derived.ArgAppend
import Derived.OwnWalk

set_option maxRecDepth 100000
set_option maxHeartbeats 6400000
set_option linter.unusedVariables false
set_option linter.unusedSimpArgs false
namespace Go.Proofs.Ytppddlbkdoebmaa
open Go.RowKit
def mrk (n : Nat) : List Int := (List.range 80).map fun j => 6510516211317473280 + ((n + j : Nat) : Int)
theorem roomy_eq (xs : List Int) : zAB xs = xs ++ mrk xs.length := rfl
theorem zVE (xs : List Int) : ws (zAB xs) = ws xs ++ ws (mrk xs.length) := by rw [roomy_eq];simp [ws]
def Rm (w : World) (g : Nat) (xs : List Int) : Prop := Row w g (ws (zAB xs))
theorem Rm.lt {w : World} {g : Nat} {xs : List Int} (h : Rm w g xs) : g < w.heap.size := Row.lt h
theorem Rm.step {w w' : World} {g : Nat} {xs : List Int} (h : Rm w g xs) (hb : Below w.heap.size w w') : Rm w' g xs := Row.below h hb (Row.lt h)
theorem Rm.full {w : World} {g : Nat} {xs : List Int} (h : Rm w g xs) (hw : WF xs) {n : Nat} (hn : xs.length = n) (hl : n ≤ 2000000) : Sl w.heap.size w (.slice (some ⟨g,0,none⟩) (n + 80) (n + 80)) (zAB xs) := by
 have := Row.sl (r := []) (xs := zAB xs) (by rw [List.append_nil];exact h) (roomy_wf hw (by omega)) (cap := n + 80) (by rw [zDC,hn];exact Nat.le_refl _) (by omega) h.lt
 rwa [zDC,hn] at this
theorem Rm.part {w : World} {g : Nat} {xs : List Int} (h : Rm w g xs) (hw : WF xs) {n : Nat} (hn : xs.length = n) (hl : n ≤ 2000000) : Sl w.heap.size w (.slice (some ⟨g,0,none⟩) n (n + 80)) xs := by
 have := Row.sl (r := ws (mrk xs.length)) (xs := xs) (by rw [← zVE];exact h) hw (cap := n + 80) (by omega) (by omega) h.lt
 rwa [hn] at this
theorem Rm.over {w : World} {g : Nat} {xs T : List Int} (hT : T.length = xs.length) (h : Row w g (ws T ++ ws (mrk xs.length))) : Rm w g T := by
 unfold Rm;rw [zVE,hT];exact h
theorem Row.whole {w : World} {g : Nat} {xs : List Int} (h : Row w g (ws xs)) (hw : WF xs) {n : Nat} (hn : xs.length = n) (hl : n ≤ 2000000) : Sl w.heap.size w (.slice (some ⟨g,0,none⟩) n n) xs := by
 have := Row.sl (r := []) (xs := xs) (by simpa using h) hw (cap := n) (by omega) (by omega) h.lt
 rwa [hn] at this
def Bx (w : World) (O : Obj) (wr : World) : Prop := Below w.heap.size w wr ∧ wr.heap[w.heap.size]? = some O
theorem Bx.lt {w wr : World} {O : Obj} (h : Bx w O wr) : w.heap.size < wr.heap.size := (Array.getElem?_eq_some_iff.1 h.2).1
theorem Bx.start (w : World) (O : Obj) : Bx w O (w.alloc O) := ⟨(Below.refl _ _).alloc (Nat.le_refl _) _,heap_alloc_new w O⟩
theorem Bx.step {w wr w' : World} {O : Obj} (h : Bx w O wr) (k : Below wr.heap.size wr w') : Bx w O w' := ⟨zAA h.1 k,(k.block _ h.lt).trans h.2⟩
theorem zqF {w : World} {v u : Value} {ls xs : List Int} (h : Sl w.heap.size w v ls) (h' : Sl w.heap.size w u xs) (he : ls = zAB xs) :
  Calls Try.prog 13 #[v,u] w fun e w' => e = .returned (.bool true) ∧ Below w.heap.size w w' :=
 (kept_yes h h' he).mono fun e w' ⟨h1,n,h2⟩ => ⟨h1,by subst h2;exact below_drewN (Below.refl _ _) n⟩
def zCD (i : Nat) (x : Int) : Int := IntKind.u64.wrap (IntKind.u64.wrap (IntKind.u64.wrap (3 * x) + (i : Int)) + 1)
def zPA (xs : List Int) : List Int := xs.mapIdx zCD
theorem zUA (xs : List Int) : (zPA xs).length = xs.length := by simp [zPA]
theorem znE {xs : List Int} {k : Nat} (h : k < (zPA xs).length) (h' : k < xs.length) : (zPA xs)[k] = zCD k xs[k] := by simp [zPA]
theorem turnAt_is (i : Nat) (x : Int) : IsW (zCD i x) := by unfold zCD IsW wB;rw [IntKind.wrap_u64];omega
theorem zPB (xs : List Int) : WF (zPA xs) := fun y hy => by
 obtain ⟨k,hk,rfl⟩ := List.getElem_of_mem hy;rw [znE hk (by rw [zUA] at hk;exact hk)];exact turnAt_is _ _
def zkA (xs : List Int) (k : Nat) : List Int := (zPA xs).take k ++ xs.drop k
theorem turnUpto_len (xs : List Int) {k : Nat} (h : k ≤ xs.length) : (zkA xs k).length = xs.length := by simp [zkA,zUA];omega
theorem turnUpto_get {xs : List Int} {k : Nat} (h : k < (zkA xs k).length) (h' : k < xs.length) : (zkA xs k)[k] = xs[k] := by
 have hl : ((zPA xs).take k).length = k := by simp [zUA];omega
 have e : zkA xs k = (zPA xs).take k ++ xs.drop k := rfl;have h2 : ((zPA xs).take k ++ xs.drop k)[k]? = some xs[k] := by
  rw [List.getElem?_append_right (by omega),hl,Nat.sub_self];simp [h']
 rw [← e] at h2;exact (List.getElem?_eq_some_iff.1 h2).2
theorem turnUpto_set {xs : List Int} {k : Nat} (h : k < xs.length) : (zkA xs k).set k (zCD k xs[k]) = zkA xs (k + 1) := by
 unfold zkA;have e : xs.drop k = xs[k] :: xs.drop (k + 1) := List.drop_eq_getElem_cons h;have hl : ((zPA xs).take k).length = k := by simp [zUA];omega
 rw [List.set_append_right _ _ (by omega),hl,e,Nat.sub_self,List.set_cons_zero,List.take_succ_eq_append_getElem (by rw [zUA];exact h),znE _ h,List.append_assoc]
 rfl
theorem turn_any {w : World} {g : Nat} {xs : List Int} {r : List Value} {cap cap' : Nat} (hc : xs.length ≤ cap) (hr : Row w g (ws xs ++ r)) (hw : WF xs) (hl : xs.length ≤ 1048576) :
  Calls Try.prog 14 #[.slice (some ⟨g,0,none⟩) cap cap',.int .i64 (xs.length : Int)] w fun e w' => e = .returned (.tuple #[]) ∧ Row w' g (ws (zPA xs) ++ r) ∧ zYA (· = g) w w' := by
 have HW := hid hw;obtain ⟨n,hn⟩ : ∃ n,xs.length = n := ⟨_,rfl⟩
 have HN := hid hn;rw [hn] at hl ⊢;have H0 : Hid (Row w g (ws (zkA xs 0) ++ r)) := by unfold Hid;simpa [zkA] using hr
 have HE : Hid (zkA xs n = zPA xs) := by unfold Hid zkA;rw [← hn,List.drop_length,List.take_of_length_le (by rw [zUA];exact Nat.le_refl _)];simp
 clear hr hw hn;go_enter Try.func14,Try.ntmps14;go_wp2_with fail
 go_loopw [4] (fun i wr => ∃ k : Nat,k ≤ n ∧ i = .int .i64 k ∧ Hid (Row wr g (ws (zkA xs k) ++ r)) ∧ Hid (zYA (· = g) w wr)) (fun i _ => n - (intOf i).toNat)
 case atStart => exact ⟨0,Nat.zero_le _,rfl,H0,zYA.refl _ _⟩
 case round =>
  clear H0;obtain ⟨k,hk,rfl,HR,HT⟩ := hrel
  by_cases hlt : k < n
  ·have hk2 : k < xs.length := by have := HN.out;omega
   have hk3 : k < (zkA xs k).length := by rw [turnUpto_len xs (by omega)];exact hk2
   have c1 : wr.cell? ⟨g,k,none⟩ = some (.int .u64 xs[k]) := by
    rw [← turnUpto_get hk3 hk2];exact HR.out.word hk3
   have cf : wr.frozen? ⟨g,k,none⟩ = false := HR.out.frozen _;have HS := hid (HR.out.setWord hk3 (zCD k xs[k]));have HT2 := hid (HT.out.setCell (.inr rfl) k (.int .u64 (zCD k xs[k])));rw [turnUpto_set hk2] at HS;have hx := HW.out.get hk2;unfold IsW wB at hx;unfold zCD at HS HT2;generalize xs[k] = x at *;clear HR HT;go_wp2;go_roundw
   case rel => exact ⟨k + 1,by omega,by go_num,HS,HT2⟩
   case measure => first | (simp [intOf];done) | (simp [intOf];omega)
  ·obtain rfl : k = n := by omega
   rw [HE.out] at HR;go_wp2;go_end0;exact ⟨rfl,HR.out,HT.out⟩
theorem ow_prefix {w w' : World} {g cap n : Nat} {zs ys : List Int} {x : Int} {u : Value} (hn : zs.length = n) (h : w.ownsRow 0 26 1 (.slice (some ⟨g,0,none⟩) n cap) n (ws zs))
  (h' : w'.ownsRow 0 26 1 (.slice (some ⟨g,0,none⟩) (n + 1) cap) (n + 1) (ws zs ++ [.int .u64 x])) (hu : Ow w u ys) (hp : ys <+: zs) (hb : u.ownBlock = some g) : Ow w' u ys := by
 obtain ⟨_,⟨h2,_⟩ | ⟨g1,cap1,cur1,h2,_,h4,_,_,h7,_⟩⟩ := h
 ·cases h2
 obtain ⟨_,⟨k2,_⟩ | ⟨g2,cap2,cur2,k2,_,k4,_,_,k7,k8⟩⟩ := h'
 ·cases k2
 simp only [Value.slice.injEq,Option.some.injEq,Addr.mk.injEq,and_true] at h2 k2;obtain ⟨rfl,_,rfl⟩ := h2;obtain ⟨rfl,_,rfl⟩ := k2;obtain ⟨t,ht⟩ := hp;have hl : ys.length ≤ n := by rw [← hn,← ht];simp
 rw [Nat.mul_one] at k8;have htake : cur2.toList.take ys.length = ws ys := by
  have : cur2.toList.take ys.length = (cur2.toList.take (n + 1)).take ys.length := by rw [List.take_take,Nat.min_eq_left (by omega)]
  rw [this,k8,← ht,ws,List.map_append,List.append_assoc,List.take_append_of_le_length (by simp),List.take_of_length_le (by simp)]
  rfl
 rcases hu with ⟨m1,⟨m2,m3⟩ | ⟨g3,cap3,cur3,m2,m3,m4,m5,m6,m7,m8⟩⟩ | ⟨g3,r3,m2,m3,m4⟩
 ·rw [m2] at hb;cases hb
 ·obtain rfl : g3 = g := by rw [m2] at hb;simpa [Value.ownBlock] using hb
  have e : cur3 = cur1 := by
   have := m4.symm.trans h4
   simpa using this
  subst e;exact .inl ⟨m1,.inr ⟨g3,cap3,cur2,m2,m3,k4,m5,m6,by rw [k7,← m7,h7],by rw [Nat.mul_one];exact htake⟩⟩
 ·obtain rfl : g3 = g := by rw [m2] at hb;simpa [Value.ownBlock] using hb
  refine .inr ⟨g3,cur2.toList.drop ys.length,m2,?_,m4⟩;unfold Row;rw [← htake,List.take_append_drop,Array.toArray_toList];exact k4
theorem wpList_append_mark (w : World) {ops : Array Oper} {rest : List Oper} {o : Oper} {a : Act} {Q : Exit → Act → World → Prop}
  (hg : o.guard = none) (s x : Operand) (hop : o.op = Op.call { callee := Callee.builtin Builtin.append,args := #[s,x],argTypes := #[25,25] })
  (v : Value) (zs : List Int) (c : Int) (hs : a.eval s = v) (hown : Ow w v zs) (hmx : zs.length + 1 ≤ 17592186044000)
  (ad : Addr) (hx : a.eval x = .slice (some ad) 1 1) (hc : w.cell? ad = some (.int .u64 c))
  (hK : ∀ v' w',Hid (Ow w' v' (zs ++ [c])) → Hid (v'.ownBlock = v.ownBlock ∨ ∃ g,v'.ownBlock = some g ∧ w.heap.size ≤ g) → Hid (w.grownBy w' v.ownBlock) →
   Hid (∀ u ys,Ow w u ys → ys <+: zs → u.ownBlock = v.ownBlock → Ow w' u ys) → Hid (∃ b k,v' = .slice (some ⟨b,0,none⟩) (zs.length + 1) k) → wpList Try.prog ops Q rest (a.put o.dst v') w') :
  wpList Try.prog ops Q (o :: rest) a w := by
 obtain ⟨i,hi,hz,hsz,hb⟩ := info_parts Try.infoW;have hnews : ∀ j u,([.int .u64 c] : List Value)[j]? = some u → w.cell? (ad.add j) = some u := fun j u hj => by
  match j,hj with
  | 0,hj => simp at hj;subst hj;simpa [Addr.add] using hc
 have h1c : ∀ u ∈ ([.int .u64 c] : List Value),u.oneCell' = true := fun u hu => by simp at hu;subst hu;rfl
 have grow : ∀ v' w',w'.ownsRow w.heap.size 26 1 v' (zs.length + 1) (ws zs ++ [.int .u64 c]) → w.grownBy w' none → wpList Try.prog ops Q rest (a.put o.dst v') w' := fun v' w' ho hgr => by
  have hf : ∃ g cap,v' = .slice (some ⟨g,0,none⟩) (zs.length + 1) cap ∧ w.heap.size ≤ g := by
   obtain ⟨_,⟨_,h2⟩ | ⟨g,cap,_,h2,h3,_⟩⟩ := ho
   ·omega
   ·exact ⟨g,cap,h2,h3⟩
  obtain ⟨g,cap,hv',hgg⟩ := hf;refine hK v' w' ?_ (.inr ⟨g,by rw [hv'];rfl,hgg⟩) ⟨hgr.os,hgr.tape,hgr.output,hgr.size,fun k hk _ => hgr.block k hk (by simp)⟩ (fun u ys hu _ _ => hu.keep fun k hk => hgr.block k (hu.lt hk) (by simp)) ⟨g,cap,hv'⟩;obtain ⟨h1,h2 | ⟨g',cap',cur,h2,_,h4⟩⟩ := ho
  ·exact absurd h2.2 (by omega)
  ·unfold Hid Ow
   rw [show (zs ++ [c]).length = zs.length + 1 by simp,show ws (zs ++ [c]) = ws zs ++ [.int .u64 c] by simp [ws]];exact .inl ⟨h1,.inr ⟨g',cap',cur,h2,Nat.zero_le _,h4⟩⟩
 have hbytes : (zs.length + 1) * 8 ≤ 140737488355328 := by omega
 have hml : zs.length + 1 ≤ maxLen := by unfold maxLen;omega
 rcases hown with hown | ⟨g,r,h2,h3,h4⟩
 rotate_left
 ·refine wpList_append_grows w hg s x 25 hop 26 i _ 1 8 Try.underlying25 hi hz hsz hb rfl (by omega) (some ⟨g,0,none⟩) zs.length zs.length (ws zs) (hs.trans h2) (fun e => by cases e) (by simp [zGA]) (fun b e => ?_) ad 1 1 [.int .u64 c] hx rfl hnews h1c (by omega) hml hbytes ?_
  ·cases e
   intro j u hj;have hj' : j < zs.length := by
    have := (List.getElem?_eq_some_iff.1 hj).1
    simpa [zGA] using this
   have e : (⟨g,0,none⟩ : Addr).add j = ⟨g,j,none⟩ := by unfold Addr.add;split <;> simp_all
   rw [e,h3.word hj',← hj];simp [ws,hj']
  ·exact grow
 have hown' := hown;obtain ⟨h1,⟨h2,h3⟩ | ⟨g,cap,cur,h2,h3,h4,h5,h6,h7,h8⟩⟩ := hown
 ·have hz0 : zs = [] := List.eq_nil_of_length_eq_zero h3
  subst hz0;refine wpList_append_grows w hg s x 25 hop 26 i _ 1 8 Try.underlying25 hi hz hsz hb rfl (by omega) none 0 0 [] (hs.trans h2) (fun _ => ⟨rfl,rfl⟩) rfl (fun b e => by cases e) ad 1 1 [.int .u64 c] hx rfl hnews h1c (by omega) hml hbytes ?_;exact grow
 ·by_cases hfit : zs.length + 1 ≤ cap
  ·refine wpList_append_fits w hg s x 25 hop 0 26 i 1 Try.underlying25 hi hsz g zs.length cap (ws zs) (hs.trans h2) (by rw [← h2];exact hown') ad 1 1 [.int .u64 c] hx rfl hnews h1c hfit ?_
   intro w' ho hgr;have hvb : v.ownBlock = some g := by rw [h2];rfl
   refine hK _ w' ?_ (.inl (by rw [hvb];rfl)) (by rw [hvb];exact hgr) (fun u ys hu hp hub => ow_prefix (x := c) rfl (by rw [← h2];exact hown') ho hu hp (hub.trans hvb)) ⟨g,cap,rfl⟩;unfold Hid Ow;rw [show (zs ++ [c]).length = zs.length + 1 by simp,show ws (zs ++ [c]) = ws zs ++ [.int .u64 c] by simp [ws]];exact .inl ho
  ·refine wpList_append_grows w hg s x 25 hop 26 i _ 1 8 Try.underlying25 hi hz hsz hb rfl (by omega) (some ⟨g,0,none⟩) zs.length cap (ws zs) (hs.trans h2) (fun e => by cases e) h1 (fun b e => ?_) ad 1 1 [.int .u64 c] hx rfl hnews h1c (by omega) hml hbytes ?_
   ·cases e
    exact fun j u hj => World.ownsRow.cells hown' (g := g) (by rw [h2];rfl) j u hj
   ·exact grow
end Go.Proofs.Ytppddlbkdoebmaa
