/-
 QSlIntsToJoin: SlInts, Ref, RowsI, Split, Join, joined.
-/
import Derived.Test.YtdeomkkpainakaaGreatQWordsToCarry
import Derived.Test.YtdeomkkpainakaaGreatQPv18ToDWords
import Derived.Test.YtdeomkkpainakaaGreatQCmpToMul
import Derived.Test.YtdeomkkpainakaaGreatQMadeToByWord
import Derived.Test.YtdeomkkpainakaaGreatQAlikeToShift

set_option maxRecDepth 100000
set_option maxHeartbeats 6400000
set_option linter.unusedVariables false
set_option linter.unusedSimpArgs false
namespace Go.Proofs.YtdeomkkpainakaaGreat
open Go.RowKit
def SlI (B : Nat) (w : World) (v : Value) (ps : List Int) : Prop :=
 (∀ p ∈ ps,-9223372036854775808 ≤ p ∧ p ≤ 9223372036854775807) ∧ ∃ a cap,v = .slice a ps.length cap ∧ ps.length ≤ cap ∧ cap ≤ 35184372088832 ∧
  (ps = [] ∨ ∃ b off,a = some ⟨b,off,none⟩ ∧ b < B ∧ ∀ j (h : j < ps.length),w.cell? ⟨b,off + j,none⟩ = some (.int .i64 ps[j]))
theorem SlI.now {w w' : World} {v : Value} {xs : List Int} (h : SlI w.heap.size w v xs) (hb : Below w.heap.size w w') : SlI w'.heap.size w' v xs := by
 obtain ⟨h1,a,cap,h2,h3,h4,h5⟩ := h;refine ⟨h1,a,cap,h2,h3,h4,?_⟩;rcases h5 with h5 | ⟨b,off,h6,h7,h8⟩
 ·exact .inl h5
 ·exact .inr ⟨b,off,h6,Nat.lt_of_lt_of_le h7 hb.size,fun j hj => (hb.cell (p := ⟨b,off + j,none⟩) h7).trans (h8 j hj)⟩
theorem SlI.below {B : Nat} {w w' : World} {v : Value} {xs : List Int} (h : SlI B w v xs) (hb : Below B w w') : SlI B w' v xs := by
 obtain ⟨h1,a,cap,h2,h3,h4,h5⟩ := h;refine ⟨h1,a,cap,h2,h3,h4,?_⟩;rcases h5 with h5 | ⟨b,off,h6,h7,h8⟩
 ·exact .inl h5
 ·exact .inr ⟨b,off,h6,h7,fun j hj => (hb.cell (p := ⟨b,off + j,none⟩) h7).trans (h8 j hj)⟩
theorem zCG {B : Nat} {w : World} {v : Value} {xs : List Int} (h : SlI B w v xs) :
  Calls Tryz.prog 82 #[v] w fun e w' => ∃ r,e = .returned r ∧ SlI B w r (dlst xs) ∧ w' = w := by
 have hs := h;obtain ⟨hw,a,cap,rfl,hlc,hcm,hm⟩ := h;have HW : Hid (∀ n : Nat,n ≤ xs.length → (∀ j (h : j < xs.length),n ≤ j → xs[j] = 0) → (0 < n → ∀ h' : n - 1 < xs.length,xs[n - 1] ≠ 0) → dwid xs = n) := fun n h1 h2 h3 => zBE h1 h2 h3
 have HF : Hid (∀ n,dwid xs = n → SlI B w (.slice a n cap) (dlst xs)) := fun n hn => by
  subst hn;have l := zVC xs;refine ⟨fun p hp => hw p (List.mem_of_mem_take hp),a,cap,by rw [zgA],by rw [zgA];omega,hcm,?_⟩;rcases hm with rfl | ⟨b,off,h1,h2,h3⟩
  ·exact .inl rfl
  ·refine .inr ⟨b,off,h1,h2,fun j hj => ?_⟩
   rw [zgA] at hj;rw [h3 j (by omega),dlst_get hj]
 have HM := hid hm;clear hs;go_enter Tryz.func82,Tryz.ntmps82;go_wp2
 go_loop [3] (fun i => ∃ n : Nat,n ≤ xs.length ∧ i = .int .i64 n ∧ ∀ j (h : j < xs.length),n ≤ j → xs[j] = 0) (fun i => (intOf i).toNat)
 case atStart => exact ⟨xs.length,Nat.le_refl _,rfl,fun j h h' => by omega⟩
 case round =>
  obtain ⟨n,hn,rfl,hz⟩ := hrel;have HZ := hid hz;clear hz hm
  by_cases h0 : n = 0
  ·subst h0
   go_wp2;go_ret;exact ⟨_,rfl,HF.out 0 (HW.out 0 (by omega) HZ.out (by omega)),rfl⟩
  ·obtain ⟨k,rfl⟩ : ∃ k,n = k + 1 := ⟨n - 1,by omega⟩
   rcases HM.out with rfl | ⟨b,off,rfl,hb,hc⟩
   ·simp at hn
   ·have hk : k < xs.length := by omega
    have hck := hc k hk;obtain ⟨x,hx⟩ : ∃ x,x = xs[k] := ⟨_,rfl⟩
    rw [← hx] at hck;have HX : Hid (x = xs[k]) := hx;clear hx hc h0
    by_cases hx0 : x = 0
    ·have ht : (x == 0) = true := by simp [hx0]
     go_wp2;go_round
     case rel =>
      refine ⟨k,by omega,rfl,fun j h hj => ?_⟩
      by_cases e : j = k
      ·subst e;rw [← HX.out];exact hx0
      ·exact HZ.out j h (by omega)
     case measure => simp [intOf]
    ·have ht : (x == 0) = false := by simp [hx0]
     go_wp2;go_ret;exact ⟨_,rfl,HF.out (k + 1) (HW.out (k + 1) hn HZ.out (fun _ h' => by have := HX.out;simp at h' ⊢;rw [← this];exact hx0)),rfl⟩
theorem zGH {B : Nat} {w : World} {v : Value} {xs : List Int} (h : SlI B w v xs) (k : Nat) :
  Calls Tryz.prog 52 #[v,.int .i64 (k : Int)] w fun e w' => e = .returned (.int .i64 (xs.getD k 0)) ∧ w' = w := by
 obtain ⟨hw,a,cap,rfl,hlc,hcm,hm⟩ := h
 by_cases hk : k < xs.length
 ·rcases hm with rfl | ⟨b,off,rfl,hb,hc⟩
  ·simp at hk
  have c1 := hc k hk;have e : xs.getD k 0 = xs[k] := by simp [hk]
  rw [e];generalize xs[k] = x at *;clear hc e;go_enter Tryz.func52,Tryz.ntmps52;go_wp2;go_ret;exact ⟨rfl,rfl⟩
 ·have e : xs.getD k 0 = 0 := by simp [show xs.length ≤ k by omega]
  rw [e];clear hm e;go_enter Tryz.func52,Tryz.ntmps52;go_wp2;go_ret;exact ⟨rfl,rfl⟩
theorem zoF {w wr : World} (h : ∃ q,wr = w.drewN q) (n : Nat) : ∃ q,wr.drewN n = w.drewN q := by obtain ⟨q,rfl⟩ := h;exact ⟨q + n,by rw [World.drewN_drewN]⟩
def RowI (w : World) (g : Nat) (L : List Value) : Prop := w.heap[g]? = some (.cells L.toArray 3 (0,0))
theorem RowI.lt {w : World} {g : Nat} {L : List Value} (h : RowI w g L) : g < w.heap.size := (Array.getElem?_eq_some_iff.1 h).1
theorem RowI.cell {w : World} {g : Nat} {L : List Value} (h : RowI w g L) {i : Nat} (hi : i < L.length) : w.cell? ⟨g,i,none⟩ = some L[i] := by
 unfold RowI at h;simp [World.cell?,h,hi]
theorem RowI.frozen {w : World} {g : Nat} {L : List Value} (h : RowI w g L) (i : Nat) : w.frozen? ⟨g,i,none⟩ = false := by
 unfold RowI at h;simp [World.frozen?,h]
theorem RowI.set {w : World} {g : Nat} {L : List Value} (h : RowI w g L) (i : Nat) (u : Value) : RowI (w.setCell ⟨g,i,none⟩ u) g (L.set i u) := by
 unfold RowI at h ⊢;simp [World.setCell,Array.getElem?_modify,h]
theorem RowI.alloc {w : World} {g : Nat} {L : List Value} (h : RowI w g L) (o : Obj) : RowI (w.alloc o) g L := (Below.heap_alloc w o g h.lt).trans h
def wi (xs : List Int) : List Value := xs.map (Value.int .i64)
theorem zrD (xs : List Int) : (wi xs).length = xs.length := by simp [wi]
theorem wi_set (xs : List Int) (r : List Value) (i : Nat) (h : i < xs.length) (z : Int) : (wi xs ++ r).set i (.int .i64 z) = wi (xs.set i z) ++ r := by
 rw [List.set_append_left _ _ (by rw [zrD];exact h),wi,wi,List.map_set]
theorem RowI.num {w : World} {g : Nat} {xs : List Int} {r : List Value} (h : RowI w g (wi xs ++ r)) {i : Nat} (hi : i < xs.length) : w.cell? ⟨g,i,none⟩ = some (.int .i64 xs[i]) := by
 rw [h.cell (i := i) (by simp [zrD];omega)];simp [wi,hi]
theorem RowI.setNum {w : World} {g : Nat} {xs : List Int} {r : List Value} (h : RowI w g (wi xs ++ r)) {i : Nat} (hi : i < xs.length) (z : Int) : RowI (w.setCell ⟨g,i,none⟩ (.int .i64 z)) g (wi (xs.set i z) ++ r) := by
 rw [← wi_set xs r i hi];exact h.set i _
theorem Tryz.infoI : (Tryz.prog.info? 3).map (fun i => (i.zero,i.size,i.bytes)) = some (some (.int .i64 0),1,8) := by kernel_rfl
theorem madeCells_ints (m : Nat) : madeCells (Value.int .i64 0).cells m = (wi (List.replicate m 0)).toArray := by
 apply Array.ext
 ·simp [size_madeCells,wi]
 ·intro i h1 h2
  simp [madeCells,wi,Value.cells,Nat.mod_one]
theorem zbA (w : World) {ops : Array Oper} {rest : List Oper} {o : Oper} {a : Act} {Q : Exit → Act → World → Prop}
  (hg : o.guard = none) (l c : Operand) (hop : o.op = Op.makeSlice 30 l c)
  (L C : Int) (n m : Nat) (hl : a.eval l = .int .i64 L) (hc : a.eval c = .int .i64 C) (hL : L = (n : Int)) (hC : C = (m : Int)) (hnm : n ≤ m) (hm : m ≤ 35184372088832)
  (hK : ∀ w',RowI w' w.heap.size (wi (List.replicate m 0)) → Below w.heap.size w w' → Hid (w'.heap.size = w.heap.size + 1) → wpList Tryz.prog ops Q rest (a.put o.dst (.slice (some ⟨w.heap.size,0,none⟩) n m)) w') :
  wpList Tryz.prog ops Q (o :: rest) a w := by
 refine wpList_plain hg fun K hK' => ?_
 obtain ⟨i,hi,hz,hs,hb⟩ := info_parts Tryz.infoI;have hrun := run_make (P := Tryz.prog) w 30 3 i (.int .i64 0) Tryz.underlying30 hi hz .i64 .i64 n m (by omega) (by omega) (by rw [hb];omega) (by omega);subst hL;subst hC;rw [hs,Nat.mul_one,Int.toNat_natCast,Int.toNat_natCast,madeCells_ints] at hrun;unfold Oper.wp;simp [execOp,hop,hl,hc,hrun,Result.andThen];refine hK' _ _ (hK _ ?_ ((Below.refl _ _).alloc (Nat.le_refl _) _) ?_)
 ·unfold RowI;exact heap_alloc_new w _
 ·unfold Hid;simp
theorem RowI.sl {w : World} {g : Nat} {xs : List Int} {r : List Value} (h : RowI w g (wi xs ++ r)) (hw : ∀ p ∈ xs,-9223372036854775808 ≤ p ∧ p ≤ 9223372036854775807) {cap : Nat} (hc : xs.length ≤ cap) (hm : cap ≤ 35184372088832) {B : Nat} (hB : g < B) :
  SlI B w (.slice (some ⟨g,0,none⟩) xs.length cap) xs :=
 ⟨hw,_,cap,rfl,hc,hm,.inr ⟨g,0,rfl,hB,fun j hj => by rw [Nat.zero_add];exact h.num hj⟩⟩
theorem wpList_append_intN (w : World) {ops : Array Oper} {rest : List Oper} {o : Oper} {a : Act} {Q : Exit → Act → World → Prop}
  (hg : o.guard = none) (s x : Operand) (hop : o.op = Op.call { callee := Callee.builtin Builtin.append,args := #[s,x],argTypes := #[30,30] })
  (g n cap : Nat) (zs : List Int) (r : List Value) (c : Int) (hrow : RowI w g (wi zs ++ r)) (hn : zs.length = n) (hr : 0 < r.length) (hcap : cap = n + r.length) (hs : a.eval s = .slice (some ⟨g,0,none⟩) n cap)
  (ad : Addr) (hx : a.eval x = .slice (some ad) 1 1) (hc : w.cell? ad = some (.int .i64 c))
  (hK : ∀ w',RowI w' g (wi (zs ++ [c]) ++ r.tail) → Below g w w' → wpList Tryz.prog ops Q rest (a.put o.dst (.slice (some ⟨g,0,none⟩) (n + 1) cap)) w') :
  wpList Tryz.prog ops Q (o :: rest) a w := by
 obtain ⟨i,hi,hz,hsz,hb⟩ := info_parts Tryz.infoI;subst hn;have hlw : (wi zs).length = zs.length := by simp [wi]
 have hrun := run_append_room (P := Tryz.prog) w 30 o.type 3 i Tryz.underlying30 hi g zs.length cap (wi zs ++ r).toArray hrow ad 1 1 [.int .i64 c] (by simp [hsz])
  (by intro j u hj;match j,hj with | 0,hj => simp at hj;subst hj;simpa [Addr.add] using hc) (by intro u hu;simp at hu;subst hu;rfl) (by omega) (by simp [hsz,hlw];omega)
 have e : (wi zs ++ r).take (zs.length * i.size) ++ [Value.int .i64 c] ++ (wi zs ++ r).drop (zs.length * i.size + 1) = wi (zs ++ [c]) ++ r.tail := by
  rw [hsz,Nat.mul_one,List.take_append_of_le_length (by omega),List.take_of_length_le (by omega),List.drop_append,List.drop_of_length_le (by omega),hlw,show zs.length + 1 - zs.length = 1 by omega];simp [wi]
 rw [List.toList_toArray,show [Value.int .i64 c].length = 1 from rfl,e] at hrun;refine wpList_plain hg fun K hK' => ?_
 unfold Oper.wp;simp [execOp,hop,resolve,invoke,builtin,hs,hx,hrun,Result.andThen];refine hK' _ _ (hK _ ?_ (below_setRow (Below.refl _ _) (Nat.le_refl _) _));unfold RowI;exact setRow_heap w g _ _ _ _ hrow
theorem wpList_append_more (w : World) {ops : Array Oper} {rest : List Oper} {o : Oper} {a : Act} {Q : Exit → Act → World → Prop}
  (hg : o.guard = none) (s x : Operand) (hop : o.op = Op.call { callee := Callee.builtin Builtin.append,args := #[s,x],argTypes := #[38,38] })
  (g n cap : Nat) (zs : List Int) (r : List Value) (c : Int) (hrow : Row w g (ws zs ++ r)) (hn : zs.length = n) (hr : 0 < r.length) (hcap : cap = n + r.length) (hs : a.eval s = .slice (some ⟨g,0,none⟩) n cap)
  (ad : Addr) (hx : a.eval x = .slice (some ad) 1 1) (hc : w.cell? ad = some (.int .u64 c))
  (hK : ∀ w',Row w' g (ws (zs ++ [c]) ++ r.tail) → Below g w w' → wpList Tryz.prog ops Q rest (a.put o.dst (.slice (some ⟨g,0,none⟩) (n + 1) cap)) w') :
  wpList Tryz.prog ops Q (o :: rest) a w := by
 obtain ⟨i,hi,hz,hsz,hb⟩ := info_parts Tryz.infoW;subst hn;have hlw : (ws zs).length = zs.length := by simp [ws]
 have hrun := run_append_room (P := Tryz.prog) w 38 o.type 48 i Tryz.underlying38 hi g zs.length cap (ws zs ++ r).toArray hrow ad 1 1 [.int .u64 c] (by simp [hsz])
  (by intro j u hj;match j,hj with | 0,hj => simp at hj;subst hj;simpa [Addr.add] using hc) (by intro u hu;simp at hu;subst hu;rfl) (by omega) (by simp [hsz,hlw];omega)
 have e : (ws zs ++ r).take (zs.length * i.size) ++ [Value.int .u64 c] ++ (ws zs ++ r).drop (zs.length * i.size + 1) = ws (zs ++ [c]) ++ r.tail := by
  rw [hsz,Nat.mul_one,List.take_append_of_le_length (by omega),List.take_of_length_le (by omega),List.drop_append,List.drop_of_length_le (by omega),hlw,show zs.length + 1 - zs.length = 1 by omega];simp [ws]
 rw [List.toList_toArray,show [Value.int .u64 c].length = 1 from rfl,e] at hrun;refine wpList_plain hg fun K hK' => ?_
 unfold Oper.wp;simp [execOp,hop,resolve,invoke,builtin,hs,hx,hrun,Result.andThen];refine hK' _ _ (hK _ ?_ (below_setRow (Below.refl _ _) (Nat.le_refl _) _));unfold Row;exact setRow_heap w g _ _ _ _ hrow
theorem zpC : ∀ k,dpw (4 * k) = pw k
 | 0 => rfl
 | k + 1 => by
  rw [show 4 * (k + 1) = 4 * k + 1 + 1 + 1 + 1 by omega,dpw,dpw,dpw,dpw,zpC k,pw];unfold dwB wB;omega
theorem split_step {zs : List Int} {n : Nat} {y T : Int} (hn : zs.length = n) (hd : DF zs) (hv : dval zs + dpw n * y = T) : DF (zs ++ [y % 65536]) ∧ dval (zs ++ [y % 65536]) + dpw (n + 1) * (y / 65536) = T := by
 refine ⟨hd.append (DF.cons (by unfold IsD dwB;omega) DF.nil),?_⟩;rw [zUB,hn,dpw,← hv];have h := Int.mul_ediv_add_emod y 65536;have e : dpw n * y = dpw n * (y % 65536) + dwB * dpw n * (y / 65536) := by
  conv => lhs;rw [← h]
  rw [Int.mul_add,Int.mul_comm dwB,Int.mul_assoc,Int.add_comm];rfl
 simp [dval];omega
theorem zkD {y : Int} {j : Nat} (h : y * 65536 ^ j ≤ 18446744073709551615) : y / 65536 * 65536 ^ (j + 1) ≤ 18446744073709551615 := by
 have h1 : y / 65536 * 65536 ≤ y := Int.ediv_mul_le y (by omega);have h2 : (0 : Int) ≤ 65536 ^ j := Int.pow_nonneg (by omega);have h3 := Int.mul_le_mul_of_nonneg_right h1 h2;rw [Int.pow_succ,Int.mul_comm (65536 ^ j),← Int.mul_assoc];omega
theorem zyA {w : World} {v : Value} {xs : List Int} (h : Sl w.heap.size w v xs) (hlen : xs.length ≤ 8796093022208) :
  Calls Tryz.prog 51 #[v] w fun e w' => ∃ ds r,e = .returned r ∧ SlI w'.heap.size w' r ds ∧ zOD ds ∧ dval ds = val xs ∧ ds.length ≤ 4 * xs.length ∧ Below w.heap.size w w' := by
 obtain ⟨hw,a,cap,rfl,hlc,hcm,hm⟩ := h;have HW := hid hw;have HM := hid hm;clear hm hw;go_enter Tryz.func51,Tryz.ntmps51;go_wp2_with (at_make;refine zbA _ rfl _ _ rfl _ _ 0 (4 * xs.length) rfl rfl rfl (by omega) (by omega) (by omega) ?_)
 intro w2 hrow hb2 hsz2;have hhs : w.heap.size < w2.heap.size := by have := hsz2.out;omega
 clear hsz2;go_wp2_with fail
 go_loopw [3,4] (fun d i wr => ∃ (k : Nat) (zs : List Int) (r : List Value),k ≤ xs.length ∧ i = .int .i64 k ∧ d = .slice (some ⟨w.heap.size,0,none⟩) (4 * k) (4 * xs.length) ∧ Hid (zs.length = 4 * k) ∧ Hid (r.length + 4 * k = 4 * xs.length) ∧ Hid (DF zs) ∧ Hid (dval zs = val (xs.take k)) ∧
   RowI wr w.heap.size (wi zs ++ r) ∧ Below w.heap.size w wr ∧ w.heap.size < wr.heap.size) (fun _ i _ => xs.length - (intOf i).toNat)
 case atStart => exact ⟨0,[],wi (List.replicate (4 * xs.length) 0),Nat.zero_le _,rfl,rfl,rfl,(by unfold Hid;simp [zrD]),DF.nil,rfl,(by simpa [wi] using hrow),hb2,hhs⟩
 case round =>
  clear hrow hb2 hhs;obtain ⟨k,zs,r,hk,rfl,rfl,HL,HR,HD,HV,hr,hb,hhs⟩ := hrel
  by_cases hlt : k < xs.length
  ·rcases HM.out with e | ⟨b,off,rfl,hbg,hc⟩
   ·subst e;simp at hlt
   have c1 : wr.cell? ⟨b,off + k,none⟩ = some (.int .u64 xs[k]) := (hb.cell (p := ⟨b,off + k,none⟩) hbg).trans (hc k hlt);have hx := HW.out.get hlt;have HTK := hid (zMA xs k hlt);clear hc;generalize xs[k] = x at *;unfold IsW wB at hx;obtain ⟨hx0,hx1⟩ := hx;have HV1 : Hid (dval zs + dpw (4 * k + 0) * x = val (xs.take k) + x * pw k) := by
    unfold Hid;rw [HV.out,Nat.add_zero,zpC,Int.mul_comm]
   have HB1 : Hid (x * 65536 ^ 0 ≤ 18446744073709551615) := by unfold Hid;simp;omega
   go_wp2_with fail
   go_loopw [3,5,6] (fun d y i wr => ∃ (j : Nat) (zs : List Int) (r : List Value) (yy : Int),j ≤ 4 ∧ i = .int .i64 j ∧ y = .int .u64 yy ∧ 0 ≤ yy ∧ yy ≤ 18446744073709551615 ∧ d = .slice (some ⟨w.heap.size,0,none⟩) (4 * k + j) (4 * xs.length) ∧ Hid (zs.length = 4 * k + j) ∧ Hid (r.length + 4 * k + j = 4 * xs.length) ∧ Hid (DF zs) ∧
     Hid (yy * 65536 ^ j ≤ 18446744073709551615) ∧ Hid (dval zs + dpw (4 * k + j) * yy = val (xs.take k) + x * pw k) ∧ RowI wr w.heap.size (wi zs ++ r) ∧ Below w.heap.size w wr ∧ w.heap.size < wr.heap.size) (fun _ _ i _ => 4 - (intOf i).toNat)
   case atStart => exact ⟨0,zs,r,x,by omega,rfl,rfl,hx0,by omega,rfl,HL,HR,HD,HB1,HV1,hr,hb,hhs⟩
   case round =>
    clear HL HR HD HB1 HV1 hr hb hhs HV;obtain ⟨j,zs,r,yy,hj,rfl,rfl,hy0,hy1,rfl,HL,HR,HD,HB,HV,hr,hb,hhs⟩ := hrel
    by_cases hj4 : j < 4
    ·have hrp : 0 < r.length := by have := HR.out;omega
     have hst := hid (split_step HL.out HD.out HV.out);have hbd := hid (zkD HB.out);go_wp2_with (at_builtin;refine wpList_append_intN _ rfl (.tmp 25) (.tmp 29) rfl w.heap.size (4 * k + j) (4 * xs.length) zs r (yy % 65536) (hr.alloc _) HL.out hrp (by have := HR.out;omega) rfl ⟨wr.heap.size,0,none⟩ rfl (by simp) ?_)
     intro w5 hr5 hb5;have hb15 := hid ((hb.alloc (Nat.le_of_lt hhs) _).trans hb5);have hhs5 : w.heap.size < w5.heap.size := by have := hb5.size;simp at this;omega
     have HL5 : Hid ((zs ++ [yy % 65536]).length = 4 * k + (j + 1)) := by unfold Hid;simp;have := HL.out;omega
     have HR5 : Hid (r.tail.length + 4 * k + (j + 1) = 4 * xs.length) := by unfold Hid;simp;have := HR.out;omega
     clear hb5 hr hb HL HR HD HB HV;go_wp2;go_roundw
     case rel => exact ⟨j + 1,_,r.tail,yy / 65536,by omega,by go_num,rfl,by omega,by omega,rfl,HL5,HR5,hst.out.1,hbd,hst.out.2,hr5,hb15.out,hhs5⟩
     case measure => simp [intOf];omega
    ·obtain rfl : j = 4 := by omega
     have hy : yy = 0 := by
      have := HB.out;rw [show (65536 : Int) ^ 4 = 18446744073709551616 from by decide] at this;omega
     have HV5 : Hid (dval zs = val (xs.take (k + 1))) := by
      unfold Hid;have := HV.out;rw [hy] at this;rw [HTK.out];simpa using this
     clear hy HB HV;go_wp2;go_roundw
     case rel => exact ⟨k + 1,zs,r,by omega,by go_num,rfl,HL,(by unfold Hid;have := HR.out;omega),HD,HV5,hr,hb,hhs⟩
     case measure => simp [intOf];omega
  ·obtain rfl : k = xs.length := by omega
   have hsz := RowI.sl hr (fun p hp => by have := HD.out p hp;unfold IsD dwB at this;omega) (cap := 4 * xs.length) (by rw [HL.out];exact Nat.le_refl _) (by omega) hhs;rw [HL.out] at hsz;have HT := hid (zCG hsz);clear hsz hr;go_wp2_with fail;refine HT.out.mono ?_;rintro e w4 ⟨rv,rfl,hs4,rfl⟩;go_wp2;go_ret;refine ⟨dlst zs,rv,rfl,hs4,dcanon_lst HD.out,?_,?_,hb⟩
   ·rw [zVD,HV.out,List.take_length]
   ·rw [zgA];have := zVC zs;have := HL.out;omega
theorem zFH {l : List Int} (h : DF l) (hl : l.length ≤ 3) : 0 ≤ dval l ∧ dval l ≤ 281474976710655 := by
 refine ⟨zTB h,?_⟩
 match l,h,hl with
 | [],_,_ => simp [dval]
 | [a],h,_ => have h1 := h a (by simp);unfold IsD dwB at h1;simp [dval];omega
 | [a,b],h,_ => have h1 := h a (by simp);have h2 := h b (by simp);unfold IsD dwB at h1 h2;simp [dval,dwB];omega
 | [a,b,c],h,_ => have h1 := h a (by simp);have h2 := h b (by simp);have h3 := h c (by simp);unfold IsD dwB at h1 h2 h3;simp [dval,dwB];omega
theorem DF.drop {xs : List Int} (h : DF xs) (n : Nat) : DF (xs.drop n) := fun x hx => h x (List.mem_of_mem_drop hx)
theorem zDD {D : List Int} (hD : DF D) {p n : Nat} : dval ((D.drop p).take (n + 1)) = D.getD p 0 + 65536 * dval ((D.drop (p + 1)).take n) ∧ 0 ≤ D.getD p 0 ∧ D.getD p 0 ≤ 65535 := by
 by_cases h : p < D.length
 ·have hx := hD.get h
  unfold IsD dwB at hx;rw [List.drop_eq_getElem_cons h,List.take_succ_cons,dval];have e : D.getD p 0 = D[p] := by simp [h]
  rw [e];exact ⟨rfl,by omega,by omega⟩
 ·have e : D.getD p 0 = 0 := by simp [show D.length ≤ p by omega]
  rw [e,List.drop_of_length_le (by omega),List.drop_of_length_le (by omega)];simp [dval]
theorem zUF {D zs : List Int} {t : Nat} (hD : DF D) (hz : WF zs) (hl : zs.length = t) (ht : 4 * t < D.length) (hv : val zs = dval (D.take (4 * t))) {y : Int} (hy : y = dval ((D.drop (4 * t)).take 4)) :
  WF (zs ++ [y]) ∧ val (zs ++ [y]) = dval (D.take (4 * (t + 1))) := by
 obtain ⟨hc0,hc1,hc2⟩ := zDD hD (p := 4 * t) (n := 3);have hc : dval ((D.drop (4 * t)).take 4) = D.getD (4 * t) 0 + 65536 * dval ((D.drop (4 * t + 1)).take 3) := hc0;have h3 := zFH ((hD.drop (4 * t + 1)).take 3) (by simp;omega);have hyw : IsW y := by unfold IsW wB;rw [hy];omega
 refine ⟨hz.append (WF.cons hyw WF.nil),?_⟩;rw [zoA,hl,hv,show 4 * (t + 1) = 4 * t + 4 by omega,List.take_add,zUB,List.length_take,Nat.min_eq_left (by omega),zpC,← hy];simp [val]
theorem pw_mono {a b : Nat} (h : a ≤ b) : pw a ≤ pw b := by
 obtain ⟨c,rfl⟩ : ∃ c,b = a + c := ⟨b - a,by omega⟩
 rw [zMF];have h1 := zfA a;have h2 := zfA c;have := Int.mul_le_mul_of_nonneg_left (show (1 : Int) ≤ pw c by omega) (Int.le_of_lt h1);omega
theorem canon_of_pw {zs : List Int} (hz : WF zs) {t : Nat} (hl : zs.length = t + 1) (h : pw t ≤ val zs) : zOA zs := by
 refine ⟨hz,?_⟩;have hle := zUA zs
 by_cases e : wid zs = zs.length
 ·exact e
 ·exfalso
  have h1 := zWA (canon_lst hz).1;rw [val_lst,zHA] at h1;have h2 := pw_mono (show wid zs ≤ t by omega);omega
theorem dcanon_ge {D : List Int} (h : zOD D) {n : Nat} (hn : D.length = n + 1) : dpw n ≤ dval D := by
 obtain ⟨h1,h2⟩ := zPG (show dwid D = n + 1 by rw [h.2];exact hn);have e : D = D.take n ++ [D[n]] := by rw [← List.take_succ_eq_append_getElem h1,← hn,List.take_length]
 have hx := h.1.get h1;have hp := zpF n;have h0 := zTB (h.1.take n);have hv : dval D = dval (D.take n) + dpw n * D[n] := by
  have q := zUB (D.take n) [D[n]];rw [← e,List.length_take,Nat.min_eq_left (by omega)] at q;rw [q];simp [dval]
 have := Int.mul_le_mul_of_nonneg_left (show (1 : Int) ≤ D[n] by have := hx.1;omega) (Int.le_of_lt hp);rw [hv];omega
theorem dpw_mono {a b : Nat} (h : a ≤ b) : dpw a ≤ dpw b := by
 induction h with
 | refl => exact Int.le_refl _
 | step _ ih => rw [dpw];have := zpF a;unfold dwB;omega
theorem join_canon {D zs : List Int} {t : Nat} (hD : zOD D) (hz : WF zs) (hl : zs.length = t) (h1 : D.length ≤ 4 * t) (h2 : t = 0 ∨ 4 * (t - 1) < D.length) (hv : val zs = dval D) : zOA zs := by
 cases t with
 | zero => have : zs = [] := List.eq_nil_of_length_eq_zero hl;subst this;exact ⟨WF.nil,rfl⟩
 | succ t =>
  obtain ⟨n,hn⟩ : ∃ n,D.length = n + 1 := ⟨D.length - 1,by omega⟩
  refine canon_of_pw hz hl ?_;rw [hv,← zpC];exact Int.le_trans (dpw_mono (by omega)) (dcanon_ge hD hn)
theorem ztE {w : World} {v : Value} {ds : List Int} (h : SlI w.heap.size w v ds) (hd : DF ds) :
  Calls Tryz.prog 53 #[v] w fun e w' => ∃ zs r,e = .returned r ∧ Own w.heap.size w' r zs ∧ zOA zs ∧ val zs = dval ds ∧ Below w.heap.size w w' := by
 have HT := hid (zCG h);have HDC := hid (dcanon_lst hd);have HDV := hid (zVD ds);clear h hd;generalize dlst ds = D at *;go_enter Tryz.func53,Tryz.ntmps53;go_wp2_with fail;refine HT.out.mono ?_;rintro e w1 ⟨rv,rfl,hs,rfl⟩;clear HT;obtain ⟨hw,a,cap,rfl,hlc,hcm,hm⟩ := hs;have HM := hid hm;clear hm hw;go_wp2_with (at_make;refine wpList_make_words _ rfl _ _ rfl _ _ 0 (D.length / 4 + 1) rfl rfl rfl (by omega) (by omega) (by omega) ?_)
 intro w2 hrow hb2 hsz2;have hhs : w1.heap.size < w2.heap.size := by have := hsz2.out;omega
 clear hsz2;go_wp2_with fail
 go_loopw [3,4] (fun l i wr => ∃ (t : Nat) (zs : List Int) (r : List Value),Hid (t = 0 ∨ 4 * (t - 1) < D.length) ∧ t ≤ D.length ∧ i = .int .i64 ((4 * t : Nat) : Int) ∧ l = .slice (some ⟨w1.heap.size,0,none⟩) t (D.length / 4 + 1) ∧ Hid (zs.length = t) ∧ Hid (r.length + t = D.length / 4 + 1) ∧ Hid (WF zs) ∧ Hid (val zs = dval (D.take (4 * t))) ∧
   Row wr w1.heap.size (ws zs ++ r) ∧ Below w1.heap.size w1 wr ∧ w1.heap.size < wr.heap.size) (fun _ i _ => D.length - (intOf i).toNat)
 case atStart => exact ⟨0,[],ws (List.replicate (D.length / 4 + 1) 0),.inl rfl,Nat.zero_le _,rfl,rfl,rfl,(by unfold Hid;simp [zLA]),WF.nil,rfl,(by simpa [ws] using hrow),hb2,hhs⟩
 case round =>
  clear hrow hb2 hhs;obtain ⟨t,zs,r,HT4,htl,rfl,rfl,HL,HR,HWZ,HV,hr,hb,hhs⟩ := hrel
  by_cases hlt : 4 * t < D.length
  ·rcases HM.out with e | ⟨b,off,rfl,hbg,hc⟩
   ·subst e;simp at hlt
   have HC : Hid (∀ p,p < D.length → wr.cell? ⟨b,off + p,none⟩ = some (.int .i64 (D.getD p 0))) := fun p hp => by
    rw [show D.getD p 0 = D[p] by simp [hp]];exact (hb.cell (p := ⟨b,off + p,none⟩) hbg).trans (hc p hp)
   clear hc;have hlti : ((4 * t : Nat) : Int) < (D.length : Int) := by omega
   go_wp2_with fail
   go_loop [5,6] (fun y i => ∃ (j : Nat) (yy : Int),j ≤ 4 ∧ i = .int .i64 ((j : Int) - 1) ∧ y = .int .u64 yy ∧ Hid (yy = dval ((D.drop (4 * t + j)).take (4 - j)))) (fun _ i => (intOf i + 1).toNat)
   case atStart => exact ⟨4,0,Nat.le_refl _,rfl,rfl,(by unfold Hid;simp [dval])⟩
   case round =>
    obtain ⟨j,yy,hj,rfl,rfl,HY⟩ := hrel
    by_cases hj0 : j = 0
    ·subst hj0
     have hrp : 0 < r.length := by have := HR.out;omega
     have hst := hid (zUF HDC.out.1 HWZ.out HL.out hlt HV.out (y := yy) (by rw [HY.out];simp));go_wp2_with (at_builtin;refine wpList_append_more _ rfl (.tmp 41) (.tmp 43) rfl w1.heap.size t (D.length / 4 + 1) zs r yy (hr.alloc _) HL.out hrp (by have := HR.out;omega) rfl ⟨wr.heap.size,0,none⟩ rfl (by simp) ?_)
     intro w5 hr5 hb5;have hb15 := hid ((hb.alloc (Nat.le_of_lt hhs) _).trans hb5);have hhs5 : w1.heap.size < w5.heap.size := by have := hb5.size;simp at this;omega
     have HL5 : Hid ((zs ++ [yy]).length = t + 1) := by unfold Hid;simp;exact HL.out
     have HR5 : Hid (r.tail.length + (t + 1) = D.length / 4 + 1) := by unfold Hid;simp;have := HR.out;omega
     clear hb5 hr hb HL HR HV HC HY;go_wp2;go_roundw
     case rel => exact ⟨t + 1,_,r.tail,.inr (by simpa using hlt),by omega,by go_num,rfl,HL5,HR5,hst.out.1,hst.out.2,hr5,hb15.out,hhs5⟩
     case measure => simp [intOf];omega
    ·obtain ⟨q,rfl⟩ : ∃ q,j = q + 1 := ⟨j - 1,by omega⟩
     have hcn := zDD HDC.out.1 (p := 4 * t + q) (n := 4 - (q + 1));have h3 := zFH ((HDC.out.1.drop (4 * t + (q + 1))).take (4 - (q + 1))) (by simp;omega);rw [← HY.out] at h3;rw [show 4 * t + q + 1 = 4 * t + (q + 1) by omega,← HY.out,show 4 - (q + 1) + 1 = 4 - q by omega] at hcn;obtain ⟨hc1,hd0,hd1⟩ := hcn;have HC1 := hid hc1;have hz : ¬ 4 * t + q < D.length → D.getD (4 * t + q) 0 = 0 := fun h => by simp [show D.length ≤ 4 * t + q by omega]
     have hcell := HC.out (4 * t + q);generalize D.getD (4 * t + q) 0 = d at *;obtain ⟨hy0,hy1⟩ := h3;clear hc1 hj0
     by_cases hin : 4 * t + q < D.length
     ·have hcl := hcell hin
      clear hcell hz;have hi1 : ((4 * t : Nat) : Int) + (q : Int) < (D.length : Int) := by omega
      go_wp2;go_round
      case rel => exact ⟨q,_,by omega,rfl,rfl,(by unfold Hid;rw [HC1.out];omega)⟩
      case measure => simp [intOf]
     ·have hz0 := hid (hz hin)
      clear hcell hz;have hi1 : ¬ ((4 * t : Nat) : Int) + (q : Int) < (D.length : Int) := by omega
      go_wp2;go_round
      case rel => exact ⟨q,_,by omega,rfl,rfl,(by unfold Hid;rw [HC1.out,hz0.out];omega)⟩
      case measure => simp [intOf]
  ·have hnlt : ¬ ((4 * t : Nat) : Int) < (D.length : Int) := by omega
   go_wp2;go_ret;have hv : val zs = dval D := by rw [HV.out,List.take_of_length_le (by omega)]
   refine ⟨zs,_,rfl,⟨HWZ.out,.inr ⟨w1.heap.size,r,Nat.le_refl _,?_,?_,hr⟩⟩,join_canon HDC.out HWZ.out HL.out (by omega) HT4.out hv,by rw [hv,HDV.out],hb⟩
   ·have h1 := HL.out;have h2 := HR.out;omega
   ·have h1 := HL.out
    have h2 := HR.out
    show Value.slice _ t (D.length / 4 + 1) = _
    rw [h1,show t + r.length = D.length / 4 + 1 by omega]
def Told (w : World) (s : Int) (e : Ending) (w' : World) : Prop := ∃ zs r,e = .returned r ∧ Own w.heap.size w' r zs ∧ zOA zs ∧ val zs = s ∧ Below w.heap.size w w'
end Go.Proofs.YtdeomkkpainakaaGreat
