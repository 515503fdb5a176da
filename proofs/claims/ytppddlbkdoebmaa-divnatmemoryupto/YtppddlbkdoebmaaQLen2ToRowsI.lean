/-
 QLen2ToRowsI: Len2, Ref, RowsI, joined.
-/
import Derived.Test.YtppddlbkdoebmaaQWordsToInts
import Derived.Test.YtppddlbkdoebmaaQTrim3ToBits
import Derived.Shelf.Strconv.Itoa0
import Derived.Test.YtppddlbkdoebmaaQLitsToNow
import Derived.Test.YtppddlbkdoebmaaQHWordsToMade

set_option maxRecDepth 100000
set_option maxHeartbeats 6400000
set_option linter.unusedVariables false
set_option linter.unusedSimpArgs false
namespace Go.Proofs.Ytppddlbkdoebmaa
open Go.RowKit
theorem zPE : ∀ (f v : Nat),v < 2 ^ f → Lib.bitLenAux f v = bitLen v
 | 0,v,h => by simp at h;subst h;rfl
 | f + 1,v,h => by
  unfold Lib.bitLenAux
  split
  ·rename_i h0;subst h0;rfl
  ·rename_i h0
   rw [zPE f (v / 2) (by rw [Nat.pow_succ] at h;omega)]
   by_cases h1 : v / 2 = 0
   ·have : v = 1 := by omega
    subst this;rfl
   ·rw [bitLen_shift v 1 (by simpa using h1)]
def lays129_ren : Go.Shelf.Ren := ⟨fun | 129 => 66 | n => n,fun | 53 => 26 | 3 => 3 | 4 => 4 | 46 => 67 | 5 => 5 | 9 => 9 | n => n,fun | n => n⟩
theorem lays129 : Go.Proofs.Lays.n129 Try.prog lays129_ren := {
 mixed := by kernel_rfl
 f129 := Try.func66.trans (congrArg some (by kernel_rfl))
 t3 := Try.underlying3
 a3 := Try.isAgg3
 z3 := Try.sizeOf3
 v3 := Try.zeroValue3
 t4 := Try.underlying4
 a4 := Try.isAgg4
 z4 := Try.sizeOf4
 v4 := Try.zeroValue4
 t5 := Try.underlying5
 a5 := Try.isAgg5
 z5 := Try.sizeOf5
 v5 := Try.zeroValue5
 t9 := Try.underlying9
 a9 := Try.isAgg9
 z9 := Try.sizeOf9
 v9 := Try.zeroValue9
 t46 := Try.underlying67
 a46 := Try.isAgg67
 z46 := Try.sizeOf67
 v46 := Try.zeroValue67
 t53 := Try.underlying26
 a53 := Try.isAgg26
 z53 := Try.sizeOf26
 v53 := Try.zeroValue26 }
theorem ziD {x : Int} (hx : IsW x) (w : World) : Calls Try.prog 66 #[.int .u64 x] w fun e w' => e = .returned (.int .i64 (bitLen x.toNat : Int)) ∧ w' = w := by
 have h := zeB hx;have hb : x ≤ 18446744073709551615 := by unfold IsW wB at hx;omega
 have := Any.bits_Len64 lays129 x w hx.1 hb;rw [show Lib.bitLen x.toNat = bitLen x.toNat from zPE 64 _ h] at this;exact this
theorem zKC {x : Nat} (h : x < 2 ^ 64) : bitLen x ≤ 64 := by
 unfold bitLen
 split
 ·omega
 ·rename_i h0
  have := (Nat.log2_lt h0).2 h;omega
theorem ztA {B : Nat} {w : World} {v : Value} {xs : List Int} (h : Sl B w v xs) :
  Calls Try.prog 60 #[v] w fun e w' => e = .returned (.int .i64 (bitLen (vn xs) : Int)) ∧ w' = w := by
 have hs := h;obtain ⟨hw,a,cap,rfl,hlc,hcm,hm⟩ := h;have HW := zeA hs;have l1 := zIA xs
 by_cases h0 : wid xs = 0
 ·rw [zYC hw h0]
  rw [h0] at HW;have hz : ((0 : Int) == 0) = true := rfl;go_enter Try.func60,Try.ntmps60;go_wp2_with fail;refine HW.mono ?_;rintro e w1 ⟨rfl,rfl⟩;clear HW;go_wp2;go_ret;exact ⟨rfl,rfl⟩
 ·obtain ⟨n,hn⟩ : ∃ n,wid xs = n + 1 := ⟨wid xs - 1,by omega⟩
  obtain ⟨hl,hne⟩ := zsC hn;rcases hm with e | ⟨b,off,rfl,hb,hc⟩
  ·subst e;simp at hl
  have c1 := hc n hl;have hx := hw.get hl;have HB : Hid (bitLen (vn xs) = 64 * n + bitLen xs[n].toNat) := zGD hw hn hl;have hbs := zKC (zeB hx);have HLn := hid (ziD hx w);rw [hn] at HW l1;generalize xs[n] = x at *;generalize bitLen x.toNat = bx at *;generalize bitLen (vn xs) = r at *;have hz : (((n + 1 : Nat) : Int) == 0) = false := by rw [beq_eq_false_iff_ne];omega
  clear hc hw h0 hn hne hs;go_enter Try.func60,Try.ntmps60;go_wp2_with fail;refine HW.mono ?_;rintro e w1 ⟨rfl,rfl⟩;clear HW;go_wp2_with fail;refine HLn.out.mono ?_;rintro e w2 ⟨rfl,rfl⟩;go_wp2;go_ret;refine ⟨congrArg Ending.returned (congrArg (Value.int IntKind.i64) ?_),rfl⟩;rw [HB.out];omega
theorem zaF {B : Nat} {w : World} {v : Value} {xs : List Int} (h : SlI B w v xs) :
  Calls Try.prog 63 #[v] w fun e w' => ∃ r,e = .returned r ∧ SlI B w r (dlst xs) ∧ w' = w := by
 have hs := h;obtain ⟨hw,a,cap,rfl,hlc,hcm,hm⟩ := h;have HW : Hid (∀ n : Nat,n ≤ xs.length → (∀ j (h : j < xs.length),n ≤ j → xs[j] = 0) → (0 < n → ∀ h' : n - 1 < xs.length,xs[n - 1] ≠ 0) → dwid xs = n) := fun n h1 h2 h3 => zdE h1 h2 h3
 have HF : Hid (∀ n,dwid xs = n → SlI B w (.slice a n cap) (dlst xs)) := fun n hn => by
  subst hn;have l := znD xs;refine ⟨fun p hp => hw p (List.mem_of_mem_take hp),a,cap,by rw [zDB],by rw [zDB];omega,hcm,?_⟩;rcases hm with rfl | ⟨b,off,h1,h2,h3⟩
  ·exact .inl rfl
  ·refine .inr ⟨b,off,h1,h2,fun j hj => ?_⟩
   rw [zDB] at hj;rw [h3 j (by omega),dlst_get hj]
 have HM := hid hm;clear hs;go_enter Try.func63,Try.ntmps63;go_wp2
 go_loop [3] (fun i => ∃ n : Nat,n ≤ xs.length ∧ i = .int .i64 n ∧ ∀ j (h : j < xs.length),n ≤ j → xs[j] = 0) (fun i => (intOf i).toNat)
 case atStart => exact ⟨xs.length,Nat.le_refl _,rfl,fun j h h' => by omega⟩
 case round =>
  obtain ⟨n,hn,rfl,hz⟩ := hrel;have HZ := hid hz;clear hz hm
  by_cases h0 : n = 0
  ·subst h0
   go_wp2;go_ret;exact ⟨_,rfl,HF.out 0 (HW.out 0 (by omega) HZ.out (by omega)),rfl⟩
  ·obtain ⟨k,rfl⟩ : ∃ k,n = k + 1 := ⟨n - 1,by omega⟩
   rcases HM.out with rfl | ⟨b,off,rfl,hb,hc⟩
   ·simp at hn
   ·have hk : k < xs.length := by omega
    have hck := hc k hk;obtain ⟨x,hx⟩ : ∃ x,x = xs[k] := ⟨_,rfl⟩
    rw [← hx] at hck;have HX : Hid (x = xs[k]) := hx;clear hx hc h0
    by_cases hx0 : x = 0
    ·have ht : (x == 0) = true := by simp [hx0]
     go_wp2;go_round
     case rel =>
      refine ⟨k,by omega,rfl,fun j h hj => ?_⟩
      by_cases e : j = k
      ·subst e;rw [← HX.out];exact hx0
      ·exact HZ.out j h (by omega)
     case measure => simp [intOf]
    ·have ht : (x == 0) = false := by simp [hx0]
     go_wp2;go_ret;exact ⟨_,rfl,HF.out (k + 1) (HW.out (k + 1) hn HZ.out (fun _ h' => by have := HX.out;simp at h' ⊢;rw [← this];exact hx0)),rfl⟩
def RowI (w : World) (g : Nat) (L : List Value) : Prop := w.heap[g]? = some (.cells L.toArray 3 (0,0))
theorem RowI.lt {w : World} {g : Nat} {L : List Value} (h : RowI w g L) : g < w.heap.size := (Array.getElem?_eq_some_iff.1 h).1
theorem RowI.cell {w : World} {g : Nat} {L : List Value} (h : RowI w g L) {i : Nat} (hi : i < L.length) : w.cell? ⟨g,i,none⟩ = some L[i] := by
 unfold RowI at h;simp [World.cell?,h,hi]
theorem RowI.alloc {w : World} {g : Nat} {L : List Value} (h : RowI w g L) (o : Obj) : RowI (w.alloc o) g L := (Below.heap_alloc w o g h.lt).trans h
def wi (xs : List Int) : List Value := xs.map (Value.int .i64)
theorem zAF (xs : List Int) : (wi xs).length = xs.length := by simp [wi]
theorem RowI.num {w : World} {g : Nat} {xs : List Int} {r : List Value} (h : RowI w g (wi xs ++ r)) {i : Nat} (hi : i < xs.length) : w.cell? ⟨g,i,none⟩ = some (.int .i64 xs[i]) := by
 rw [h.cell (i := i) (by simp [zAF];omega)];simp [wi,hi]
theorem Try.infoI : (Try.prog.info? 3).map (fun i => (i.zero,i.size,i.bytes)) = some (some (.int .i64 0),1,8) := by kernel_rfl
theorem madeCells_ints (m : Nat) : madeCells (Value.int .i64 0).cells m = (wi (List.replicate m 0)).toArray := by
 apply Array.ext
 ·simp [size_madeCells,wi]
 ·intro i h1 h2
  simp [madeCells,wi,Value.cells,Nat.mod_one]
theorem wpList_make_ints (w : World) {ops : Array Oper} {rest : List Oper} {o : Oper} {a : Act} {Q : Exit → Act → World → Prop}
  (hg : o.guard = none) (l c : Operand) (hop : o.op = Op.makeSlice 60 l c)
  (L C : Int) (n m : Nat) (hl : a.eval l = .int .i64 L) (hc : a.eval c = .int .i64 C) (hL : L = (n : Int)) (hC : C = (m : Int)) (hnm : n ≤ m) (hm : m ≤ 35184372088832)
  (hK : ∀ w',RowI w' w.heap.size (wi (List.replicate m 0)) → Below w.heap.size w w' → Hid (w'.heap.size = w.heap.size + 1) → wpList Try.prog ops Q rest (a.put o.dst (.slice (some ⟨w.heap.size,0,none⟩) n m)) w') :
  wpList Try.prog ops Q (o :: rest) a w := by
 refine wpList_plain hg fun K hK' => ?_
 obtain ⟨i,hi,hz,hs,hb⟩ := info_parts Try.infoI;have hrun := run_make (P := Try.prog) w 60 3 i (.int .i64 0) Try.underlying60 hi hz .i64 .i64 n m (by omega) (by omega) (by rw [hb];omega) (by omega);subst hL;subst hC;rw [hs,Nat.mul_one,Int.toNat_natCast,Int.toNat_natCast,madeCells_ints] at hrun;unfold Oper.wp;simp [execOp,hop,hl,hc,hrun,Result.andThen];refine hK' _ _ (hK _ ?_ ((Below.refl _ _).alloc (Nat.le_refl _) _) ?_)
 ·unfold RowI;exact heap_alloc_new w _
 ·unfold Hid;simp
theorem RowI.sl {w : World} {g : Nat} {xs : List Int} {r : List Value} (h : RowI w g (wi xs ++ r)) (hw : ∀ p ∈ xs,-9223372036854775808 ≤ p ∧ p ≤ 9223372036854775807) {cap : Nat} (hc : xs.length ≤ cap) (hm : cap ≤ 35184372088832) {B : Nat} (hB : g < B) :
  SlI B w (.slice (some ⟨g,0,none⟩) xs.length cap) xs :=
 ⟨hw,_,cap,rfl,hc,hm,.inr ⟨g,0,rfl,hB,fun j hj => by rw [Nat.zero_add];exact h.num hj⟩⟩
theorem wpList_append_intN (w : World) {ops : Array Oper} {rest : List Oper} {o : Oper} {a : Act} {Q : Exit → Act → World → Prop}
  (hg : o.guard = none) (s x : Operand) (hop : o.op = Op.call { callee := Callee.builtin Builtin.append,args := #[s,x],argTypes := #[60,60] })
  (g n cap : Nat) (zs : List Int) (r : List Value) (c : Int) (hrow : RowI w g (wi zs ++ r)) (hn : zs.length = n) (hr : 0 < r.length) (hcap : cap = n + r.length) (hs : a.eval s = .slice (some ⟨g,0,none⟩) n cap)
  (ad : Addr) (hx : a.eval x = .slice (some ad) 1 1) (hc : w.cell? ad = some (.int .i64 c))
  (hK : ∀ w',RowI w' g (wi (zs ++ [c]) ++ r.tail) → Below g w w' → wpList Try.prog ops Q rest (a.put o.dst (.slice (some ⟨g,0,none⟩) (n + 1) cap)) w') :
  wpList Try.prog ops Q (o :: rest) a w := by
 obtain ⟨i,hi,hz,hsz,hb⟩ := info_parts Try.infoI;subst hn;have hlw : (wi zs).length = zs.length := by simp [wi]
 have hrun := run_append_room (P := Try.prog) w 60 o.type 3 i Try.underlying60 hi g zs.length cap (wi zs ++ r).toArray hrow ad 1 1 [.int .i64 c] (by simp [hsz])
  (by intro j u hj;match j,hj with | 0,hj => simp at hj;subst hj;simpa [Addr.add] using hc) (by intro u hu;simp at hu;subst hu;rfl) (by omega) (by simp [hsz,hlw];omega)
 have e : (wi zs ++ r).take (zs.length * i.size) ++ [Value.int .i64 c] ++ (wi zs ++ r).drop (zs.length * i.size + 1) = wi (zs ++ [c]) ++ r.tail := by
  rw [hsz,Nat.mul_one,List.take_append_of_le_length (by omega),List.take_of_length_le (by omega),List.drop_append,List.drop_of_length_le (by omega),hlw,show zs.length + 1 - zs.length = 1 by omega];simp [wi]
 rw [List.toList_toArray,show [Value.int .i64 c].length = 1 from rfl,e] at hrun;refine wpList_plain hg fun K hK' => ?_
 unfold Oper.wp;simp [execOp,hop,resolve,invoke,builtin,hs,hx,hrun,Result.andThen];refine hK' _ _ (hK _ ?_ (below_setRow (Below.refl _ _) (Nat.le_refl _) _));unfold RowI;exact setRow_heap w g _ _ _ _ hrow
theorem wpList_append_more (w : World) {ops : Array Oper} {rest : List Oper} {o : Oper} {a : Act} {Q : Exit → Act → World → Prop}
  (hg : o.guard = none) (s x : Operand) (hop : o.op = Op.call { callee := Callee.builtin Builtin.append,args := #[s,x],argTypes := #[25,25] })
  (g n cap : Nat) (zs : List Int) (r : List Value) (c : Int) (hrow : Row w g (ws zs ++ r)) (hn : zs.length = n) (hr : 0 < r.length) (hcap : cap = n + r.length) (hs : a.eval s = .slice (some ⟨g,0,none⟩) n cap)
  (ad : Addr) (hx : a.eval x = .slice (some ad) 1 1) (hc : w.cell? ad = some (.int .u64 c))
  (hK : ∀ w',Row w' g (ws (zs ++ [c]) ++ r.tail) → Below g w w' → wpList Try.prog ops Q rest (a.put o.dst (.slice (some ⟨g,0,none⟩) (n + 1) cap)) w') :
  wpList Try.prog ops Q (o :: rest) a w := by
 obtain ⟨i,hi,hz,hsz,hb⟩ := info_parts Try.infoW;subst hn;have hlw : (ws zs).length = zs.length := by simp [ws]
 have hrun := run_append_room (P := Try.prog) w 25 o.type 26 i Try.underlying25 hi g zs.length cap (ws zs ++ r).toArray hrow ad 1 1 [.int .u64 c] (by simp [hsz])
  (by intro j u hj;match j,hj with | 0,hj => simp at hj;subst hj;simpa [Addr.add] using hc) (by intro u hu;simp at hu;subst hu;rfl) (by omega) (by simp [hsz,hlw];omega)
 have e : (ws zs ++ r).take (zs.length * i.size) ++ [Value.int .u64 c] ++ (ws zs ++ r).drop (zs.length * i.size + 1) = ws (zs ++ [c]) ++ r.tail := by
  rw [hsz,Nat.mul_one,List.take_append_of_le_length (by omega),List.take_of_length_le (by omega),List.drop_append,List.drop_of_length_le (by omega),hlw,show zs.length + 1 - zs.length = 1 by omega];simp [ws]
 rw [List.toList_toArray,show [Value.int .u64 c].length = 1 from rfl,e] at hrun;refine wpList_plain hg fun K hK' => ?_
 unfold Oper.wp;simp [execOp,hop,resolve,invoke,builtin,hs,hx,hrun,Result.andThen];refine hK' _ _ (hK _ ?_ (below_setRow (Below.refl _ _) (Nat.le_refl _) _));unfold Row;exact setRow_heap w g _ _ _ _ hrow
end Go.Proofs.Ytppddlbkdoebmaa
