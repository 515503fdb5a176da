/-
 QHWordsToMade: HWords, Carry, Made, joined.
-/
import Derived.Test.YtppddlbkdoebmaaQWordsToInts
import Derived.Laws.Externs
import Derived.Shelf.Spec.BitsCarry
import Derived.Deep.RegionHeld3
import Derived.Laws.CopyOwn

set_option maxRecDepth 100000
set_option maxHeartbeats 6400000
set_option linter.unusedVariables false
set_option linter.unusedSimpArgs false
namespace Go.Proofs.Ytppddlbkdoebmaa
def hwB : Int := 4294967296
def IsH (x : Int) : Prop := 0 ≤ x ∧ x < hwB
def HF (xs : List Int) : Prop := ∀ x ∈ xs,IsH x
def hval : List Int → Int
 | [] => 0
 | x :: r => x + hwB * hval r
def hwid : List Int → Nat
 | [] => 0
 | x :: r => if hwid r = 0 then (if x = 0 then 0 else 1) else hwid r + 1
def hpw : Nat → Int
 | 0 => 1
 | n + 1 => hwB * hpw n
def zMA (xs : List Int) : Prop := HF xs ∧ hwid xs = xs.length
theorem HF.nil : HF [] := fun x h => by cases h
theorem HF.cons {x : Int} {r : List Int} (hx : IsH x) (hr : HF r) : HF (x :: r) := by
 intro y hy;rcases List.mem_cons.1 hy with rfl | h
 ·exact hx
 ·exact hr y h
theorem HF.head {x : Int} {r : List Int} (h : HF (x :: r)) : IsH x := h x (by simp)
theorem HF.tail {x : Int} {r : List Int} (h : HF (x :: r)) : HF r := fun y hy => h y (by simp [hy])
theorem HF.take {xs : List Int} (h : HF xs) (n : Nat) : HF (xs.take n) := fun x hx => h x (List.mem_of_mem_take hx)
theorem HF.append {xs ys : List Int} (h : HF xs) (k : HF ys) : HF (xs ++ ys) := by
 intro x hx;rcases List.mem_append.1 hx with q | q
 ·exact h x q
 ·exact k x q
theorem HF.get {xs : List Int} (h : HF xs) {i : Nat} (hi : i < xs.length) : IsH xs[i] := h _ (List.getElem_mem hi)
theorem HF.set {xs : List Int} (h : HF xs) (i : Nat) {x : Int} (hx : IsH x) : HF (xs.set i x) := by
 intro y hy;rcases List.mem_or_eq_of_mem_set hy with q | rfl
 ·exact h y q
 ·exact hx
theorem zDA : ∀ {xs : List Int},HF xs → 0 ≤ hval xs
 | [],_ => by simp [hval]
 | x :: r,h => by
  have h1 := h.head;have h2 := zDA h.tail;unfold IsH hwB at h1;unfold hval hwB;omega
theorem zLG : ∀ xs : List Int,hwid xs ≤ xs.length
 | [] => by simp [hwid]
 | x :: r => by
  have := zLG r;unfold hwid;split
  ·split <;> simp
  ·simp;omega
theorem zoB : ∀ xs : List Int,hwid xs = 0 → hval xs = 0
 | [],_ => rfl
 | x :: r,h => by
  unfold hwid at h
  split at h
  ·rename_i h0
   have := zoB r h0
   split at h
   ·rename_i hx;simp [hval,hx,this]
   ·cases h
  ·cases h
theorem zrA : ∀ {xs : List Int},HF xs → 0 < hwid xs → 0 < hval xs
 | [],_,h => by simp [hwid] at h
 | x :: r,hw,h => by
  have h1 := hw.head;have h2 := zDA hw.tail;unfold hwid at h;unfold IsH hwB at h1
  split at h
  ·split at h
   ·cases h
   ·unfold hval hwB;omega
  ·have := zrA hw.tail (by omega)
   unfold hval hwB;omega
theorem zWB : ∀ {xs ys : List Int},HF xs → HF ys → hwid xs < hwid ys → hval xs < hval ys
 | [],ys,_,hy,h => by
  have := zrA hy (by simp [hwid] at h;exact h)
  simpa [hval] using this
 | x :: xs,[],_,_,h => by simp [hwid] at h
 | x :: xs,y :: ys,hx,hy,h => by
  have hx1 := hx.head;have hy1 := hy.head;have vy := zDA hy.tail
  by_cases e : hwid ys = 0
  ·have : hwid (y :: ys) ≤ 1 := by unfold hwid;rw [if_pos e];split <;> simp
   have h0 : hwid (x :: xs) = 0 := by omega
   rw [zoB _ h0];exact zrA hy (by omega)
  ·have e1 : hwid (y :: ys) = hwid ys + 1 := by rw [hwid,if_neg e]
   have e2 : hwid xs < hwid ys := by
    by_cases q : hwid xs = 0
    ·omega
    ·have : hwid (x :: xs) = hwid xs + 1 := by rw [hwid,if_neg q]
     omega
   have := zWB hx.tail hy.tail e2;unfold IsH hwB at hx1 hy1;unfold hval hwB;omega
theorem zkD : ∀ {ys : List Int},zMA ys → hval ys = 0 → ys = []
 | [],_,_ => rfl
 | y :: ys,hy,h => by
  exfalso
  have h2 := hy.2;have := zrA hy.1 (by rw [h2];simp);omega
def hlst (xs : List Int) : List Int := xs.take (hwid xs)
theorem hlength_lst (xs : List Int) : (hlst xs).length = hwid xs := by unfold hlst;have := zLG xs;simp;omega
theorem zDF (x : Int) (r : List Int) : hlst (x :: r) = if hwid r = 0 then (if x = 0 then [] else [x]) else x :: hlst r := by
 have e : hwid (x :: r) = if hwid r = 0 then (if x = 0 then 0 else 1) else hwid r + 1 := by rw [hwid]
 unfold hlst;rw [e]
 split
 ·split <;> simp
 ·simp
theorem zsF : ∀ xs : List Int,hval (hlst xs) = hval xs
 | [] => rfl
 | x :: r => by
  rw [zDF]
  split
  ·rename_i h0
   have := zoB r h0
   split
   ·rename_i hx;simp [hval,hx,this]
   ·simp [hval,this]
  ·simp [hval,zsF r]
theorem zrF : ∀ xs : List Int,hwid (hlst xs) = hwid xs
 | [] => rfl
 | x :: r => by
  rw [zDF,hwid]
  split
  ·split
   ·rfl
   ·rename_i hx;simp [hwid,hx]
  ·rename_i h0
   rw [hwid,zrF r,if_neg h0]
theorem hcanon_lst {xs : List Int} (h : HF xs) : zMA (hlst xs) := ⟨h.take _,by rw [zrF,hlength_lst]⟩
theorem zVA : ∀ {xs : List Int},HF xs → hval xs < hpw xs.length
 | [],_ => by simp [hval,hpw]
 | x :: r,h => by
  have h1 := h.head;have h2 := zVA h.tail;unfold IsH hwB at h1;simp only [List.length_cons];unfold hval hpw hwB;omega
theorem zcA : ∀ n,0 < hpw n
 | 0 => by simp [hpw]
 | n + 1 => by have := zcA n;unfold hpw hwB;omega
theorem zpB : ∀ (xs ys : List Int),hval (xs ++ ys) = hval xs + hpw xs.length * hval ys
 | [],ys => by simp [hval,hpw]
 | x :: r,ys => by
  simp only [List.cons_append,List.length_cons,hval,hpw,zpB r ys];rw [Int.mul_add,Int.mul_assoc];omega
theorem zQB : ∀ (xs : List Int) (i : Nat) (z : Int) (h : i < xs.length),hval (xs.set i z) = hval xs + (z - xs[i]) * hpw i
 | [],i,z,h => by simp at h
 | x :: r,0,z,_ => by simp [hval,hpw];omega
 | x :: r,i + 1,z,h => by
  have := zQB r i z (by simpa using h);simp only [List.set_cons_succ,List.getElem_cons_succ,hval,hpw,this];have h' : i < r.length := by simpa using h
  generalize hq : z - r[i]'h' = q;rw [Int.mul_add,← Int.mul_assoc,← Int.mul_assoc,Int.mul_comm hwB q];omega
theorem zQA (ys : List Int) (i : Nat) (h : i < ys.length) : hval (ys.take (i + 1)) = hval (ys.take i) + ys[i] * hpw i := by
 rw [List.take_succ_eq_append_getElem h,zpB];simp [hval,Int.mul_comm,Nat.min_eq_left (Nat.le_of_lt h)]
theorem zVF : ∀ {xs ys : List Int} {j : Nat},HF xs → HF ys → (hl : xs.length = ys.length) → (h : j < xs.length) → xs.drop (j + 1) = ys.drop (j + 1) → xs[j] ≠ ys[j]'(by omega) → cmpI (hval xs) (hval ys) = cmpI xs[j] (ys[j]'(by omega))
 | [],_,_,_,_,_,h,_,_ => by simp at h
 | x :: xs,[],_,_,_,hl,_,_,_ => by simp at hl
 | x :: xs,y :: ys,0,hx,hy,_,_,hd,hne => by
  simp only [List.drop_succ_cons,List.drop_zero] at hd;simp only [List.getElem_cons_zero] at hne ⊢;have hx1 := hx.head;have hy1 := hy.head;unfold IsH hwB at hx1 hy1;subst hd;simp only [cmpI,hval];have e1 : (x + hwB * hval xs < y + hwB * hval xs) ↔ x < y := by omega
  have e2 : (y + hwB * hval xs < x + hwB * hval xs) ↔ y < x := by omega
  simp only [e1,e2]
 | x :: xs,y :: ys,j + 1,hx,hy,hl,h,hd,hne => by
  simp only [List.drop_succ_cons] at hd;simp only [List.getElem_cons_succ] at hne ⊢;have ih := zVF hx.tail hy.tail (by simpa using hl) (by simpa using h) hd hne;have hx1 := hx.head;have hy1 := hy.head;unfold IsH hwB at hx1 hy1;rw [← ih];have hne' : hval xs ≠ hval ys := by
   intro e;rw [e,cmpI_self] at ih;exact hne (cmpI_zero ih.symm)
  rcases Int.lt_or_gt_of_ne hne' with q | q
  ·rw [zxA q,zxA (by unfold hval hwB;omega)]
  ·rw [zyA q,zyA (by unfold hval hwB;omega)]
theorem zSC : ∀ {xs : List Int} {n : Nat},hwid xs = n + 1 → ∃ h : n < xs.length,xs[n] ≠ 0
 | [],n,h => by simp [hwid] at h
 | x :: r,n,h => by
  unfold hwid at h
  split at h
  ·split at h
   ·cases h
   ·have : n = 0 := by omega
    subst this;exact ⟨by simp,by simpa⟩
  ·rename_i hr
   obtain ⟨m,hm⟩ : ∃ m,hwid r = m + 1 := ⟨hwid r - 1,by omega⟩
   obtain ⟨h1,h2⟩ := zSC hm;have : n = m + 1 := by omega
   subst this;exact ⟨by simpa using h1,by simpa using h2⟩
theorem zTF : ∀ xs : List Int,hwid xs = wid xs
 | [] => rfl
 | x :: r => by unfold hwid wid;rw [zTF r]
theorem zMG (xs : List Int) : hlst xs = lst xs := by unfold hlst lst;rw [zTF]
theorem HF.word {xs : List Int} (h : HF xs) : WF xs := fun x hx => by have := h x hx;unfold IsH hwB at this;unfold IsW wB;omega
theorem HF.drop {xs : List Int} (h : HF xs) (n : Nat) : HF (xs.drop n) := fun x hx => h x (List.mem_of_mem_drop hx)
theorem zsB (n : Nat) : HF (List.replicate n 0) := fun x hx => by rw [(List.mem_replicate.1 hx).2];unfold IsH hwB;omega
theorem zsA : ∀ n : Nat,hval (List.replicate n 0) = 0
 | 0 => rfl
 | n + 1 => by rw [List.replicate_succ];unfold hval;rw [zsA n];omega
theorem zrB : ∀ m n : Nat,hpw (m + n) = hpw m * hpw n
 | m,0 => by simp [hpw]
 | m,n + 1 => by rw [show m + (n + 1) = (m + n) + 1 by omega,hpw,hpw,zrB m n];simp only [Int.mul_left_comm]
theorem zwA {zs : List Int} {j : Nat} (hj : j ≤ zs.length) : hval zs = hval (zs.take j) + hpw j * hval (zs.drop j) := by
 have h := zpB (zs.take j) (zs.drop j);rw [List.take_append_drop,show (zs.take j).length = j by simp;omega] at h;exact h
theorem hcanon_lst' {xs : List Int} (h : HF xs) : zMA (lst xs) := by rw [← zMG];exact hcanon_lst h
theorem hval_lst' (xs : List Int) : hval (lst xs) = hval xs := by rw [← zMG];exact zsF xs
open Go.RowKit
theorem zXB {x y c : Int} (hx : IsW x) (hy : IsW y) (hc0 : 0 ≤ c) (hc : c ≤ 1) :
  ∃ s d,IsW s ∧ 0 ≤ d ∧ d ≤ 1 ∧ s + wB * d = x + y + c ∧
   ∀ w : World,(callFunc 83 #[.int .u64 x,.int .u64 y,.int .u64 c]).run Try.prog w = .ok (.value (.tuple #[.int .u64 s,.int .u64 d])) w := by
 refine ⟨(x + y + c) % 18446744073709551616,(x + y + c) / 18446744073709551616,?_,?_,?_,?_,fun w => ?_⟩
 ·unfold IsW wB;omega
 ·unfold IsW wB at hx hy;omega
 ·unfold IsW wB at hx hy;omega
 ·unfold wB;omega
 ·rw [run_callFunc_extern Try.func83 (by kernel_rfl) (by kernel_rfl) (by kernel_rfl) (e := add64Entry) (by kernel_rfl),run_add64 x y c hx.1 hy.1 hc0 hc]
  rfl
theorem zjC {x y c : Int} (hx : IsW x) (hy : IsW y) (hc0 : 0 ≤ c) (hc : c ≤ 1) :
  ∃ s d,IsW s ∧ 0 ≤ d ∧ d ≤ 1 ∧ s - wB * d = x - y - c ∧
   ∀ w : World,(callFunc 84 #[.int .u64 x,.int .u64 y,.int .u64 c]).run Try.prog w = .ok (.value (.tuple #[.int .u64 s,.int .u64 d])) w := by
 unfold IsW wB at hx hy;obtain ⟨X,rfl⟩ := Int.eq_ofNat_of_zero_le hx.1;obtain ⟨Y,rfl⟩ := Int.eq_ofNat_of_zero_le hy.1;obtain ⟨C,rfl⟩ := Int.eq_ofNat_of_zero_le hc0;refine ⟨(((X + 18446744073709551616 - Y - C) % 18446744073709551616 : Nat) : Int),((if X < Y + C then 1 else 0 : Nat) : Int),?_,?_,?_,?_,fun w => ?_⟩
 ·unfold IsW wB;omega
 ·omega
 ·split <;> omega
 ·unfold wB;split <;> omega
 ·rw [run_callFunc_extern Try.func84 (by kernel_rfl) (by kernel_rfl) (by kernel_rfl) (e := sub64Entry) (by kernel_rfl),run_sub64 X Y C (by omega)]
  rfl
def Row (w : World) (g : Nat) (L : List Value) : Prop := w.heap[g]? = some (.cells L.toArray 26 (0,0))
theorem Row.lt {w : World} {g : Nat} {L : List Value} (h : Row w g L) : g < w.heap.size := (Array.getElem?_eq_some_iff.1 h).1
theorem Row.cell {w : World} {g : Nat} {L : List Value} (h : Row w g L) {i : Nat} (hi : i < L.length) : w.cell? ⟨g,i,none⟩ = some L[i] := by
 unfold Row at h;simp [World.cell?,h,hi]
theorem Row.frozen {w : World} {g : Nat} {L : List Value} (h : Row w g L) (i : Nat) : w.frozen? ⟨g,i,none⟩ = false := by
 unfold Row at h;simp [World.frozen?,h]
theorem Row.set {w : World} {g : Nat} {L : List Value} (h : Row w g L) (i : Nat) (u : Value) : Row (w.setCell ⟨g,i,none⟩ u) g (L.set i u) := by
 unfold Row at h ⊢;simp [World.setCell,Array.getElem?_modify,h]
theorem Row.alloc {w : World} {g : Nat} {L : List Value} (h : Row w g L) (o : Obj) : Row (w.alloc o) g L := (Below.heap_alloc w o g h.lt).trans h
theorem Row.drewN {w : World} {g : Nat} {L : List Value} (h : Row w g L) (n : Nat) : Row (w.drewN n) g L := h
theorem Row.below {w w' : World} {g B : Nat} {L : List Value} (h : Row w g L) (hb : Below B w w') (hg : g < B) : Row w' g L := (hb.block g hg).trans h
def ws (xs : List Int) : List Value := xs.map (Value.int .u64)
theorem zGA (xs : List Int) : (ws xs).length = xs.length := by simp [ws]
theorem zcG (xs : List Int) (r : List Value) (i : Nat) (h : i < xs.length) (z : Int) : (ws xs ++ r).set i (.int .u64 z) = ws (xs.set i z) ++ r := by
 rw [List.set_append_left _ _ (by rw [zGA];exact h),ws,ws,List.map_set]
theorem Row.word {w : World} {g : Nat} {xs : List Int} {r : List Value} (h : Row w g (ws xs ++ r)) {i : Nat} (hi : i < xs.length) : w.cell? ⟨g,i,none⟩ = some (.int .u64 xs[i]) := by
 rw [h.cell (i := i) (by simp [zGA];omega)];simp [ws,hi]
theorem Row.setWord {w : World} {g : Nat} {xs : List Int} {r : List Value} (h : Row w g (ws xs ++ r)) {i : Nat} (hi : i < xs.length) (z : Int) : Row (w.setCell ⟨g,i,none⟩ (.int .u64 z)) g (ws (xs.set i z) ++ r) := by
 rw [← zcG xs r i hi];exact h.set i _
theorem Row.sl {w : World} {g : Nat} {xs : List Int} {r : List Value} (h : Row w g (ws xs ++ r)) (hw : WF xs) {cap : Nat} (hc : xs.length ≤ cap) (hm : cap ≤ 35184372088832) {B : Nat} (hB : g < B) :
  Sl B w (.slice (some ⟨g,0,none⟩) xs.length cap) xs :=
 ⟨hw,_,cap,rfl,hc,by omega,.inr ⟨g,0,rfl,hB,fun j hj => by rw [Nat.zero_add];exact h.word hj⟩⟩
theorem zxC {xs zs : List Int} {ysT ysT' p y s d c : Int} {i : Nat} (hi : i < zs.length) (hv : val zs + pw i * c = val xs + ysT) (hT : ysT' = ysT + y * pw i)
  (hs : s + wB * d = zs[i] + y + c) (hp : p = pw (i + 1)) : val (zs.set i s) + p * d = val xs + ysT' := by
 subst hp;rw [zIB zs i s hi,hT];generalize hz : zs[i] = z at *;have e : s = z + y + c - wB * d := by omega
 subst e;simp only [pw,Int.sub_mul,Int.add_mul,Int.mul_assoc,Int.mul_comm c (pw i),Int.mul_comm d (pw i)];omega
theorem zuD {xs zs : List Int} {ysT ysT' p y s d c : Int} {i : Nat} (hi : i < zs.length) (hv : val zs - pw i * c = val xs - ysT) (hT : ysT' = ysT + y * pw i)
  (hs : s - wB * d = zs[i] - y - c) (hp : p = pw (i + 1)) : val (zs.set i s) - p * d = val xs - ysT' := by
 subst hp;rw [zIB zs i s hi,hT];generalize hz : zs[i] = z at *;have e : s = z - y - c + wB * d := by omega
 subst e;simp only [pw,Int.sub_mul,Int.add_mul,Int.mul_assoc,Int.mul_comm c (pw i),Int.mul_comm d (pw i)];omega
theorem Try.infoW : (Try.prog.info? 26).map (fun i => (i.zero,i.size,i.bytes)) = some (some (.int .u64 0),1,8) := by kernel_rfl
theorem Try.sizeW : (Try.prog.info? 26).map (·.size) = some 1 := by kernel_rfl
theorem madeCells_words (m : Nat) : madeCells (Value.int .u64 0).cells m = (ws (List.replicate m 0)).toArray := by
 apply Array.ext
 ·simp [size_madeCells,ws]
 ·intro i h1 h2
  simp [madeCells,ws,Value.cells,Nat.mod_one]
theorem wpList_make_words (w : World) {ops : Array Oper} {rest : List Oper} {o : Oper} {a : Act} {Q : Exit → Act → World → Prop}
  (hg : o.guard = none) (l c : Operand) (hop : o.op = Op.makeSlice 25 l c)
  (L C : Int) (n m : Nat) (hl : a.eval l = .int .i64 L) (hc : a.eval c = .int .i64 C) (hL : L = (n : Int)) (hC : C = (m : Int)) (hnm : n ≤ m) (hm : m ≤ 35184372088832)
  (hK : ∀ w',Row w' w.heap.size (ws (List.replicate m 0)) → Below w.heap.size w w' → Hid (w'.heap.size = w.heap.size + 1) → wpList Try.prog ops Q rest (a.put o.dst (.slice (some ⟨w.heap.size,0,none⟩) n m)) w') :
  wpList Try.prog ops Q (o :: rest) a w := by
 refine wpList_plain hg fun K hK' => ?_
 obtain ⟨i,hi,hz,hs,hb⟩ := info_parts Try.infoW;have hrun := run_make (P := Try.prog) w 25 26 i (.int .u64 0) Try.underlying25 hi hz .i64 .i64 n m (by omega) (by omega) (by rw [hb];omega) (by omega);subst hL;subst hC;rw [hs,Nat.mul_one,Int.toNat_natCast,Int.toNat_natCast,madeCells_words] at hrun;unfold Oper.wp;simp [execOp,hop,hl,hc,hrun,Result.andThen];refine hK' _ _ (hK _ ?_ ((Below.refl _ _).alloc (Nat.le_refl _) _) ?_)
 ·unfold Row;exact heap_alloc_new w _
 ·unfold Hid;simp
theorem splice_words (N n : Nat) (src : List Int) (h : src.length = n) : splice (ws (List.replicate N 0)) 0 (ws src) = ws (src ++ List.replicate (N - n) 0) := by
 subst h;simp [splice,ws]
theorem znA (w : World) {ops : Array Oper} {rest : List Oper} {o : Oper} {a : Act} {Q : Exit → Act → World → Prop}
  (hgd : o.guard = none) (d s : Operand) (hop : o.op = .call { callee := .builtin .copy,args := #[d,s],argTypes := #[25,25] })
  (g N n capD capS : Nat) (sp : Option Addr) (src : List Int) (hrow : Row w g (ws (List.replicate N 0))) (hd : a.eval d = .slice (some ⟨g,0,none⟩) n capD) (hs : a.eval s = .slice sp n capS)
  (hlen : src.length = n) (hnN : n ≤ N)
  (hsl : src = [] ∨ ∃ b off,sp = some ⟨b,off,none⟩ ∧ b < g ∧ ∀ j (h : j < src.length),w.cell? ⟨b,off + j,none⟩ = some (.int .u64 src[j]))
  (hK : ∀ w',Row w' g (ws (src ++ List.replicate (N - n) 0)) → Below g w w' → wpList Try.prog ops Q rest (a.put o.dst (goInt n)) w') :
  wpList Try.prog ops Q (o :: rest) a w := by
 refine wpList_copy_splice hgd d s 25 25 hop 26 Try.underlying25 Try.sizeW _ _ n capD n capS hd hs g 0 (ws (List.replicate N 0)) 26 hrow (ws src) (by simp [zGA,hlen]) ?_ (by simp [zGA];omega) ?_ g w (Below.refl _ _) (Nat.le_refl _) ?_
 ·intro hpos
  rcases hsl with rfl | ⟨b,off,hsp,_,hc⟩
  ·simp [ws] at hpos
  ·refine ⟨rfl,_,hsp,fun j v hj => ?_⟩
   have hj' : j < src.length := by
    have := (List.getElem?_eq_some_iff.1 hj).1
    simpa [zGA] using this
   have : (ws src)[j]? = some (.int .u64 src[j]) := by simp [ws,hj']
   rw [this] at hj;rw [← hj];have e : (⟨b,off,none⟩ : Addr).add j = ⟨b,off + j,none⟩ := by unfold Addr.add;split <;> simp_all
   rw [e];exact hc j hj'
 ·intro v hv
  simp only [ws,List.mem_map] at hv;obtain ⟨x,_,rfl⟩ := hv
  rfl
 ·intro w' h1 h2
  have := hK w' (by unfold Row;rw [← splice_words N n src hlen];exact h1.out) h2
  simpa [zGA,hlen] using this
theorem Sl.source {B : Nat} {w : World} {a : Option Addr} {xs : List Int} {n : Nat} (hm : xs = [] ∨ ∃ b off,a = some ⟨b,off,none⟩ ∧ b < B ∧ ∀ j (h : j < xs.length),w.cell? ⟨b,off + j,none⟩ = some (.int .u64 xs[j])) :
  xs.take n = [] ∨ ∃ b off,a = some ⟨b,off,none⟩ ∧ b < B ∧ ∀ j (h : j < (xs.take n).length),w.cell? ⟨b,off + j,none⟩ = some (.int .u64 (xs.take n)[j]) := by
 rcases hm with rfl | ⟨b,off,h1,h2,h3⟩
 ·exact .inl (by simp)
 ·refine .inr ⟨b,off,h1,h2,fun j hj => ?_⟩
  simp only [List.length_take] at hj;rw [h3 j (by omega)]
  simp
theorem Sl.sourceB {B B' : Nat} {w w' : World} {a : Option Addr} {xs : List Int} (hm : xs = [] ∨ ∃ b off,a = some ⟨b,off,none⟩ ∧ b < B ∧ ∀ j (h : j < xs.length),w.cell? ⟨b,off + j,none⟩ = some (.int .u64 xs[j])) (hb : Below B' w w') (hB : B ≤ B') :
  xs = [] ∨ ∃ b off,a = some ⟨b,off,none⟩ ∧ b < B' ∧ ∀ j (h : j < xs.length),w'.cell? ⟨b,off + j,none⟩ = some (.int .u64 xs[j]) := by
 rcases hm with h | ⟨b,off,h1,h2,h3⟩
 ·exact .inl h
 ·exact .inr ⟨b,off,h1,by omega,fun j hj => (hb.cell (p := ⟨b,off + j,none⟩) (by show b < B';omega)).trans (h3 j hj)⟩
theorem least_any {w : World} {v : Value} {xs : List Int} (h : Sl w.heap.size w v xs) :
  Calls Try.prog 18 #[v] w fun e w' => e = .returned (.slice (some ⟨w.heap.size,0,none⟩) (wid xs) (wid xs)) ∧ Row w' w.heap.size (ws (lst xs)) ∧ Below w.heap.size w w' ∧ w.heap.size < w'.heap.size := by
 have hs := h;obtain ⟨hw,a,cap,rfl,hlc,hcm,hm⟩ := h;have HW1 := zeA hs;have l1 := zIA xs;have HL : Hid ((lst xs).length = wid xs) := length_lst xs;have hsrc := Sl.source (n := wid xs) hm
 change lst xs = [] ∨ ∃ b off,a = some ⟨b,off,none⟩ ∧ b < w.heap.size ∧ ∀ j (h : j < (lst xs).length),w.cell? ⟨b,off + j,none⟩ = some (.int .u64 (lst xs)[j]) at hsrc
 have HSRC := hid hsrc;generalize lst xs = L at *;generalize wid xs = n at *;clear hm hsrc hs hw;go_enter Try.func18,Try.ntmps18;go_wp2_with fail;refine HW1.mono ?_;rintro e w1 ⟨rfl,rfl⟩;clear HW1;go_wp2_with (at_make;refine wpList_make_words _ rfl _ _ rfl _ _ n n rfl rfl rfl rfl (Nat.le_refl _) (by omega) ?_)
 intro w2 hrow hb2 hsz2;have hsrc2 := hid (Sl.sourceB HSRC.out hb2 (Nat.le_refl _));have hhs : w1.heap.size < w2.heap.size := by have := hsz2.out;omega
 clear HSRC;go_wp2_with (refine znA _ rfl (.tmp 9) (.tmp 12) rfl w1.heap.size n n _ _ _ L hrow rfl rfl HL.out (Nat.le_refl _) hsrc2.out ?_)
 intro w3 hrow3 hb3;have hrow4 : Hid (Row w3 w1.heap.size (ws L)) := by unfold Hid;simpa using hrow3
 clear hrow3 hrow hsrc2;go_wp2;go_ret;exact ⟨rfl,hrow4.out,hb2.trans hb3,Nat.lt_of_lt_of_le hhs hb3.size⟩
end Go.Proofs.Ytppddlbkdoebmaa
