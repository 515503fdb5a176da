/-
 QBitsToAdd: Bits, Len2, Trim, ByWord, Cut, AddTo, Add, joined.
-/
import Derived.Test.YtkklldokdnfkgaaGreatQWordsToCarry
import Derived.Laws.MathBits
import Derived.Lib.TrailingZeros
import Derived.Shelf.Strconv.Itoa0
import Derived.Test.YtkklldokdnfkgaaGreatQProdToMade

set_option maxRecDepth 100000
set_option maxHeartbeats 6400000
set_option linter.unusedVariables false
set_option linter.unusedSimpArgs false
namespace Go.Proofs.YtkklldokdnfkgaaGreat
def vn : List Int → Nat
 | [] => 0
 | x :: r => x.toNat + 2 ^ 64 * vn r
theorem zdA : ∀ {xs : List Int},WF xs → val xs = (vn xs : Int)
 | [],_ => rfl
 | x :: r,h => by
  have h1 := h.head;unfold IsW wB at h1;rw [val,vn,zdA h.tail];unfold wB;omega
theorem zdI {xs ys : List Int} (hx : WF xs) (hy : WF ys) : vn xs = vn ys ↔ val xs = val ys := by
 rw [zdA hx,zdA hy];omega
theorem zsB {x : Int} (h : IsW x) : x.toNat < 2 ^ 64 := by unfold IsW wB at h;omega
theorem zBI : ∀ {xs : List Int},WF xs → vn xs < 2 ^ (64 * xs.length)
 | [],_ => by simp [vn]
 | x :: r,h => by
  have h1 := zsB h.head;have h2 := zBI h.tail;rw [vn,List.length_cons,show 64 * (r.length + 1) = 64 + 64 * r.length by omega,Nat.pow_add];have := Nat.mul_le_mul_left (2 ^ 64) (Nat.succ_le_of_lt h2);rw [Nat.mul_succ] at this;omega
theorem zsD : ∀ (xs ys : List Int),vn (xs ++ ys) = vn xs + 2 ^ (64 * xs.length) * vn ys
 | [],ys => by simp [vn]
 | x :: r,ys => by
  rw [List.cons_append,vn,vn,zsD r ys,List.length_cons,show 64 * (r.length + 1) = 64 + 64 * r.length by omega,Nat.pow_add,Nat.mul_add,Nat.mul_assoc];omega
theorem zSG {xs : List Int} (h : ∀ x ∈ xs,x = 0) : vn xs = 0 := by
 induction xs with
 | nil => rfl
 | cons x r ih => rw [vn,h x (by simp),ih (fun y hy => h y (by simp [hy]))];simp
theorem bitLen_top {lo top s : Nat} (h : lo < 2 ^ s) (ht : top ≠ 0) : bitLen (lo + 2 ^ s * top) = s + bitLen top := by
 have hp : 0 < 2 ^ s := Nat.two_pow_pos s;have e : (lo + 2 ^ s * top) / 2 ^ s = top := by
  rw [Nat.add_mul_div_left _ _ hp,Nat.div_eq_of_lt h];omega
 rw [bitLen_shift _ s (by rw [e];exact ht),e]
theorem zaF {xs : List Int} {n : Nat} (hn : wid xs = n + 1) (h : n < xs.length) : lst xs = xs.take n ++ [xs[n]] := by
 unfold lst;rw [hn,List.take_succ_eq_append_getElem h]
theorem zrD : ∀ {xs : List Int} {n : Nat},wid xs = n + 1 → ∃ h : n < xs.length,xs[n] ≠ 0
 | [],n,h => by simp [wid] at h
 | x :: r,n,h => by
  unfold wid at h
  split at h
  ·split at h
   ·cases h
   ·have : n = 0 := by omega
    subst this;exact ⟨by simp,by simpa⟩
  ·rename_i hr
   obtain ⟨m,hm⟩ : ∃ m,wid r = m + 1 := ⟨wid r - 1,by omega⟩
   obtain ⟨h1,h2⟩ := zrD hm;have : n = m + 1 := by omega
   subst this;exact ⟨by simpa using h1,by simpa using h2⟩
theorem zTG {xs : List Int} (h : WF xs) : vn (lst xs) = vn xs := (zdI (zHA h).1 h).2 (zQA xs)
theorem bitLen_words {xs : List Int} (hw : WF xs) {n : Nat} (hn : wid xs = n + 1) (h : n < xs.length) : bitLen (vn xs) = 64 * n + bitLen xs[n].toNat := by
 obtain ⟨_,hne⟩ := zrD hn;rw [← zTG hw,zaF hn h,zsD];have hl : (xs.take n).length = n := by simp;omega
 have h1 := zBI (hw.take n);rw [hl] at h1 ⊢;have e : vn [xs[n]] = xs[n].toNat := by simp [vn]
 rw [e];refine bitLen_top h1 ?_;have := (hw.get h).1;omega
theorem zqD {xs : List Int} (hw : WF xs) (h : wid xs = 0) : vn xs = 0 := by
 have := zqA xs h;rw [zdA hw] at this;omega
open Go.RowKit
theorem zgE : ∀ (f v : Nat),v < 2 ^ f → Lib.bitLenAux f v = bitLen v
 | 0,v,h => by simp at h;subst h;rfl
 | f + 1,v,h => by
  unfold Lib.bitLenAux
  split
  ·rename_i h0;subst h0;rfl
  ·rename_i h0
   rw [zgE f (v / 2) (by rw [Nat.pow_succ] at h;omega)]
   by_cases h1 : v / 2 = 0
   ·have : v = 1 := by omega
    subst this;rfl
   ·rw [bitLen_shift v 1 (by simpa using h1)]
def lays129_ren : Go.Shelf.Ren := ⟨fun | 129 => 105 | n => n,fun | 53 => 25 | 3 => 3 | 4 => 4 | 46 => 97 | 5 => 5 | 9 => 9 | n => n,fun | n => n⟩
theorem lays129 : Go.Proofs.Lays.n129 Tryz.prog lays129_ren := {
 mixed := by kernel_rfl
 f129 := Tryz.func105.trans (congrArg some (by kernel_rfl))
 t3 := Tryz.underlying3
 a3 := Tryz.isAgg3
 z3 := Tryz.sizeOf3
 v3 := Tryz.zeroValue3
 t4 := Tryz.underlying4
 a4 := Tryz.isAgg4
 z4 := Tryz.sizeOf4
 v4 := Tryz.zeroValue4
 t5 := Tryz.underlying5
 a5 := Tryz.isAgg5
 z5 := Tryz.sizeOf5
 v5 := Tryz.zeroValue5
 t9 := Tryz.underlying9
 a9 := Tryz.isAgg9
 z9 := Tryz.sizeOf9
 v9 := Tryz.zeroValue9
 t46 := Tryz.underlying97
 a46 := Tryz.isAgg97
 z46 := Tryz.sizeOf97
 v46 := Tryz.zeroValue97
 t53 := Tryz.underlying25
 a53 := Tryz.isAgg25
 z53 := Tryz.sizeOf25
 v53 := Tryz.zeroValue25 }
theorem zcF {x : Int} (hx : IsW x) (w : World) : Calls Tryz.prog 105 #[.int .u64 x] w fun e w' => e = .returned (.int .i64 (bitLen x.toNat : Int)) ∧ w' = w := by
 have h := zsB hx;have hb : x ≤ 18446744073709551615 := by unfold IsW wB at hx;omega
 have := Any.bits_Len64 lays129 x w hx.1 hb;rw [show Lib.bitLen x.toNat = bitLen x.toNat from zgE 64 _ h] at this;exact this
theorem zaD {x : Nat} (h : x < 2 ^ 64) : bitLen x ≤ 64 := by
 unfold bitLen
 split
 ·omega
 ·rename_i h0
  have := (Nat.log2_lt h0).2 h;omega
theorem bitLen_any {B : Nat} {w : World} {v : Value} {xs : List Int} (h : Sl B w v xs) :
  Calls Tryz.prog 93 #[v] w fun e w' => e = .returned (.int .i64 (bitLen (vn xs) : Int)) ∧ w' = w := by
 have hs := h;obtain ⟨hw,a,cap,rfl,hlc,hcm,hm⟩ := h;have HW := zcA hs;have l1 := zOA xs
 by_cases h0 : wid xs = 0
 ·rw [zqD hw h0]
  rw [h0] at HW;have hz : ((0 : Int) == 0) = true := rfl;go_enter Tryz.func93,Tryz.ntmps93;go_wp2_with fail;refine HW.mono ?_;rintro e w1 ⟨rfl,rfl⟩;clear HW;go_wp2;go_ret;exact ⟨rfl,rfl⟩
 ·obtain ⟨n,hn⟩ : ∃ n,wid xs = n + 1 := ⟨wid xs - 1,by omega⟩
  obtain ⟨hl,hne⟩ := zrD hn;rcases hm with e | ⟨b,off,rfl,hb,hc⟩
  ·subst e;simp at hl
  have c1 := hc n hl;have hx := hw.get hl;have HB : Hid (bitLen (vn xs) = 64 * n + bitLen xs[n].toNat) := bitLen_words hw hn hl;have hbs := zaD (zsB hx);have HLn := hid (zcF hx w);rw [hn] at HW l1;generalize xs[n] = x at *;generalize bitLen x.toNat = bx at *;generalize bitLen (vn xs) = r at *;have hz : (((n + 1 : Nat) : Int) == 0) = false := by rw [beq_eq_false_iff_ne];omega
  clear hc hw h0 hn hne hs;go_enter Tryz.func93,Tryz.ntmps93;go_wp2_with fail;refine HW.mono ?_;rintro e w1 ⟨rfl,rfl⟩;clear HW;go_wp2_with fail;refine HLn.out.mono ?_;rintro e w2 ⟨rfl,rfl⟩;go_wp2;go_ret;refine ⟨congrArg Ending.returned (congrArg (Value.int IntKind.i64) ?_),rfl⟩;rw [HB.out];omega
def Mine (B : Nat) (w : World) (v : Value) (zs : List Int) : Prop :=
 WF zs ∧ ((v = .slice none 0 0 ∧ zs = []) ∨ ∃ g r cap,B ≤ g ∧ zs.length ≤ 35184372088832 ∧ zs.length ≤ cap ∧ (cap = zs.length ∨ (cap = zs.length + r.length ∧ cap ≤ maxLen)) ∧ v = .slice (some ⟨g,0,none⟩) zs.length cap ∧ Row w g (ws zs ++ r))
theorem Mine.sl {B : Nat} {w : World} {v : Value} {zs : List Int} (h : Mine B w v zs) : Sl w.heap.size w v zs := by
 obtain ⟨hw,⟨h1,h2⟩ | ⟨g,r,cap,h1,h2,h3,h4,h5,h6⟩⟩ := h
 ·subst h1 h2;exact Sl.nilAt w
 ·subst h5
  exact ⟨hw,_,cap,rfl,h3,h2,.inr ⟨g,0,rfl,h6.lt,fun j hj => by rw [Nat.zero_add];exact h6.word hj⟩⟩
theorem Mine.nil (B : Nat) (w : World) : Mine B w (.slice none 0 0) [] := ⟨WF.nil,.inl ⟨rfl,rfl⟩⟩
theorem Mine.mono {B B' : Nat} {w : World} {v : Value} {zs : List Int} (h : Mine B w v zs) (hB : B' ≤ B) : Mine B' w v zs := by
 obtain ⟨hw,h | ⟨g,r,cap,h1,h2⟩⟩ := h
 ·exact ⟨hw,.inl h⟩
 ·exact ⟨hw,.inr ⟨g,r,cap,by omega,h2⟩⟩
theorem Mine.below {B : Nat} {w w' : World} {v : Value} {zs : List Int} (h : Mine B w v zs) (hb : Below w.heap.size w w') : Mine B w' v zs := by
 obtain ⟨hw,h | ⟨g,r,cap,h1,h2,h3,h4,h5,h6⟩⟩ := h
 ·exact ⟨hw,.inl h⟩
 ·exact ⟨hw,.inr ⟨g,r,cap,h1,h2,h3,h4,h5,h6.below hb h6.lt⟩⟩


theorem zqF {g : Nat} {w : World} {u : Value} {zs0 ys : List Int} {r : List Value} {cap : Nat} (hz0 : WF zs0) (hrow : Row w g (ws zs0 ++ r)) (hlz : zs0.length ≤ 35184372088832) (hy : Sl g w u ys) (hl : ys.length ≤ zs0.length) :
  Calls Tryz.prog 106 #[.slice (some ⟨g,0,none⟩) zs0.length cap,u] w fun e w' =>
   ∃ zs c,e = .returned (.int .u64 c) ∧ zs.length = zs0.length ∧ WF zs ∧ 0 ≤ c ∧ c ≤ 1 ∧ val zs + pw zs0.length * c = val zs0 + val ys ∧ Row w' g (ws zs ++ r) ∧ Below g w w' := by
 obtain ⟨hwy,a,capy,rfl,hlc,hcm,hm⟩ := hy;have HV0 : Hid (val zs0 + pw 0 * 0 = val zs0 + val (ys.take 0)) := by unfold Hid;simp [val]
 have HTL : Hid (ys.take ys.length = ys) := by unfold Hid;simp
 obtain ⟨m,hmz⟩ : ∃ m,m = zs0.length := ⟨_,rfl⟩
 obtain ⟨n,hny⟩ : ∃ n,n = ys.length := ⟨_,rfl⟩
 rw [← hmz] at hl hlz;rw [← hny] at hl hlc HTL;rw [← hmz,← hny];have HM : Hid (m = zs0.length) := hmz;have HN : Hid (n = ys.length) := hny;clear hmz hny;go_enter Tryz.func106,Tryz.ntmps106;go_wp2_with fail
 go_loopw [5,10] (fun c i wr => ∃ (k : Nat) (zs : List Int) (cc : Int),k ≤ n ∧ i = .int .i64 k ∧ c = .int .u64 cc ∧ 0 ≤ cc ∧ cc ≤ 1 ∧ Hid (zs.length = m) ∧ WF zs ∧ Hid (val zs + pw k * cc = val zs0 + val (ys.take k)) ∧ Row wr g (ws zs ++ r) ∧ Below g w wr) (fun _ i _ => n - (intOf i).toNat)
 case atStart => exact ⟨0,zs0,0,Nat.zero_le _,rfl,rfl,by omega,by omega,HM.out.symm,hz0,HV0,hrow,Below.refl _ _⟩
 case round =>
  obtain ⟨k,zs,cc,hk,rfl,rfl,hc0,hc1,HL,hwz,HV,hr,hb⟩ := hrel
  by_cases hlt : k < n
  ·have hk1 : k < zs.length := by have := HL.out;omega
   have hk2 : k < ys.length := by have := HN.out;omega
   rcases hm with e | ⟨b,off,rfl,hbg,hcy⟩
   ·subst e;simp at hk2
   have c1 : wr.cell? ⟨g,k,none⟩ = some (.int .u64 zs[k]) := hr.word hk1;have c2 : wr.cell? ⟨b,off + k,none⟩ = some (.int .u64 ys[k]) := (hb.cell (p := ⟨b,off + k,none⟩) hbg).trans (hcy k hk2);have cf : wr.frozen? ⟨g,k,none⟩ = false := hr.frozen k;obtain ⟨s,d,hs,hd0,hd1,hsum,hadd⟩ := zQC (hwz.get hk1) (hwy.get hk2) hc0 hc1;have HV' : Hid (val (zs.set k s) + pw (k + 1) * d = val zs0 + val (ys.take (k + 1))) := zRD hk1 HV.out (zNA ys k hk2) hsum rfl;have hwz' : WF (zs.set k s) := hwz.set k hs;have HR := hr.setWord hk1 s;have HB := hb.setCell (p := ⟨g,k,none⟩) (Nat.le_refl _) (.int .u64 s);clear hsum hs;generalize zs[k] = x at *;generalize ys[k] = y at *;have HL' : Hid ((zs.set k s).length = m) := by unfold Hid;rw [List.length_set];exact HL.out
   generalize zs.set k s = zs' at *;clear hcy hr hb hwz HV hrow HL;go_wp2_with fail;have i0 : (0 : Int) ≤ (k : Int) := by omega
   have i1 : (k : Int) < (n : Int) := by omega
   have i2 : (k : Int) < (m : Int) := by omega
   go_region;go_wp2;go_roundw
   case rel => exact ⟨k + 1,zs',d,by omega,by go_num,rfl,hd0,hd1,HL',hwz',HV',HR.drewN 1,HB.drew⟩
   case measure => simp [intOf];omega
  ·obtain rfl : k = n := by omega
   rw [HTL.out] at HV;clear hm hrow hz0 hwy HTL HV0;go_wp2_with fail
   go_loopw [5,7] (fun c i wr => ∃ (j : Nat) (zs : List Int) (cc : Int),j ≤ m ∧ i = .int .i64 j ∧ c = .int .u64 cc ∧ 0 ≤ cc ∧ cc ≤ 1 ∧ Hid (zs.length = m) ∧ WF zs ∧ Hid (val zs + pw j * cc = val zs0 + val ys) ∧ Row wr g (ws zs ++ r) ∧ Below g w wr) (fun _ i _ => m - (intOf i).toNat)
   case atStart => exact ⟨k,zs,cc,hl,rfl,rfl,hc0,hc1,HL,hwz,HV,hr,hb⟩
   case round =>
    clear HV hr hb hwz HL hc0 hc1;obtain ⟨j,zs,cc,hj,rfl,rfl,hc0,hc1,HL,hwz,HV,hr,hb⟩ := hrel
    by_cases hcc : cc = 0
    ·have hcb : (cc != 0) = false := by simp [hcc]
     have HCC : Hid (cc = 0) := hcc;clear hcc;go_wp2;go_ret;refine ⟨zs,cc,rfl,HL.out,hwz,hc0,hc1,?_,hr,hb⟩;have := HV.out;rw [HCC.out] at this ⊢
     simpa using this
    ·have hcb : (cc != 0) = true := by simp [hcc]
     clear hcc
     by_cases hlt : j < m
     ·have hk1 : j < zs.length := by have := HL.out;omega
      have c1 : wr.cell? ⟨g,j,none⟩ = some (.int .u64 zs[j]) := hr.word hk1;have cf : wr.frozen? ⟨g,j,none⟩ = false := hr.frozen j;obtain ⟨s,d,hs,hd0,hd1,hsum,hadd⟩ := zQC (hwz.get hk1) (show IsW 0 by unfold IsW wB;omega) hc0 hc1;have HV' : Hid (val (zs.set j s) + pw (j + 1) * d = val zs0 + val ys) := zRD hk1 HV.out (y := 0) (by simp) hsum rfl;have hwz' : WF (zs.set j s) := hwz.set j hs;have HR := hr.setWord hk1 s;have HB := hb.setCell (p := ⟨g,j,none⟩) (Nat.le_refl _) (.int .u64 s);clear hsum hs;generalize zs[j] = x at *;have HL' : Hid ((zs.set j s).length = m) := by unfold Hid;rw [List.length_set];exact HL.out
      generalize zs.set j s = zs' at *;clear hr hb hwz HV HL;have i0 : (0 : Int) ≤ (j : Int) := by omega
      have i2 : (j : Int) < (m : Int) := by omega
      go_wp2;go_roundw
      case rel => exact ⟨j + 1,zs',d,by omega,by go_num,rfl,hd0,hd1,HL',hwz',HV',HR,HB⟩
      case measure => simp [intOf];omega
     ·obtain rfl : j = m := by omega
      go_wp2;go_ret;exact ⟨zs,cc,rfl,HL.out,hwz,hc0,hc1,HV.out,hr,hb⟩
theorem zXB (w : World) {ops : Array Oper} {rest : List Oper} {o : Oper} {a : Act} {Q : Exit → Act → World → Prop}
  (hg : o.guard = none) (s x : Operand) (hop : o.op = Op.call { callee := Callee.builtin Builtin.append,args := #[s,x],argTypes := #[42,42] })
  (g n : Nat) (zs : List Int) (z c : Int) (hrow : Row w g (ws zs ++ [.int .u64 z])) (hn : zs.length = n) (hmx : n + 1 ≤ 35184372088832) (hs : a.eval s = .slice (some ⟨g,0,none⟩) n (n + 1))
  (ad : Addr) (hx : a.eval x = .slice (some ad) 1 1) (hc : w.cell? ad = some (.int .u64 c))
  (hK : ∀ w',Row w' g (ws (zs ++ [c])) → Below g w w' → wpList Tryz.prog ops Q rest (a.put o.dst (.slice (some ⟨g,0,none⟩) (n + 1) (n + 1))) w') :
  wpList Tryz.prog ops Q (o :: rest) a w := by
 obtain ⟨i,hi,hz,hsz,hb⟩ := info_parts Tryz.infoW;subst hn;have hown : w.ownsRow 0 25 1 (.slice (some ⟨g,0,none⟩) zs.length (zs.length + 1)) zs.length (ws zs) := by
  refine ⟨by simp [zIA],.inr ⟨g,zs.length + 1,_,rfl,Nat.zero_le _,hrow,by omega,by unfold maxLen;omega,by simp [zIA],?_⟩⟩;simp only [Nat.mul_one];rw [List.take_append_of_le_length (by simp [zIA])];rw [List.take_of_length_le (by simp [zIA])]
 refine wpList_append_fits w hg s x 42 hop 0 25 i 1 Tryz.underlying42 hi hsz g zs.length (zs.length + 1) (ws zs) hs hown ad 1 1 [.int .u64 c] hx rfl ?_ ?_ (Nat.le_refl _) ?_
 ·intro j u hj
  match j,hj with
  | 0,hj => simp at hj;subst hj;simpa [Addr.add] using hc
 ·intro u hu;simp at hu;subst hu;rfl
 ·intro w' ho hgr
  refine hK w' ?_ ?_
  ·obtain ⟨_,h | ⟨g',cap',cur,h1,_,h3,_,_,h6,h7⟩⟩ := ho
   ·cases h.1
   ·simp only [Value.slice.injEq,Option.some.injEq,Addr.mk.injEq,and_true,true_and] at h1
    obtain ⟨rfl,rfl⟩ := h1;have e : cur = (ws (zs ++ [c])).toArray := by
     rw [List.take_of_length_le (by simpa using Nat.le_of_eq h6)] at h7;rw [← Array.toArray_toList (xs := cur),h7];simp [ws]
    unfold Row;rw [← e];exact h3
  ·exact (Below.refl _ _).grown hgr (Nat.le_of_lt hrow.lt) (fun k hk => by cases hk;exact Nat.le_refl _)
def zcI (w : World) (s : Int) (k : Nat) (e : Ending) (w' : World) : Prop :=
 ∃ zs cap r,e = .returned (.slice (some ⟨w.heap.size,0,none⟩) zs.length cap) ∧ zbA zs ∧ val zs = s ∧ zs.length ≤ k ∧ cap = zs.length + r.length ∧ cap ≤ 35184372088832 ∧
  Row w' w.heap.size (ws zs ++ r) ∧ Below w.heap.size w w' ∧ w.heap.size < w'.heap.size
theorem zPE {w w' : World} {L zs : List Int} {s t c : Int} {k m : Nat} {z : Value} (hL : zbA L) (hm : L.length = m) (hz : zs.length = m) (hw : WF zs) (hv : val zs + pw m * c = s) (hs : s = val L + t) (ht : 0 ≤ t) (hc : c = 0) (hk : m + 1 ≤ k) (hmx : m + 1 ≤ 35184372088832)
  (hrow : Row w' w.heap.size (ws zs ++ [z])) (hb : Below w.heap.size w w') (hsz : w.heap.size < w'.heap.size) : zcI w s k (.returned (.slice (some ⟨w.heap.size,0,none⟩) m (m + 1))) w' := by
 subst hc;rw [Int.mul_zero,Int.add_zero] at hv;subst hz;exact ⟨zs,zs.length + 1,[z],rfl,canon_of_ge hw hL hm.symm (by omega),hv,by omega,rfl,hmx,hrow,hb,hsz⟩
theorem zQE {w w' : World} {zs : List Int} {s c : Int} {k m : Nat} (hz : zs.length = m) (hw : WF zs) (hv : val zs + pw m * c = s) (hc : c = 1) (hk : m + 1 ≤ k) (hmx : m + 1 ≤ 35184372088832)
  (hrow : Row w' w.heap.size (ws (zs ++ [c]))) (hb : Below w.heap.size w w') (hsz : w.heap.size < w'.heap.size) : zcI w s k (.returned (.slice (some ⟨w.heap.size,0,none⟩) (m + 1) (m + 1))) w' := by
 subst hc;subst hz;refine ⟨zs ++ [1],zs.length + 1,[],by simp,canon_snoc_one hw,?_,by simpa using hk,by simp,hmx,by simpa using hrow,hb,hsz⟩;rw [zzA]
 simpa [val] using hv
theorem add_any {w : World} {v u : Value} {xs ys : List Int} (h : Sl w.heap.size w v xs) (h' : Sl w.heap.size w u ys) (hl : xs.length < 35184372088832) (hl' : ys.length < 35184372088832) :
  Calls Tryz.prog 94 #[v,u] w (zcI w (val xs + val ys) (max (wid xs) (wid ys) + 1)) := by
 have hs := h;have hs' := h';obtain ⟨hw,a,cap,rfl,hlc,hcm,hm⟩ := h;obtain ⟨hw',a',cap',rfl,hlc',hcm',hm'⟩ := h';have HW1 := zcA hs;have HW2 := zcA hs';have l1 := zOA xs;have l2 := zOA ys;have HL1 : Hid ((lst xs).length = wid xs) := length_lst xs;have HL2 : Hid ((lst ys).length = wid ys) := length_lst ys;have HC1 := hid (zHA hw);have HC2 := hid (zHA hw');have HP1 := hid (zGA hw);have HP2 := hid (zGA hw');have HV1 := hid (zQA xs);have HV2 := hid (zQA ys);have hsrc := Sl.source (n := wid xs) hm
 change lst xs = [] ∨ ∃ b off,a = some ⟨b,off,none⟩ ∧ b < w.heap.size ∧ ∀ j (h : j < (lst xs).length),w.cell? ⟨b,off + j,none⟩ = some (.int .u64 (lst xs)[j]) at hsrc
 have HS1 := hid hsrc;have hsrc' := Sl.source (n := wid ys) hm'
 change lst ys = [] ∨ ∃ b off,a' = some ⟨b,off,none⟩ ∧ b < w.heap.size ∧ ∀ j (h : j < (lst ys).length),w.cell? ⟨b,off + j,none⟩ = some (.int .u64 (lst ys)[j]) at hsrc'
 have HS2 := hid hsrc';have HK : Hid (wid xs + 1 ≤ max (wid xs) (wid ys) + 1 ∧ wid ys + 1 ≤ max (wid xs) (wid ys) + 1) := ⟨by omega,by omega⟩
 generalize max (wid xs) (wid ys) + 1 = K at *;generalize lst xs = L1 at *;generalize lst ys = L2 at *;generalize wid xs = n1 at *;generalize wid ys = n2 at *;generalize val xs = x1 at *;generalize val ys = x2 at *;clear hm hsrc hs hw hm' hsrc' hs' hw'
 by_cases hlt : n1 < n2
 ·go_enter Tryz.func94,Tryz.ntmps94
  go_wp2_with fail;refine HW1.mono ?_;rintro e w1 ⟨rfl,rfl⟩;go_wp2_with fail;refine HW2.mono ?_;rintro e w1 ⟨rfl,rfl⟩;clear HW1 HW2;go_wp2_with (at_make;refine wpList_make_words _ rfl _ _ rfl _ _ n2 (n2 + 1) rfl rfl rfl (by omega) (by omega) (by omega) ?_)
  intro w2 hrow hb2 hsz2;have hsrcB := hid (Sl.sourceB HS2.out hb2 (Nat.le_refl _));have hhs : w1.heap.size < w2.heap.size := by have := hsz2.out;omega
  go_wp2_with (refine zjA _ rfl (.tmp 24) (.tmp 27) rfl w1.heap.size (n2 + 1) n2 _ _ _ L2 hrow rfl rfl HL2.out (by omega) hsrcB.out ?_)
  intro w3 hrow3 hb3;have hrow4 : Hid (Row w3 w1.heap.size (ws L2 ++ [.int .u64 0])) := by unfold Hid;simpa [ws] using hrow3
  have hb13 := hid (hb2.trans hb3);have hsl := hid (Sl.sourceB HS1.out hb13.out (Nat.le_refl _));have hhs3 : w1.heap.size < w3.heap.size := Nat.lt_of_lt_of_le hhs hb3.size;clear hrow3 hrow hsrcB hb2 hb3 hsz2 hhs;go_wp2_with fail;have hsl2 : Sl w1.heap.size w3 (.slice a n1 cap) L1 := ⟨HC1.out.1,_,cap,by rw [HL1.out],by rw [HL1.out];omega,by rw [HL1.out];omega,hsl.out⟩
  have hA := zqF (cap := n2 + 1) HC2.out.1 hrow4.out (by rw [HL2.out];omega) hsl2 (by rw [HL2.out,HL1.out];omega);rw [HL2.out] at hA;refine hA.mono ?_;clear hA hsl hsl2 hrow4;rintro e w4 ⟨zs,c,rfl,hzl,hwz,hc0,hc1,hv,hr4,hb4⟩;have HZL := hid hzl;have HV4 : Hid (val zs + pw n2 * c = x1 + x2) := by unfold Hid;rw [hv,HV2.out,HV1.out];try omega
  have hb14 := hid (hb13.out.trans hb4);have hhs4 : w1.heap.size < w4.heap.size := Nat.lt_of_lt_of_le hhs3 hb4.size;clear hzl hv hb4 hb13
  by_cases hcc : c = 0
  ·have hcb : (c != 0) = false := by simp [hcc]
   have HCC := hid hcc;clear hcc;go_wp2;go_ret;exact zPE (t := x1) HC2.out HL2.out HZL.out hwz HV4.out (by rw [HV2.out];try omega) HP1.out HCC.out HK.out.2 (by omega) hr4 hb14.out hhs4
  ·have hcb : (c != 0) = true := by simp [hcc]
   have HCC : Hid (c = 1) := by unfold Hid;omega
   clear hcc;go_wp2_with (at_builtin;refine zXB _ rfl (.tmp 36) (.tmp 38) rfl w1.heap.size n2 zs 0 c (hr4.alloc _) HZL.out (by omega) rfl ⟨w4.heap.size,0,none⟩ rfl (by simp) ?_)
   intro w5 hr5 hb5;have hb15 := hid ((hb14.out.alloc (Nat.le_of_lt hhs4) _).trans hb5);have hhs5 : w1.heap.size < w5.heap.size := by have := hb5.size;simp at this;omega
   clear hb5 hr4 hb14;go_wp2;go_ret;exact zQE HZL.out hwz HV4.out HCC.out HK.out.2 (by omega) hr5 hb15.out hhs5
 ·go_enter Tryz.func94,Tryz.ntmps94
  go_wp2_with fail;refine HW1.mono ?_;rintro e w1 ⟨rfl,rfl⟩;go_wp2_with fail;refine HW2.mono ?_;rintro e w1 ⟨rfl,rfl⟩;clear HW1 HW2;go_wp2_with (at_make;refine wpList_make_words _ rfl _ _ rfl _ _ n1 (n1 + 1) rfl rfl rfl (by omega) (by omega) (by omega) ?_)
  intro w2 hrow hb2 hsz2;have hsrcB := hid (Sl.sourceB HS1.out hb2 (Nat.le_refl _));have hhs : w1.heap.size < w2.heap.size := by have := hsz2.out;omega
  go_wp2_with (refine zjA _ rfl (.tmp 24) (.tmp 27) rfl w1.heap.size (n1 + 1) n1 _ _ _ L1 hrow rfl rfl HL1.out (by omega) hsrcB.out ?_)
  intro w3 hrow3 hb3;have hrow4 : Hid (Row w3 w1.heap.size (ws L1 ++ [.int .u64 0])) := by unfold Hid;simpa [ws] using hrow3
  have hb13 := hid (hb2.trans hb3);have hsl := hid (Sl.sourceB HS2.out hb13.out (Nat.le_refl _));have hhs3 : w1.heap.size < w3.heap.size := Nat.lt_of_lt_of_le hhs hb3.size;clear hrow3 hrow hsrcB hb2 hb3 hsz2 hhs;go_wp2_with fail;have hsl2 : Sl w1.heap.size w3 (.slice a' n2 cap') L2 := ⟨HC2.out.1,_,cap',by rw [HL2.out],by rw [HL2.out];omega,by rw [HL2.out];omega,hsl.out⟩
  have hA := zqF (cap := n1 + 1) HC1.out.1 hrow4.out (by rw [HL1.out];omega) hsl2 (by rw [HL1.out,HL2.out];omega);rw [HL1.out] at hA;refine hA.mono ?_;clear hA hsl hsl2 hrow4;rintro e w4 ⟨zs,c,rfl,hzl,hwz,hc0,hc1,hv,hr4,hb4⟩;have HZL := hid hzl;have HV4 : Hid (val zs + pw n1 * c = x1 + x2) := by unfold Hid;rw [hv,HV1.out,HV2.out];try omega
  have hb14 := hid (hb13.out.trans hb4);have hhs4 : w1.heap.size < w4.heap.size := Nat.lt_of_lt_of_le hhs3 hb4.size;clear hzl hv hb4 hb13
  by_cases hcc : c = 0
  ·have hcb : (c != 0) = false := by simp [hcc]
   have HCC := hid hcc;clear hcc;go_wp2;go_ret;exact zPE (t := x2) HC1.out HL1.out HZL.out hwz HV4.out (by rw [HV1.out];try omega) HP2.out HCC.out HK.out.1 (by omega) hr4 hb14.out hhs4
  ·have hcb : (c != 0) = true := by simp [hcc]
   have HCC : Hid (c = 1) := by unfold Hid;omega
   clear hcc;go_wp2_with (at_builtin;refine zXB _ rfl (.tmp 36) (.tmp 38) rfl w1.heap.size n1 zs 0 c (hr4.alloc _) HZL.out (by omega) rfl ⟨w4.heap.size,0,none⟩ rfl (by simp) ?_)
   intro w5 hr5 hb5;have hb15 := hid ((hb14.out.alloc (Nat.le_of_lt hhs4) _).trans hb5);have hhs5 : w1.heap.size < w5.heap.size := by have := hb5.size;simp at this;omega
   clear hb5 hr4 hb14;go_wp2;go_ret;exact zQE HZL.out hwz HV4.out HCC.out HK.out.1 (by omega) hr5 hb15.out hhs5
end Go.Proofs.YtkklldokdnfkgaaGreat
