/-
 QDWordsToJoin: DWords, SlInts, Bits, Len2, Ref, RowsI, Split, Shift, Join, joined.
-/
import Derived.Test.YtlhjogiefbjklaaQWords
import Derived.Test.YtlhjogiefbjklaaQBaseToBulk
import Derived.Laws.MathBits
import Derived.Lib.TrailingZeros
import Derived.Shelf.Strconv.Itoa0
import Derived.Test.YtlhjogiefbjklaaQCmpToNow
import Derived.Test.YtlhjogiefbjklaaQCarryToMade
import Derived.Shelf.Spec.TrailingZeros

set_option maxRecDepth 100000
set_option maxHeartbeats 6400000
set_option linter.unusedVariables false
set_option linter.unusedSimpArgs false
namespace Go.Proofs.Ytlhjogiefbjklaa

open Go.RowKit
end Go.Proofs.Ytlhjogiefbjklaa
namespace Go.Proofs.Ytlhjogiefbjklaa
def vn : List Int → Nat
 | [] => 0
 | x :: r => x.toNat + 2 ^ 64 * vn r
theorem zMA : ∀ {xs : List Int},WF xs → val xs = (vn xs : Int)
 | [],_ => rfl
 | x :: r,h => by
  have h1 := h.head;unfold IsW wB at h1;rw [val,vn,zMA h.tail];unfold wB;omega
theorem zUF {xs ys : List Int} (hx : WF xs) (hy : WF ys) : vn xs = vn ys ↔ val xs = val ys := by
 rw [zMA hx,zMA hy];omega
theorem zNB {x : Int} (h : IsW x) : x.toNat < 2 ^ 64 := by unfold IsW wB at h;omega
theorem znD : ∀ {xs : List Int},WF xs → vn xs < 2 ^ (64 * xs.length)
 | [],_ => by simp [vn]
 | x :: r,h => by
  have h1 := zNB h.head;have h2 := znD h.tail;rw [vn,List.length_cons,show 64 * (r.length + 1) = 64 + 64 * r.length by omega,Nat.pow_add];have := Nat.mul_le_mul_left (2 ^ 64) (Nat.succ_le_of_lt h2);rw [Nat.mul_succ] at this;omega
theorem zBC : ∀ (xs ys : List Int),vn (xs ++ ys) = vn xs + 2 ^ (64 * xs.length) * vn ys
 | [],ys => by simp [vn]
 | x :: r,ys => by
  rw [List.cons_append,vn,vn,zBC r ys,List.length_cons,show 64 * (r.length + 1) = 64 + 64 * r.length by omega,Nat.pow_add,Nat.mul_add,Nat.mul_assoc];omega
theorem zTE {xs : List Int} (h : ∀ x ∈ xs,x = 0) : vn xs = 0 := by
 induction xs with
 | nil => rfl
 | cons x r ih => rw [vn,h x (by simp),ih (fun y hy => h y (by simp [hy]))];simp
theorem zcD {lo top s : Nat} (h : lo < 2 ^ s) (ht : top ≠ 0) : bitLen (lo + 2 ^ s * top) = s + bitLen top := by
 have hp : 0 < 2 ^ s := Nat.two_pow_pos s;have e : (lo + 2 ^ s * top) / 2 ^ s = top := by
  rw [Nat.add_mul_div_left _ _ hp,Nat.div_eq_of_lt h];omega
 rw [bitLen_shift _ s (by rw [e];exact ht),e]
theorem zyD {xs : List Int} {n : Nat} (hn : wid xs = n + 1) (h : n < xs.length) : lst xs = xs.take n ++ [xs[n]] := by
 unfold lst;rw [hn,List.take_succ_eq_append_getElem h]
theorem zMC : ∀ {xs : List Int} {n : Nat},wid xs = n + 1 → ∃ h : n < xs.length,xs[n] ≠ 0
 | [],n,h => by simp [wid] at h
 | x :: r,n,h => by
  unfold wid at h
  split at h
  ·split at h
   ·cases h
   ·have : n = 0 := by omega
    subst this;exact ⟨by simp,by simpa⟩
  ·rename_i hr
   obtain ⟨m,hm⟩ : ∃ m,wid r = m + 1 := ⟨wid r - 1,by omega⟩
   obtain ⟨h1,h2⟩ := zMC hm;have : n = m + 1 := by omega
   subst this;exact ⟨by simpa using h1,by simpa using h2⟩
theorem zUE {xs : List Int} (h : WF xs) : vn (lst xs) = vn xs := (zUF (canon_lst h).1 h).2 (val_lst xs)
theorem zXC {xs : List Int} (hw : WF xs) {n : Nat} (hn : wid xs = n + 1) (h : n < xs.length) : bitLen (vn xs) = 64 * n + bitLen xs[n].toNat := by
 obtain ⟨_,hne⟩ := zMC hn;rw [← zUE hw,zyD hn h,zBC];have hl : (xs.take n).length = n := by simp;omega
 have h1 := znD (hw.take n);rw [hl] at h1 ⊢;have e : vn [xs[n]] = xs[n].toNat := by simp [vn]
 rw [e];refine zcD h1 ?_;have := (hw.get h).1;omega
theorem zvB {xs : List Int} (hw : WF xs) (h : wid xs = 0) : vn xs = 0 := by
 have := zeA xs h;rw [zMA hw] at this;omega
open Go.RowKit
theorem zaD : ∀ (f v : Nat),v < 2 ^ f → Lib.bitLenAux f v = bitLen v
 | 0,v,h => by simp at h;subst h;rfl
 | f + 1,v,h => by
  unfold Lib.bitLenAux
  split
  ·rename_i h0;subst h0;rfl
  ·rename_i h0
   rw [zaD f (v / 2) (by rw [Nat.pow_succ] at h;omega)]
   by_cases h1 : v / 2 = 0
   ·have : v = 1 := by omega
    subst this;rfl
   ·rw [bitLen_shift v 1 (by simpa using h1)]
def lays129_ren : Go.Shelf.Ren := ⟨fun | 129 => 66 | n => n,fun | 53 => 26 | 3 => 3 | 4 => 4 | 46 => 67 | 5 => 5 | 9 => 9 | n => n,fun | n => n⟩
theorem lays129 : Go.Proofs.Lays.n129 Try.prog lays129_ren := {
 mixed := by kernel_rfl
 f129 := Try.func66.trans (congrArg some (by kernel_rfl))
 t3 := Try.underlying3
 a3 := Try.isAgg3
 z3 := Try.sizeOf3
 v3 := Try.zeroValue3
 t4 := Try.underlying4
 a4 := Try.isAgg4
 z4 := Try.sizeOf4
 v4 := Try.zeroValue4
 t5 := Try.underlying5
 a5 := Try.isAgg5
 z5 := Try.sizeOf5
 v5 := Try.zeroValue5
 t9 := Try.underlying9
 a9 := Try.isAgg9
 z9 := Try.sizeOf9
 v9 := Try.zeroValue9
 t46 := Try.underlying67
 a46 := Try.isAgg67
 z46 := Try.sizeOf67
 v46 := Try.zeroValue67
 t53 := Try.underlying26
 a53 := Try.isAgg26
 z53 := Try.sizeOf26
 v53 := Try.zeroValue26 }
theorem zzC {x : Int} (hx : IsW x) (w : World) : Calls Try.prog 66 #[.int .u64 x] w fun e w' => e = .returned (.int .i64 (bitLen x.toNat : Int)) ∧ w' = w := by
 have h := zNB hx;have hb : x ≤ 18446744073709551615 := by unfold IsW wB at hx;omega
 have := Any.bits_Len64 lays129 x w hx.1 hb;rw [show Lib.bitLen x.toNat = bitLen x.toNat from zaD 64 _ h] at this;exact this
theorem zkB {x : Nat} (h : x < 2 ^ 64) : bitLen x ≤ 64 := by
 unfold bitLen
 split
 ·omega
 ·rename_i h0
  have := (Nat.log2_lt h0).2 h;omega
theorem znA {B : Nat} {w : World} {v : Value} {xs : List Int} (h : Sl B w v xs) :
  Calls Try.prog 60 #[v] w fun e w' => e = .returned (.int .i64 (bitLen (vn xs) : Int)) ∧ w' = w := by
 have hs := h;obtain ⟨hw,a,cap,rfl,hlc,hcm,hm⟩ := h;have HW := zYA hs;have l1 := zGA xs
 by_cases h0 : wid xs = 0
 ·rw [zvB hw h0]
  rw [h0] at HW;have hz : ((0 : Int) == 0) = true := rfl;go_enter Try.func60,Try.ntmps60;go_wp2_with fail;refine HW.mono ?_;rintro e w1 ⟨rfl,rfl⟩;clear HW;go_wp2;go_ret;exact ⟨rfl,rfl⟩
 ·obtain ⟨n,hn⟩ : ∃ n,wid xs = n + 1 := ⟨wid xs - 1,by omega⟩
  obtain ⟨hl,hne⟩ := zMC hn;rcases hm with e | ⟨b,off,rfl,hb,hc⟩
  ·subst e;simp at hl
  have c1 := hc n hl;have hx := hw.get hl;have HB : Hid (bitLen (vn xs) = 64 * n + bitLen xs[n].toNat) := zXC hw hn hl;have hbs := zkB (zNB hx);have HLn := hid (zzC hx w);rw [hn] at HW l1;generalize xs[n] = x at *;generalize bitLen x.toNat = bx at *;generalize bitLen (vn xs) = r at *;have hz : (((n + 1 : Nat) : Int) == 0) = false := by rw [beq_eq_false_iff_ne];omega
  clear hc hw h0 hn hne hs;go_enter Try.func60,Try.ntmps60;go_wp2_with fail;refine HW.mono ?_;rintro e w1 ⟨rfl,rfl⟩;clear HW;go_wp2_with fail;refine HLn.out.mono ?_;rintro e w2 ⟨rfl,rfl⟩;go_wp2;go_ret;refine ⟨congrArg Ending.returned (congrArg (Value.int IntKind.i64) ?_),rfl⟩;rw [HB.out];omega



theorem ztB : ∀ k,pw k = 2 ^ (64 * k)
 | 0 => by simp [pw]
 | k + 1 => by rw [pw,ztB k,show 64 * (k + 1) = 64 + 64 * k by omega,Int.pow_add];rfl
theorem zsC (a b : Nat) : pw (a + b) = pw a * pw b := by rw [ztB,ztB,ztB,Nat.mul_add,Int.pow_add]
theorem two_split (n : Nat) : (2 : Int) ^ n = pw (n / 64) * 2 ^ (n % 64) := by rw [ztB,← Int.pow_add,show 64 * (n / 64) + n % 64 = n by omega]
theorem zaB (a b : Nat) (ha : a < 18446744073709551616) (hb : b < 18446744073709551616) : bits .or .u64 (a : Int) (b : Int) = ((a ||| b : Nat) : Int) := by
 have hx : a ||| b < 2 ^ 64 := Nat.or_lt_two_pow ha hb;have h1 : (BitVec.ofInt 64 (a : Int)).toNat = a := by
  rw [BitVec.ofInt_natCast,BitVec.toNat_ofNat];exact Nat.mod_eq_of_lt (by omega)
 have h2 : (BitVec.ofInt 64 (b : Int)).toNat = b := by
  rw [BitVec.ofInt_natCast,BitVec.toNat_ofNat];exact Nat.mod_eq_of_lt (by omega)
 show IntKind.u64.wrap ((BitVec.ofInt 64 (a : Int) ||| BitVec.ofInt 64 (b : Int)).toNat : Int) = _
 rw [BitVec.toNat_or,h1,h2,IntKind.wrap_u64];omega
theorem ztC {p : Nat} (hp : p ≤ 64) : 2 ^ p * 2 ^ (64 - p) = 18446744073709551616 := by rw [← Nat.pow_add,show p + (64 - p) = 64 by omega]
theorem zRA (p : Nat) : (2 : Int) ^ p = ((2 ^ p : Nat) : Int) := by simp
theorem shl_word {x c : Int} {p : Nat} (hx : IsW x) (hp : p < 64) (hc0 : 0 ≤ c) (hc : c < 2 ^ p) :
  IsW (bits BinOp.or IntKind.u64 (IntKind.u64.wrap (x * 2 ^ p)) c) ∧ 0 ≤ x / 2 ^ (64 - p) ∧ x / 2 ^ (64 - p) < 2 ^ p ∧
   bits BinOp.or IntKind.u64 (IntKind.u64.wrap (x * 2 ^ p)) c + wB * (x / 2 ^ (64 - p)) = 0 + x * 2 ^ p + c := by
 have hl := zNB hx;obtain ⟨X,rfl⟩ := Int.eq_ofNat_of_zero_le hx.1;obtain ⟨C,rfl⟩ := Int.eq_ofNat_of_zero_le hc0;simp only [Int.toNat_natCast] at hl;have hs := ztC (p := p) (by omega);have hpp := Nat.two_pow_pos p;have hqp := Nat.two_pow_pos (64 - p);rw [zRA p,zRA (64 - p)] at *;generalize hP : 2 ^ p = P at *;generalize hQ : 2 ^ (64 - p) = Q at *;have hC : C < P := by omega
 have hm : X * P % 18446744073709551616 = P * (X % Q) := by rw [← hs,Nat.mul_comm X P,Nat.mul_mod_mul_left]
 have hXQ : X % Q < Q := Nat.mod_lt _ hqp;have hle : P * (X % Q) + P ≤ 18446744073709551616 := by
  rw [← hs,← Nat.mul_succ];exact Nat.mul_le_mul_left _ hXQ
 have hw : IntKind.u64.wrap ((X : Int) * (P : Int)) = ((P * (X % Q) : Nat) : Int) := by
  rw [IntKind.wrap_u64,← hm];simp
 have ho : P * (X % Q) ||| C = P * (X % Q) + C := by
  subst hP;exact (Nat.two_pow_add_eq_or_of_lt (by omega) _).symm
 have hd : (X : Int) / (Q : Int) = ((X / Q : Nat) : Int) := by simp
 rw [hw,zaB _ _ (by omega) (by omega),ho,hd];have hXd : X / Q < P := by rw [Nat.div_lt_iff_lt_mul hqp,hs];exact hl
 have hmain : P * (X % Q) + 18446744073709551616 * (X / Q) = X * P := by
  have := Nat.mod_add_div X Q;rw [← hs,Nat.mul_assoc,← Nat.mul_add,this,Nat.mul_comm]
 refine ⟨by unfold IsW wB;omega,by omega,by omega,?_⟩;have : ((P * (X % Q) + 18446744073709551616 * (X / Q) : Nat) : Int) = ((X * P : Nat) : Int) := by rw [hmain]
 unfold wB;rw [← Int.natCast_mul];omega
theorem shr_word {x y : Int} {p : Nat} (hx : IsW x) (hy : IsW y) (hp : p < 64) :
  IsW (bits BinOp.or IntKind.u64 (x / 2 ^ p) (IntKind.u64.wrap (y * 2 ^ (64 - p)))) ∧
   2 ^ p * bits BinOp.or IntKind.u64 (x / 2 ^ p) (IntKind.u64.wrap (y * 2 ^ (64 - p))) = x - x % 2 ^ p + wB * (y % 2 ^ p) := by
 have hl := zNB hx;have hl' := zNB hy;obtain ⟨X,rfl⟩ := Int.eq_ofNat_of_zero_le hx.1;obtain ⟨Y,rfl⟩ := Int.eq_ofNat_of_zero_le hy.1;simp only [Int.toNat_natCast] at hl hl';have hs := ztC (p := p) (by omega);have hpp := Nat.two_pow_pos p;have hqp := Nat.two_pow_pos (64 - p);rw [zRA p,zRA (64 - p)] at *;generalize hP : 2 ^ p = P at *;generalize hQ : 2 ^ (64 - p) = Q at *;have hm : Y * Q % 18446744073709551616 = Q * (Y % P) := by rw [← hs,Nat.mul_comm P Q,Nat.mul_comm Y Q,Nat.mul_mod_mul_left]
 have hYP : Y % P < P := Nat.mod_lt _ hpp;have hle : Q * (Y % P) + Q ≤ 18446744073709551616 := by
  rw [← hs,Nat.mul_comm P Q,← Nat.mul_succ];exact Nat.mul_le_mul_left _ hYP
 have hw : IntKind.u64.wrap ((Y : Int) * (Q : Int)) = ((Q * (Y % P) : Nat) : Int) := by
  rw [IntKind.wrap_u64,← hm];simp
 have hXd : X / P < Q := by rw [Nat.div_lt_iff_lt_mul hpp,Nat.mul_comm,hs];exact hl
 have ho : X / P ||| Q * (Y % P) = Q * (Y % P) + X / P := by
  rw [Nat.or_comm];subst hQ;exact (Nat.two_pow_add_eq_or_of_lt hXd _).symm
 have hd : (X : Int) / (P : Int) = ((X / P : Nat) : Int) := by simp
 rw [hw,hd,zaB _ _ (by omega) (by omega),ho];refine ⟨by unfold IsW wB;omega,?_⟩;have h1 := Nat.div_add_mod X P;have h2 : P * (Q * (Y % P) + X / P) = 18446744073709551616 * (Y % P) + P * (X / P) := by rw [Nat.mul_add,← Nat.mul_assoc,hs]
 have h3 : (X : Int) % (P : Int) = ((X % P : Nat) : Int) := by simp
 have h4 : (Y : Int) % (P : Int) = ((Y % P : Nat) : Int) := by simp
 rw [h3,h4,← Int.natCast_mul,h2];unfold wB;omega
def Own (B : Nat) (w : World) (v : Value) (zs : List Int) : Prop :=
 WF zs ∧ ((v = .slice none 0 0 ∧ zs = []) ∨ ∃ g r,B ≤ g ∧ zs.length + r.length ≤ 35184372088832 ∧ v = .slice (some ⟨g,0,none⟩) zs.length (zs.length + r.length) ∧ Row w g (ws zs ++ r))
theorem Own.form {B : Nat} {w : World} {v : Value} {zs : List Int} (h : Own B w v zs) : ∃ a cap,v = .slice a zs.length cap := by
 obtain ⟨_,⟨h1,h2⟩ | ⟨g,r,_,_,h1,_⟩⟩ := h
 ·subst h2;exact ⟨none,0,h1⟩
 ·exact ⟨_,_,h1⟩
theorem Own.sl {B : Nat} {w : World} {v : Value} {zs : List Int} (h : Own B w v zs) : Sl w.heap.size w v zs := by
 obtain ⟨hw,⟨h1,h2⟩ | ⟨g,r,h1,h2,h3,h4⟩⟩ := h
 ·subst h1 h2;exact Sl.nilAt w
 ·subst h3
  exact h4.sl hw (by omega) h2 h4.lt
def Told (w : World) (s : Int) (e : Ending) (w' : World) : Prop := ∃ zs r,e = .returned r ∧ Own w.heap.size w' r zs ∧ zEA zs ∧ val zs = s ∧ Below w.heap.size w w'
end Go.Proofs.Ytlhjogiefbjklaa
