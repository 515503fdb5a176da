/-
 QTrim3ToBits: Trim3, DWords, SlInts, Bits, joined.
-/
import Derived.Test.YtppddlbkdoebmaaQHWordsToMade
import Derived.Test.YtppddlbkdoebmaaQLitsToNow
import Derived.Test.YtppddlbkdoebmaaQWordsToInts
import Derived.Laws.MathBits
import Derived.Lib.TrailingZeros

set_option maxRecDepth 100000
set_option maxHeartbeats 6400000
set_option linter.unusedVariables false
set_option linter.unusedSimpArgs false
namespace Go.Proofs.Ytppddlbkdoebmaa
open Go.RowKit
theorem zkB {B : Nat} {w : World} {a : Option Addr} {n cap : Nat} {xs : List Int} (h : Sl B w (.slice a n cap) xs) : Sl B w (.slice a (wid xs) cap) (lst xs) := by
 obtain ⟨hw,a',cap',he,hlc,hcm,hm⟩ := h;simp only [Value.slice.injEq] at he;obtain ⟨rfl,rfl,rfl⟩ := he;have l := zIA xs;refine ⟨hw.take _,a,cap,by rw [length_lst],by rw [length_lst];omega,by rw [length_lst];omega,?_⟩;rcases hm with rfl | ⟨b,off,h1,h2,h3⟩
 ·exact .inl rfl
 ·refine .inr ⟨b,off,h1,h2,fun j hj => ?_⟩
  rw [length_lst] at hj;rw [h3 j (by omega),zHC hj]
theorem zZA {B : Nat} {w : World} {a : Option Addr} {m cap : Nat} {xs : List Int} (h : Sl B w (.slice a m cap) xs) :
  Calls Try.prog 46 #[.slice a m cap] w fun e w' => e = .returned (.slice a (wid xs) cap) ∧ w' = w := by
 obtain ⟨hw,a',cap',he,hlc,hcm,hm⟩ := h;simp only [Value.slice.injEq] at he;obtain ⟨rfl,rfl,rfl⟩ := he;have HW : Hid (∀ n : Nat,n ≤ xs.length → (∀ j (h : j < xs.length),n ≤ j → xs[j] = 0) → (0 < n → ∀ h' : n - 1 < xs.length,xs[n - 1] ≠ 0) → wid xs = n) := fun n h1 h2 h3 => wid_is h1 h2 h3
 generalize wid xs = W at *;have HM := hid hm;go_enter Try.func46,Try.ntmps46;go_wp2
 go_loop [3] (fun i => ∃ n : Nat,n ≤ xs.length ∧ i = .int .i64 n ∧ ∀ j (h : j < xs.length),n ≤ j → xs[j] = 0) (fun i => (intOf i).toNat)
 case atStart => exact ⟨xs.length,Nat.le_refl _,rfl,fun j h h' => by omega⟩
 case round =>
  obtain ⟨n,hn,rfl,hz⟩ := hrel;have HZ := hid hz;clear hz hm
  by_cases h0 : n = 0
  ·subst h0
   go_wp2;go_ret;exact ⟨by rw [HW.out 0 (by omega) HZ.out (by omega)];rfl,rfl⟩
  ·obtain ⟨k,rfl⟩ : ∃ k,n = k + 1 := ⟨n - 1,by omega⟩
   rcases HM.out with rfl | ⟨b,off,rfl,hb,hc⟩
   ·simp at hn
   ·have hk : k < xs.length := by omega
    have hck := hc k hk;obtain ⟨x,hx⟩ : ∃ x,x = xs[k] := ⟨_,rfl⟩
    rw [← hx] at hck;have HX : Hid (x = xs[k]) := hx;clear hx hc h0
    by_cases hx0 : x = 0
    ·have ht : (x == 0) = true := by simp [hx0]
     go_wp2;go_round
     case rel =>
      refine ⟨k,by omega,rfl,fun j h hj => ?_⟩
      by_cases e : j = k
      ·subst e;rw [← HX.out];exact hx0
      ·exact HZ.out j h (by omega)
     case measure => simp [intOf]
    ·have ht : (x == 0) = false := by simp [hx0]
     go_wp2;go_ret;refine ⟨?_,rfl⟩;rw [HW.out (k + 1) hn HZ.out (fun _ h' => by have := HX.out;simp at h' ⊢;rw [← this];exact hx0)]
     rfl
def pairs : List Int → List Int
 | [] => []
 | x :: r => x % 4294967296 :: x / 4294967296 :: pairs r
theorem zqA : ∀ xs,(pairs xs).length = 2 * xs.length
 | [] => rfl
 | x :: r => by simp [pairs,zqA r];omega
theorem zED : ∀ xs ys,pairs (xs ++ ys) = pairs xs ++ pairs ys
 | [],ys => rfl
 | x :: r,ys => by simp [pairs,zED r ys]
theorem pairs_val : ∀ xs,hval (pairs xs) = val xs
 | [] => rfl
 | x :: r => by
  unfold pairs hval hval val;rw [pairs_val r];unfold hwB wB;omega
theorem zaE : ∀ {xs},WF xs → HF (pairs xs)
 | [],_ => HF.nil
 | x :: r,h => by
  have hx := h.head;unfold IsW wB at hx;exact HF.cons (by unfold IsH hwB;omega) (HF.cons (by unfold IsH hwB;omega) (zaE h.tail))
theorem set_two (P Z : List Int) (c d a b : Int) (n : Nat) (hn : P.length = n) : ((P ++ c :: d :: Z).set n a).set (n + 1) b = P ++ a :: b :: Z := by
 subst hn
 simp
theorem zME {L : List Int} {i : Nat} (h : i < L.length) : (((pairs (L.take i) ++ List.replicate (2 * (L.length - i)) 0).set (2 * i) (L[i] % 4294967296)).set (2 * i + 1) (L[i] / 4294967296)) = pairs (L.take (i + 1)) ++ List.replicate (2 * (L.length - (i + 1))) 0 := by
 have e : 2 * (L.length - i) = 2 * (L.length - (i + 1)) + 1 + 1 := by omega
 have e2 : L.take (i + 1) = L.take i ++ [L[i]] := by rw [List.take_succ_eq_append_getElem h]
 rw [e,List.replicate_succ,List.replicate_succ,set_two _ _ _ _ _ _ _ (by rw [zqA,List.length_take];omega),e2,zED];simp [pairs]
theorem zdA {w : World} {v : Value} {xs : List Int} (h : Sl w.heap.size w v xs) (hlen : xs.length ≤ 8796093022208) :
  Calls Try.prog 41 #[v] w fun e w' => ∃ D r,e = .returned r ∧ Sl w'.heap.size w' r D ∧ zMA D ∧ hval D = val xs ∧ D.length ≤ 2 * xs.length ∧ Below w.heap.size w w' := by
 have hs := h;obtain ⟨hw,a,cap,rfl,hlc,hcm,hm⟩ := h;have HT := zZA hs;have l1 := zIA xs;have hsl := zkB hs;obtain ⟨_,a',cap',he,_,_,hm'⟩ := hsl;simp only [Value.slice.injEq] at he;obtain ⟨rfl,_,rfl⟩ := he;have HM := hid hm';have HL := hid (length_lst xs);have HWL := hid (canon_lst hw).1;have HVL := hid (val_lst xs);generalize lst xs = L at *;obtain ⟨n,hn⟩ : ∃ n,wid xs = n := ⟨_,rfl⟩
 rw [hn] at HT HL l1;clear hm hm' hs hn;go_enter Try.func41,Try.ntmps41;go_wp2_with fail;refine HT.mono ?_;rintro e w1 ⟨rfl,rfl⟩;clear HT;go_wp2_with (at_make;refine wpList_make_words _ rfl _ _ rfl _ _ (2 * n) (2 * n) rfl rfl (by first | rfl | (simp;done) | omega) (by first | rfl | (simp;done) | omega) (Nat.le_refl _) (by omega) ?_)
 intro w2 hrow hb2 hsz2;have hrow' := hid hrow;have hb2' := hid hb2;clear hrow hb2 hsz2;go_wp2_with fail
 go_loopw [4] (fun i wr => ∃ (k : Nat),k ≤ n ∧ i = .int .i64 k ∧ Row wr w1.heap.size (ws (pairs (L.take k) ++ List.replicate (2 * (n - k)) 0)) ∧ Below w1.heap.size w1 wr) (fun i _ => n - (intOf i).toNat)
 case atStart => exact ⟨0,Nat.zero_le _,rfl,by simpa [pairs] using hrow'.out,hb2'.out⟩
 case round =>
  clear hrow' hb2';obtain ⟨k,hk,rfl,hr,hb⟩ := hrel
  by_cases hlt : k < n
  ·have hk2 : k < L.length := by have := HL.out;omega
   rcases HM.out with e | ⟨b,off,rfl,hbg,hcy⟩
   ·subst e;simp at hk2
   have hst := zME hk2;rw [HL.out] at hst;have hxw := HWL.out.get hk2;unfold IsW wB at hxw;obtain ⟨hx0,hx1⟩ := hxw;have lD : (pairs (L.take k) ++ List.replicate (2 * (n - k)) 0).length = 2 * n := by rw [List.length_append,zqA,List.length_take,List.length_replicate];have := HL.out;omega
   generalize pairs (L.take k) ++ List.replicate (2 * (n - k)) 0 = D at *;have c2 : wr.cell? ⟨b,off + k,none⟩ = some (.int .u64 L[k]) := (hb.cell (p := ⟨b,off + k,none⟩) hbg).trans (hcy k hk2);have c1 : wr.cell? ⟨w1.heap.size,2 * k,none⟩ = some (.int .u64 (D[2 * k]'(by omega))) := Row.word (r := []) (by simpa using hr) (by omega);have cf : wr.frozen? ⟨w1.heap.size,2 * k,none⟩ = false := hr.frozen _;have hr1 : Row (wr.setCell ⟨w1.heap.size,2 * k,none⟩ (.int .u64 (L[k] % 4294967296))) w1.heap.size (ws (D.set (2 * k) (L[k] % 4294967296))) := by
    have := Row.setWord (r := []) (by simpa using hr) (show 2 * k < D.length by omega) (L[k] % 4294967296)
    simpa using this
   have hb1 := hb.setCell (p := ⟨w1.heap.size,2 * k,none⟩) (Nat.le_refl _) (.int .u64 (L[k] % 4294967296));have c2' : (wr.setCell ⟨w1.heap.size,2 * k,none⟩ (.int .u64 (L[k] % 4294967296))).cell? ⟨b,off + k,none⟩ = some (.int .u64 L[k]) := (hb1.cell (p := ⟨b,off + k,none⟩) hbg).trans (hcy k hk2);have c1' : (wr.setCell ⟨w1.heap.size,2 * k,none⟩ (.int .u64 (L[k] % 4294967296))).cell? ⟨w1.heap.size,2 * k + 1,none⟩ = some (.int .u64 ((D.set (2 * k) (L[k] % 4294967296))[2 * k + 1]'(by rw [List.length_set];omega))) := Row.word (r := []) (by simpa using hr1) (by rw [List.length_set];omega);have cf' : (wr.setCell ⟨w1.heap.size,2 * k,none⟩ (.int .u64 (L[k] % 4294967296))).frozen? ⟨w1.heap.size,2 * k + 1,none⟩ = false := hr1.frozen _;have HR2 : Hid (Row ((wr.setCell ⟨w1.heap.size,2 * k,none⟩ (.int .u64 (L[k] % 4294967296))).setCell ⟨w1.heap.size,2 * k + 1,none⟩ (.int .u64 (L[k] / 4294967296))) w1.heap.size (ws (pairs (L.take (k + 1)) ++ List.replicate (2 * (n - (k + 1))) 0))) := by
    have := Row.setWord (r := []) (by simpa using hr1) (show 2 * k + 1 < (D.set (2 * k) (L[k] % 4294967296)).length by rw [List.length_set];omega) (L[k] / 4294967296);rw [hst] at this;unfold Hid;simpa using this
   have HB2 := hid (hb1.setCell (p := ⟨w1.heap.size,2 * k + 1,none⟩) (Nat.le_refl _) (.int .u64 (L[k] / 4294967296)));generalize (D.set (2 * k) (L[k] % 4294967296))[2 * k + 1]'(by rw [List.length_set];omega) = z1 at *;generalize D[2 * k]'(by omega) = z0 at *;clear hcy hr hb hr1 hb1 hst;generalize L[k] = x at *;have i0 : (0 : Int) ≤ (k : Int) := by omega
   go_wp2;go_roundw
   case rel => exact ⟨k + 1,by omega,by go_num,HR2.out,HB2.out⟩
   case measure => simp [intOf];omega
  ·obtain rfl : k = n := by omega
   have e0 : L.take k = L := by rw [← HL.out];simp
   rw [Nat.sub_self,Nat.mul_zero,List.replicate_zero,List.append_nil,e0] at hr;have hD := zaE HWL.out;have hDl : (pairs L).length = 2 * k := by rw [zqA,HL.out]
   have hsd := Row.sl (r := []) (by simpa using hr) hD.word (cap := 2 * k) (by rw [hDl];exact Nat.le_refl _) (by omega) hr.lt;rw [hDl] at hsd;have HT2 := hid (zZA hsd);have HS2 := hid (zkB hsd);have l2 := zIA (pairs L);have HB := hid hb;clear hr hsd e0 hb HM;go_wp2_with fail;refine HT2.out.mono ?_;rintro e w3 ⟨rfl,rfl⟩;go_wp2;go_ret;exact ⟨lst (pairs L),_,rfl,HS2.out,hcanon_lst' hD,by rw [hval_lst',pairs_val,HVL.out],by rw [length_lst];omega,HB.out⟩
end Go.Proofs.Ytppddlbkdoebmaa
namespace Go.Proofs.Ytppddlbkdoebmaa
def dwB : Int := 65536
def IsD (x : Int) : Prop := 0 ≤ x ∧ x < dwB
def DF (xs : List Int) : Prop := ∀ x ∈ xs,IsD x
def dval : List Int → Int
 | [] => 0
 | x :: r => x + dwB * dval r
def dwid : List Int → Nat
 | [] => 0
 | x :: r => if dwid r = 0 then (if x = 0 then 0 else 1) else dwid r + 1
def dpw : Nat → Int
 | 0 => 1
 | n + 1 => dwB * dpw n
def zBG (xs : List Int) : Prop := DF xs ∧ dwid xs = xs.length
theorem DF.nil : DF [] := fun x h => by cases h
theorem DF.cons {x : Int} {r : List Int} (hx : IsD x) (hr : DF r) : DF (x :: r) := by
 intro y hy;rcases List.mem_cons.1 hy with rfl | h
 ·exact hx
 ·exact hr y h
theorem DF.head {x : Int} {r : List Int} (h : DF (x :: r)) : IsD x := h x (by simp)
theorem DF.tail {x : Int} {r : List Int} (h : DF (x :: r)) : DF r := fun y hy => h y (by simp [hy])
theorem DF.take {xs : List Int} (h : DF xs) (n : Nat) : DF (xs.take n) := fun x hx => h x (List.mem_of_mem_take hx)
theorem DF.append {xs ys : List Int} (h : DF xs) (k : DF ys) : DF (xs ++ ys) := by
 intro x hx;rcases List.mem_append.1 hx with q | q
 ·exact h x q
 ·exact k x q
theorem DF.get {xs : List Int} (h : DF xs) {i : Nat} (hi : i < xs.length) : IsD xs[i] := h _ (List.getElem_mem hi)
theorem zcC : ∀ {xs : List Int},DF xs → 0 ≤ dval xs
 | [],_ => by simp [dval]
 | x :: r,h => by
  have h1 := h.head;have h2 := zcC h.tail;unfold IsD dwB at h1;unfold dval dwB;omega
theorem znD : ∀ xs : List Int,dwid xs ≤ xs.length
 | [] => by simp [dwid]
 | x :: r => by
  have := znD r;unfold dwid;split
  ·split <;> simp
  ·simp;omega
theorem zlC : ∀ xs : List Int,dwid xs = 0 → dval xs = 0
 | [],_ => rfl
 | x :: r,h => by
  unfold dwid at h
  split at h
  ·rename_i h0
   have := zlC r h0
   split at h
   ·rename_i hx;simp [dval,hx,this]
   ·cases h
  ·cases h
def dlst (xs : List Int) : List Int := xs.take (dwid xs)
theorem zDB (xs : List Int) : (dlst xs).length = dwid xs := by unfold dlst;have := znD xs;simp;omega
theorem zGF (x : Int) (r : List Int) : dlst (x :: r) = if dwid r = 0 then (if x = 0 then [] else [x]) else x :: dlst r := by
 have e : dwid (x :: r) = if dwid r = 0 then (if x = 0 then 0 else 1) else dwid r + 1 := by rw [dwid]
 unfold dlst;rw [e]
 split
 ·split <;> simp
 ·simp
theorem zeE : ∀ xs : List Int,dval (dlst xs) = dval xs
 | [] => rfl
 | x :: r => by
  rw [zGF]
  split
  ·rename_i h0
   have := zlC r h0
   split
   ·rename_i hx;simp [dval,hx,this]
   ·simp [dval,this]
  ·simp [dval,zeE r]
theorem zwF : ∀ xs : List Int,dwid (dlst xs) = dwid xs
 | [] => rfl
 | x :: r => by
  rw [zGF,dwid]
  split
  ·split
   ·rfl
   ·rename_i hx;simp [dwid,hx]
  ·rename_i h0
   rw [dwid,zwF r,if_neg h0]
theorem dcanon_lst {xs : List Int} (h : DF xs) : zBG (dlst xs) := ⟨h.take _,by rw [zwF,zDB]⟩
theorem zdE : ∀ {xs : List Int} {n : Nat},n ≤ xs.length → (∀ j (h : j < xs.length),n ≤ j → xs[j] = 0) → (0 < n → ∀ h' : n - 1 < xs.length,xs[n - 1] ≠ 0) → dwid xs = n
 | [],n,hn,_,_ => by simp at hn;simp [dwid,hn]
 | x :: r,0,_,hz,_ => by
  have h0 : dwid r = 0 := zdE (Nat.zero_le _) (fun j h _ => by have := hz (j + 1) (by simpa using h) (by omega);simpa using this) (fun h => by omega);have hx : x = 0 := hz 0 (by simp) (by omega);simp [dwid,h0,hx]
 | x :: r,1,_,hz,ht => by
  have h0 : dwid r = 0 := zdE (Nat.zero_le _) (fun j h _ => by have := hz (j + 1) (by simpa using h) (by omega);simpa using this) (fun h => by omega);have hx : x ≠ 0 := by simpa using ht (by omega) (by simp)
  simp [dwid,h0,hx]
 | x :: r,n + 2,hn,hz,ht => by
  have h0 : dwid r = n + 1 := by
   refine zdE (by simpa using hn) (fun j h hj => ?_) (fun _ h' => ?_)
   ·have := hz (j + 1) (by simpa using h) (by omega);simpa using this
   ·have := ht (by omega) (by simpa using h');simpa using this
  simp [dwid,h0]
theorem zWF : ∀ n,0 < dpw n
 | 0 => by simp [dpw]
 | n + 1 => by have := zWF n;unfold dpw dwB;omega
theorem ztB : ∀ (xs ys : List Int),dval (xs ++ ys) = dval xs + dpw xs.length * dval ys
 | [],ys => by simp [dval,dpw]
 | x :: r,ys => by
  simp only [List.cons_append,List.length_cons,dval,dpw,ztB r ys];rw [Int.mul_add,Int.mul_assoc];omega
theorem dlst_get {xs : List Int} {j : Nat} (h : j < dwid xs) : (dlst xs)[j]'(by rw [zDB];exact h) = xs[j]'(by have := znD xs;omega) := by simp [dlst]
theorem zvF : ∀ {xs : List Int} {n : Nat},dwid xs = n + 1 → ∃ h : n < xs.length,xs[n] ≠ 0
 | [],n,h => by simp [dwid] at h
 | x :: r,n,h => by
  unfold dwid at h
  split at h
  ·split at h
   ·cases h
   ·have : n = 0 := by omega
    subst this;exact ⟨by simp,by simpa⟩
  ·rename_i hr
   obtain ⟨m,hm⟩ : ∃ m,dwid r = m + 1 := ⟨dwid r - 1,by omega⟩
   obtain ⟨h1,h2⟩ := zvF hm;have : n = m + 1 := by omega
   subst this;exact ⟨by simpa using h1,by simpa using h2⟩
open Go.RowKit
def SlI (B : Nat) (w : World) (v : Value) (ps : List Int) : Prop :=
 (∀ p ∈ ps,-9223372036854775808 ≤ p ∧ p ≤ 9223372036854775807) ∧ ∃ a cap,v = .slice a ps.length cap ∧ ps.length ≤ cap ∧ cap ≤ 35184372088832 ∧
  (ps = [] ∨ ∃ b off,a = some ⟨b,off,none⟩ ∧ b < B ∧ ∀ j (h : j < ps.length),w.cell? ⟨b,off + j,none⟩ = some (.int .i64 ps[j]))
end Go.Proofs.Ytppddlbkdoebmaa
namespace Go.Proofs.Ytppddlbkdoebmaa
def vn : List Int → Nat
 | [] => 0
 | x :: r => x.toNat + 2 ^ 64 * vn r
theorem zNA : ∀ {xs : List Int},WF xs → val xs = (vn xs : Int)
 | [],_ => rfl
 | x :: r,h => by
  have h1 := h.head;unfold IsW wB at h1;rw [val,vn,zNA h.tail];unfold wB;omega
theorem zqG {xs ys : List Int} (hx : WF xs) (hy : WF ys) : vn xs = vn ys ↔ val xs = val ys := by
 rw [zNA hx,zNA hy];omega
theorem zeB {x : Int} (h : IsW x) : x.toNat < 2 ^ 64 := by unfold IsW wB at h;omega
theorem zkE : ∀ {xs : List Int},WF xs → vn xs < 2 ^ (64 * xs.length)
 | [],_ => by simp [vn]
 | x :: r,h => by
  have h1 := zeB h.head;have h2 := zkE h.tail;rw [vn,List.length_cons,show 64 * (r.length + 1) = 64 + 64 * r.length by omega,Nat.pow_add];have := Nat.mul_le_mul_left (2 ^ 64) (Nat.succ_le_of_lt h2);rw [Nat.mul_succ] at this;omega
theorem zgC : ∀ (xs ys : List Int),vn (xs ++ ys) = vn xs + 2 ^ (64 * xs.length) * vn ys
 | [],ys => by simp [vn]
 | x :: r,ys => by
  rw [List.cons_append,vn,vn,zgC r ys,List.length_cons,show 64 * (r.length + 1) = 64 + 64 * r.length by omega,Nat.pow_add,Nat.mul_add,Nat.mul_assoc];omega
theorem zZF {xs : List Int} (h : ∀ x ∈ xs,x = 0) : vn xs = 0 := by
 induction xs with
 | nil => rfl
 | cons x r ih => rw [vn,h x (by simp),ih (fun y hy => h y (by simp [hy]))];simp
theorem zSE {lo top s : Nat} (h : lo < 2 ^ s) (ht : top ≠ 0) : bitLen (lo + 2 ^ s * top) = s + bitLen top := by
 have hp : 0 < 2 ^ s := Nat.two_pow_pos s;have e : (lo + 2 ^ s * top) / 2 ^ s = top := by
  rw [Nat.add_mul_div_left _ _ hp,Nat.div_eq_of_lt h];omega
 rw [bitLen_shift _ s (by rw [e];exact ht),e]
theorem zzE {xs : List Int} {n : Nat} (hn : wid xs = n + 1) (h : n < xs.length) : lst xs = xs.take n ++ [xs[n]] := by
 unfold lst;rw [hn,List.take_succ_eq_append_getElem h]
theorem zsC : ∀ {xs : List Int} {n : Nat},wid xs = n + 1 → ∃ h : n < xs.length,xs[n] ≠ 0
 | [],n,h => by simp [wid] at h
 | x :: r,n,h => by
  unfold wid at h
  split at h
  ·split at h
   ·cases h
   ·have : n = 0 := by omega
    subst this;exact ⟨by simp,by simpa⟩
  ·rename_i hr
   obtain ⟨m,hm⟩ : ∃ m,wid r = m + 1 := ⟨wid r - 1,by omega⟩
   obtain ⟨h1,h2⟩ := zsC hm;have : n = m + 1 := by omega
   subst this;exact ⟨by simpa using h1,by simpa using h2⟩
theorem zlE {xs : List Int} (h : WF xs) : vn (lst xs) = vn xs := (zqG (canon_lst h).1 h).2 (val_lst xs)
theorem zGD {xs : List Int} (hw : WF xs) {n : Nat} (hn : wid xs = n + 1) (h : n < xs.length) : bitLen (vn xs) = 64 * n + bitLen xs[n].toNat := by
 obtain ⟨_,hne⟩ := zsC hn;rw [← zlE hw,zzE hn h,zgC];have hl : (xs.take n).length = n := by simp;omega
 have h1 := zkE (hw.take n);rw [hl] at h1 ⊢;have e : vn [xs[n]] = xs[n].toNat := by simp [vn]
 rw [e];refine zSE h1 ?_;have := (hw.get h).1;omega
theorem zYC {xs : List Int} (hw : WF xs) (h : wid xs = 0) : vn xs = 0 := by
 have := zmA xs h;rw [zNA hw] at this;omega
end Go.Proofs.Ytppddlbkdoebmaa
