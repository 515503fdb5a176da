/-
 QWordsToCarry: Words, Base, Open, Bulk, Ints, Carry, joined.
-/
import Derived.Below
import Derived.Test.YtkdobgbicnemcaaGreatDoorRows
import Derived.WalkKit
import Derived.WalkSpells
import Derived.WalkLawsBesides
import Derived.Deep.QuietTactic
import Derived.BigQuiet
import Derived.ProofKit
import Derived.SizedLaws
import Derived.ChangeOld
import Derived.OpenShut
import Derived.Laws.Externs
import Derived.Shelf.Spec.BitsCarry
import Derived.Deep.RegionHeld3
import Derived.Laws.CopyOwn

set_option maxRecDepth 100000
set_option maxHeartbeats 6400000
set_option linter.unusedVariables false
set_option linter.unusedSimpArgs false
namespace Go.Proofs.YtkdobgbicnemcaaGreatDoor
def wB : Int := 18446744073709551616
def IsW (x : Int) : Prop := 0 ≤ x ∧ x < wB
def WF (xs : List Int) : Prop := ∀ x ∈ xs,IsW x
def val : List Int → Int
 | [] => 0
 | x :: r => x + wB * val r
def wid : List Int → Nat
 | [] => 0
 | x :: r => if wid r = 0 then (if x = 0 then 0 else 1) else wid r + 1
def pw : Nat → Int
 | 0 => 1
 | n + 1 => wB * pw n
def zHA (xs : List Int) : Prop := WF xs ∧ wid xs = xs.length
def cmpI (a b : Int) : Int := if a < b then -1 else if b < a then 1 else 0
theorem zhA {a b : Int} (h : a < b) : cmpI a b = -1 := by unfold cmpI;rw [if_pos h]
theorem ziA {a b : Int} (h : b < a) : cmpI a b = 1 := by unfold cmpI;rw [if_neg (by omega),if_pos h]
theorem cmpI_self (a : Int) : cmpI a a = 0 := by unfold cmpI;rw [if_neg (by omega),if_neg (by omega)]
theorem cmpI_zero {a b : Int} (h : cmpI a b = 0) : a = b := by
 rcases Int.lt_trichotomy a b with q | q | q
 ·rw [zhA q] at h;omega
 ·exact q
 ·rw [ziA q] at h;omega
theorem WF.nil : WF [] := fun x h => by cases h
theorem WF.cons {x : Int} {r : List Int} (hx : IsW x) (hr : WF r) : WF (x :: r) := by
 intro y hy;rcases List.mem_cons.1 hy with rfl | h
 ·exact hx
 ·exact hr y h
theorem WF.head {x : Int} {r : List Int} (h : WF (x :: r)) : IsW x := h x (by simp)
theorem WF.tail {x : Int} {r : List Int} (h : WF (x :: r)) : WF r := fun y hy => h y (by simp [hy])
theorem WF.take {xs : List Int} (h : WF xs) (n : Nat) : WF (xs.take n) := fun x hx => h x (List.mem_of_mem_take hx)
theorem WF.append {xs ys : List Int} (h : WF xs) (k : WF ys) : WF (xs ++ ys) := by
 intro x hx;rcases List.mem_append.1 hx with q | q
 ·exact h x q
 ·exact k x q
theorem WF.get {xs : List Int} (h : WF xs) {i : Nat} (hi : i < xs.length) : IsW xs[i] := h _ (List.getElem_mem hi)
theorem WF.set {xs : List Int} (h : WF xs) (i : Nat) {x : Int} (hx : IsW x) : WF (xs.set i x) := by
 intro y hy;rcases List.mem_or_eq_of_mem_set hy with q | rfl
 ·exact h y q
 ·exact hx
theorem zEA : ∀ {xs : List Int},WF xs → 0 ≤ val xs
 | [],_ => by simp [val]
 | x :: r,h => by
  have h1 := h.head;have h2 := zEA h.tail;unfold IsW wB at h1;unfold val wB;omega
theorem zRA : ∀ xs : List Int,wid xs ≤ xs.length
 | [] => by simp [wid]
 | x :: r => by
  have := zRA r;unfold wid;split
  ·split <;> simp
  ·simp;omega
theorem zvA : ∀ xs : List Int,wid xs = 0 → val xs = 0
 | [],_ => rfl
 | x :: r,h => by
  unfold wid at h
  split at h
  ·rename_i h0
   have := zvA r h0
   split at h
   ·rename_i hx;simp [val,hx,this]
   ·cases h
  ·cases h
theorem zwA : ∀ {xs : List Int},WF xs → 0 < wid xs → 0 < val xs
 | [],_,h => by simp [wid] at h
 | x :: r,hw,h => by
  have h1 := hw.head;have h2 := zEA hw.tail;unfold wid at h;unfold IsW wB at h1
  split at h
  ·split at h
   ·cases h
   ·unfold val wB;omega
  ·have := zwA hw.tail (by omega)
   unfold val wB;omega
theorem zfB : ∀ {xs ys : List Int},WF xs → WF ys → wid xs < wid ys → val xs < val ys
 | [],ys,_,hy,h => by
  have := zwA hy (by simp [wid] at h;exact h)
  simpa [val] using this
 | x :: xs,[],_,_,h => by simp [wid] at h
 | x :: xs,y :: ys,hx,hy,h => by
  have hx1 := hx.head;have hy1 := hy.head;have vy := zEA hy.tail
  by_cases e : wid ys = 0
  ·have : wid (y :: ys) ≤ 1 := by unfold wid;rw [if_pos e];split <;> simp
   have h0 : wid (x :: xs) = 0 := by omega
   rw [zvA _ h0];exact zwA hy (by omega)
  ·have e1 : wid (y :: ys) = wid ys + 1 := by rw [wid,if_neg e]
   have e2 : wid xs < wid ys := by
    by_cases q : wid xs = 0
    ·omega
    ·have : wid (x :: xs) = wid xs + 1 := by rw [wid,if_neg q]
     omega
   have := zfB hx.tail hy.tail e2;unfold IsW wB at hx1 hy1;unfold val wB;omega
theorem zqD {x : Int} {r : List Int} (h : zHA (x :: r)) : zHA r := by
 refine ⟨h.1.tail,?_⟩;have h2 := h.2;unfold wid at h2
 split at h2
 ·split at h2
  ·simp at h2
  ·simp only [List.length_cons] at h2;omega
 ·simp only [List.length_cons] at h2;omega
theorem zgB : ∀ {ys : List Int},zHA ys → val ys = 0 → ys = []
 | [],_,_ => rfl
 | y :: ys,hy,h => by
  exfalso
  have h2 := hy.2;have := zwA hy.1 (by rw [h2];simp);omega
theorem zzE : ∀ {xs ys : List Int},zHA xs → zHA ys → val xs = val ys → xs = ys
 | [],ys,_,hy,h => (zgB hy (by simpa [val] using h.symm)).symm
 | x :: xs,[],hx,_,h => zgB hx (by simpa [val] using h)
 | x :: xs,y :: ys,hx,hy,h => by
  have hx1 := hx.1.head;have hy1 := hy.1.head;unfold IsW wB at hx1 hy1;unfold val wB at h;have e1 : x = y := by omega
  have e2 : val xs = val ys := by omega
  rw [e1,zzE (zqD hx) (zqD hy) e2]
def lst (xs : List Int) : List Int := xs.take (wid xs)
theorem length_lst (xs : List Int) : (lst xs).length = wid xs := by unfold lst;have := zRA xs;simp;omega
theorem zIH (x : Int) (r : List Int) : lst (x :: r) = if wid r = 0 then (if x = 0 then [] else [x]) else x :: lst r := by
 have e : wid (x :: r) = if wid r = 0 then (if x = 0 then 0 else 1) else wid r + 1 := by rw [wid]
 unfold lst;rw [e]
 split
 ·split <;> simp
 ·simp
theorem val_lst : ∀ xs : List Int,val (lst xs) = val xs
 | [] => rfl
 | x :: r => by
  rw [zIH]
  split
  ·rename_i h0
   have := zvA r h0
   split
   ·rename_i hx;simp [val,hx,this]
   ·simp [val,this]
  ·simp [val,val_lst r]
theorem zdH : ∀ xs : List Int,wid (lst xs) = wid xs
 | [] => rfl
 | x :: r => by
  rw [zIH,wid]
  split
  ·split
   ·rfl
   ·rename_i hx;simp [wid,hx]
  ·rename_i h0
   rw [wid,zdH r,if_neg h0]
theorem canon_lst {xs : List Int} (h : WF xs) : zHA (lst xs) := ⟨h.take _,by rw [zdH,length_lst]⟩
theorem wid_is : ∀ {xs : List Int} {n : Nat},n ≤ xs.length → (∀ j (h : j < xs.length),n ≤ j → xs[j] = 0) → (0 < n → ∀ h' : n - 1 < xs.length,xs[n - 1] ≠ 0) → wid xs = n
 | [],n,hn,_,_ => by simp at hn;simp [wid,hn]
 | x :: r,0,_,hz,_ => by
  have h0 : wid r = 0 := wid_is (Nat.zero_le _) (fun j h _ => by have := hz (j + 1) (by simpa using h) (by omega);simpa using this) (fun h => by omega);have hx : x = 0 := hz 0 (by simp) (by omega);simp [wid,h0,hx]
 | x :: r,1,_,hz,ht => by
  have h0 : wid r = 0 := wid_is (Nat.zero_le _) (fun j h _ => by have := hz (j + 1) (by simpa using h) (by omega);simpa using this) (fun h => by omega);have hx : x ≠ 0 := by simpa using ht (by omega) (by simp)
  simp [wid,h0,hx]
 | x :: r,n + 2,hn,hz,ht => by
  have h0 : wid r = n + 1 := by
   refine wid_is (by simpa using hn) (fun j h hj => ?_) (fun _ h' => ?_)
   ·have := hz (j + 1) (by simpa using h) (by omega);simpa using this
   ·have := ht (by omega) (by simpa using h');simpa using this
  simp [wid,h0]
theorem zUA : ∀ {xs : List Int},WF xs → val xs < pw xs.length
 | [],_ => by simp [val,pw]
 | x :: r,h => by
  have h1 := h.head;have h2 := zUA h.tail;unfold IsW wB at h1;simp only [List.length_cons];unfold val pw wB;omega
theorem zVB : ∀ n,0 < pw n
 | 0 => by simp [pw]
 | n + 1 => by have := zVB n;unfold pw wB;omega
theorem zuA : ∀ (xs ys : List Int),val (xs ++ ys) = val xs + pw xs.length * val ys
 | [],ys => by simp [val,pw]
 | x :: r,ys => by
  simp only [List.cons_append,List.length_cons,val,pw,zuA r ys];rw [Int.mul_add,Int.mul_assoc];omega
theorem zhB : ∀ (xs : List Int) (i : Nat) (z : Int) (h : i < xs.length),val (xs.set i z) = val xs + (z - xs[i]) * pw i
 | [],i,z,h => by simp at h
 | x :: r,0,z,_ => by simp [val,pw];omega
 | x :: r,i + 1,z,h => by
  have := zhB r i z (by simpa using h);simp only [List.set_cons_succ,List.getElem_cons_succ,val,pw,this];have h' : i < r.length := by simpa using h
  generalize hq : z - r[i]'h' = q;rw [Int.mul_add,← Int.mul_assoc,← Int.mul_assoc,Int.mul_comm wB q];omega
theorem zPA (ys : List Int) (i : Nat) (h : i < ys.length) : val (ys.take (i + 1)) = val (ys.take i) + ys[i] * pw i := by
 rw [List.take_succ_eq_append_getElem h,zuA];simp [val,Int.mul_comm,Nat.min_eq_left (Nat.le_of_lt h)]
theorem canon_of_ge {zs : List Int} (hw : WF zs) {xs : List Int} (hx : zHA xs) (hl : zs.length = xs.length) (hv : val xs ≤ val zs) : zHA zs := by
 refine ⟨hw,?_⟩;have h1 := zRA zs
 by_cases e : wid zs = zs.length
 ·exact e
 ·exfalso
  have := zfB hw hx.1 (by rw [hx.2];omega);omega
theorem canon_snoc_one {zs : List Int} (hw : WF zs) : zHA (zs ++ [1]) := by
 refine ⟨hw.append (by intro x hx;simp at hx;subst hx;unfold IsW wB;omega),?_⟩;refine wid_is (by simp) (fun j h hj => by omega) (fun h h' => ?_)
 simp
theorem zhI : ∀ {xs ys : List Int} {j : Nat},WF xs → WF ys → (hl : xs.length = ys.length) → (h : j < xs.length) → xs.drop (j + 1) = ys.drop (j + 1) → xs[j] ≠ ys[j]'(by omega) → cmpI (val xs) (val ys) = cmpI xs[j] (ys[j]'(by omega))
 | [],_,_,_,_,_,h,_,_ => by simp at h
 | x :: xs,[],_,_,_,hl,_,_,_ => by simp at hl
 | x :: xs,y :: ys,0,hx,hy,_,_,hd,hne => by
  simp only [List.drop_succ_cons,List.drop_zero] at hd;simp only [List.getElem_cons_zero] at hne ⊢;have hx1 := hx.head;have hy1 := hy.head;unfold IsW wB at hx1 hy1;subst hd;simp only [cmpI,val];have e1 : (x + wB * val xs < y + wB * val xs) ↔ x < y := by omega
  have e2 : (y + wB * val xs < x + wB * val xs) ↔ y < x := by omega
  simp only [e1,e2]
 | x :: xs,y :: ys,j + 1,hx,hy,hl,h,hd,hne => by
  simp only [List.drop_succ_cons] at hd;simp only [List.getElem_cons_succ] at hne ⊢;have ih := zhI hx.tail hy.tail (by simpa using hl) (by simpa using h) hd hne;have hx1 := hx.head;have hy1 := hy.head;unfold IsW wB at hx1 hy1;rw [← ih];have hne' : val xs ≠ val ys := by
   intro e;rw [e,cmpI_self] at ih;exact hne (cmpI_zero ih.symm)
  rcases Int.lt_or_gt_of_ne hne' with q | q
  ·rw [zhA q,zhA (by unfold val wB;omega)]
  ·rw [ziA q,ziA (by unfold val wB;omega)]
open Go.RowKit
theorem hid {p : Prop} (h : p) : Hid p := h
def Sl (B : Nat) (w : World) (v : Value) (xs : List Int) : Prop :=
 WF xs ∧ ∃ a cap,v = .slice a xs.length cap ∧ xs.length ≤ cap ∧ xs.length ≤ 35184372088832 ∧
  (xs = [] ∨ ∃ b off,a = some ⟨b,off,none⟩ ∧ b < B ∧ ∀ j (h : j < xs.length),w.cell? ⟨b,off + j,none⟩ = some (.int .u64 xs[j]))
theorem Sl.nilAt (w : World) : Sl w.heap.size w (.slice none 0 0) [] := ⟨WF.nil,none,0,rfl,Nat.le_refl _,Nat.zero_le _,.inl rfl⟩
theorem Sl.mono {B B' : Nat} {w : World} {v : Value} {xs : List Int} (h : Sl B w v xs) (hB : B ≤ B') : Sl B' w v xs := by
 obtain ⟨h1,a,cap,h2,h3,h4,h5⟩ := h;refine ⟨h1,a,cap,h2,h3,h4,?_⟩;rcases h5 with h5 | ⟨b,off,h6,h7,h8⟩
 ·exact .inl h5
 ·exact .inr ⟨b,off,h6,by omega,h8⟩
theorem Sl.below {B B' : Nat} {w w' : World} {v : Value} {xs : List Int} (h : Sl B w v xs) (hb : Below B' w w') (hB : B ≤ B') : Sl B w' v xs := by
 obtain ⟨h1,a,cap,h2,h3,h4,h5⟩ := h;refine ⟨h1,a,cap,h2,h3,h4,?_⟩;rcases h5 with h5 | ⟨b,off,h6,h7,h8⟩
 ·exact .inl h5
 ·exact .inr ⟨b,off,h6,h7,fun j hj => (hb.cell (p := ⟨b,off + j,none⟩) (by show b < B';omega)).trans (h8 j hj)⟩
theorem zYA {x : Int} (h0 : -9223372036854775808 ≤ x) (h1 : x ≤ 9223372036854775807) : IntKind.i64.wrap x = x := by rw [IntKind.wrap_i64];omega
theorem zoE {xs : List Int} {j : Nat} (h : j < xs.length) : xs.getD j 0 = xs[j] := by simp [h]
theorem zmA {B : Nat} {w : World} {v : Value} {xs : List Int} (h : Sl B w v xs) :
  Calls Tryz.prog 107 #[v] w fun e w' => e = .returned (.int .i64 (wid xs)) ∧ w' = w := by
 obtain ⟨hw,a,cap,rfl,hlc,hcm,hm⟩ := h;have HW : Hid (∀ n : Nat,n ≤ xs.length → (∀ j (h : j < xs.length),n ≤ j → xs[j] = 0) → (0 < n → ∀ h' : n - 1 < xs.length,xs[n - 1] ≠ 0) → wid xs = n) := fun n h1 h2 h3 => wid_is h1 h2 h3
 generalize wid xs = W at *;go_enter Tryz.func107,Tryz.ntmps107;go_wp2
 go_loop [3] (fun i => ∃ n : Nat,n ≤ xs.length ∧ i = .int .i64 n ∧ ∀ j (h : j < xs.length),n ≤ j → xs[j] = 0) (fun i => (intOf i).toNat)
 case atStart => exact ⟨xs.length,Nat.le_refl _,rfl,fun j h h' => by omega⟩
 case round =>
  obtain ⟨n,hn,rfl,hz⟩ := hrel;have HZ : Hid (∀ j (h : j < xs.length),n ≤ j → xs[j] = 0) := hz;clear hz
  by_cases h0 : n = 0
  ·subst h0
   go_wp2;go_ret;exact ⟨by rw [HW.out 0 (by omega) HZ.out (by omega)];rfl,rfl⟩
  ·obtain ⟨k,rfl⟩ : ∃ k,n = k + 1 := ⟨n - 1,by omega⟩
   rcases hm with rfl | ⟨b,off,rfl,hb,hc⟩
   ·simp at hn
   ·have hk : k < xs.length := by omega
    have hck := hc k hk;obtain ⟨x,hx⟩ : ∃ x,x = xs[k] := ⟨_,rfl⟩
    rw [← hx] at hck;have HX : Hid (x = xs[k]) := hx;clear hx hc h0
    by_cases hx0 : x = 0
    ·have ht : (x == 0) = true := by simp [hx0]
     go_wp2;go_round
     case rel =>
      refine ⟨k,by omega,rfl,fun j h hj => ?_⟩
      by_cases e : j = k
      ·subst e;rw [← HX.out];exact hx0
      ·exact HZ.out j h (by omega)
     case measure => simp [intOf]
    ·have ht : (x == 0) = false := by simp [hx0]
     go_wp2;go_ret;refine ⟨?_,rfl⟩;rw [HW.out (k + 1) hn HZ.out (fun _ h' => by have := HX.out;simp at h' ⊢;rw [← this];exact hx0)]
     rfl
theorem order_any (x y : Int) (w : World) :
  Calls Tryz.prog 110 #[.int .u64 x,.int .u64 y] w fun e w' => e = .returned (.int .i64 (cmpI x y)) ∧ w' = w := by
 rcases Int.lt_trichotomy x y with q | q | q
 ·rw [zhA q]
  go_enter Tryz.func110,Tryz.ntmps110;go_wp2;go_ret;exact ⟨rfl,rfl⟩
 ·subst q
  rw [cmpI_self];go_enter Tryz.func110,Tryz.ntmps110;go_wp2;go_ret;exact ⟨rfl,rfl⟩
 ·rw [ziA q]
  have q' : ¬ x < y := by omega
  go_enter Tryz.func110,Tryz.ntmps110;go_wp2;go_ret;exact ⟨rfl,rfl⟩
def same (xs ys : List Int) : Bool := decide (xs = ys)
theorem same_self (xs : List Int) : same xs xs = true := by simp [same]
theorem same_any {B : Nat} {w : World} {v u : Value} {xs ys : List Int} (h : Sl B w v xs) (h' : Sl B w u ys) :
  Calls Tryz.prog 89 #[v,u] w fun e w' => e = .returned (.bool (same xs ys)) ∧ ∃ n,w' = w.drewN n := by
 obtain ⟨hw,a,cap,rfl,hlc,hcm,hm⟩ := h;obtain ⟨hw',a',cap',rfl,hlc',hcm',hm'⟩ := h'
 by_cases hl : xs.length = ys.length
 ·have HS1 : Hid ((∀ j (h : j < xs.length),xs[j] = ys[j]'(by omega)) → same xs ys = true) := fun h => by
   unfold same;exact decide_eq_true (List.ext_getElem hl (fun j h1 h2 => h j h1))
  have HS2 : Hid (∀ j (h : j < xs.length),xs[j] ≠ ys[j]'(by omega) → same xs ys = false) := fun j h hne => by
   unfold same;exact decide_eq_false (fun e => hne (by subst e;rfl))
  generalize same xs ys = S at *;have HL : Hid (xs.length = ys.length) := hl;obtain ⟨n,hn⟩ : ∃ n,n = ys.length := ⟨_,rfl⟩
  rw [← hn] at hl hlc' HL;rw [hl,← hn];rw [hl] at hlc;have hne : ((n : Int) != (n : Int)) = false := by simp
  have HN : Hid (n = ys.length) := hn;clear hn hl;go_enter Tryz.func89,Tryz.ntmps89;go_wp2
  go_loopw [5] (fun i wr => ∃ k q : Nat,k ≤ n ∧ i = .int .i64 k ∧ wr = w.drewN q ∧ ∀ j (h : j < xs.length),j < k → xs[j] = ys[j]'(by have := HL.out;have := HN.out;omega)) (fun i _ => n - (intOf i).toNat)
  case atStart => exact ⟨0,0,Nat.zero_le _,rfl,rfl,fun j h h' => by omega⟩
  case round =>
   obtain ⟨k,q,hk,rfl,rfl,he⟩ := hrel;have HE : Hid (∀ j (h : j < xs.length),j < k → xs[j] = ys[j]'(by have := HL.out;have := HN.out;omega)) := he;clear he
   by_cases hlt : k < n
   ·have hk1 : k < xs.length := by have := HL.out;omega
    have hk2 : k < ys.length := by have := HN.out;omega
    rcases hm with e | ⟨b,off,rfl,hb,hc⟩
    ·subst e;simp at hk1
    rcases hm' with e | ⟨b',off',rfl,hb',hc'⟩
    ·subst e;simp at hk2
    have c1 : ∀ q,(w.drewN q).cell? ⟨b,off + k,none⟩ = some (.int .u64 xs[k]) := fun q => by simpa using hc k hk1
    have c2 : ∀ q,(w.drewN q).cell? ⟨b',off' + k,none⟩ = some (.int .u64 ys[k]) := fun q => by simpa using hc' k hk2
    obtain ⟨x,hx⟩ : ∃ x,x = xs[k] := ⟨_,rfl⟩
    obtain ⟨y,hy⟩ : ∃ y,y = ys[k] := ⟨_,rfl⟩
    rw [← hx] at c1;rw [← hy] at c2;have HX : Hid (x = xs[k]) := hx;have HY : Hid (y = ys[k]) := hy;clear hx hy hc hc'
    by_cases hxy : x = y
    ·have ht : (x != y) = false := by simp [hxy]
     go_wp2;go_quiet (fail);go_wp2;go_roundw
     case rel =>
      refine ⟨k + 1,_,by omega,by go_num,rfl,fun j h hj => ?_⟩
      by_cases e : j = k
      ·subst e;rw [← HX.out,← HY.out];exact hxy
      ·exact HE.out j h (by omega)
     case measure => simp [intOf];omega
    ·have ht : (x != y) = true := by simp [hxy]
     go_wp2;go_quiet (fail);go_wp2;go_ret;refine ⟨?_,q + nq,by simp⟩;rw [HS2.out k hk1 (by rw [← HX.out,← HY.out];exact hxy)]
     rfl
   ·go_wp2
    go_ret;refine ⟨?_,q,rfl⟩;rw [HS1.out (fun j h => HE.out j h (by have := HL.out;omega))]
    rfl
 ·have HS : Hid (same xs ys = false) := by unfold same;exact decide_eq_false (fun e => hl (by rw [e]))
  have hne : ((xs.length : Int) != (ys.length : Int)) = true := by simp;omega
  rw [HS.out];go_enter Tryz.func89,Tryz.ntmps89;go_wp2;go_ret;exact ⟨rfl,0,rfl⟩
theorem Sl.drewN {B : Nat} {w : World} {v : Value} {xs : List Int} (h : Sl B w v xs) (n : Nat) : Sl B (w.drewN n) v xs := by
 obtain ⟨h1,a,cap,h2,h3,h4,h5⟩ := h;refine ⟨h1,a,cap,h2,h3,h4,?_⟩;rcases h5 with h5 | ⟨b,off,h6,h7,h8⟩
 ·exact .inl h5
 ·exact .inr ⟨b,off,h6,h7,fun j hj => by simpa using h8 j hj⟩
open Go.ChangeShapes Go.WideShapes Go.ChangeAt Go.RowKit
theorem Tryz.own : ownKnob Tryz.prog.godebug = none := by kernel_rfl
theorem Tryz.laidOut : laidOutB Tryz.prog = true := by kernel_rfl
theorem Tryz.cellsW : Tryz.prog.cellsOf 53 = 1 := by kernel_rfl
theorem word_of_wf {n : Int} (h : (Lit.int .u64 n).wf = true) : IsW n := by
 have h1 : IntKind.u64.min = 0 := rfl;have h2 : IntKind.u64.max = 18446744073709551615 := rfl;simp only [Lit.wf,Bool.and_eq_true,decide_eq_true_eq] at h;unfold IsW wB;omega
def zPI (v : Value) : Prop := v = .slice none 0 0 ∨ ∃ ad n c,v = .slice (some ad) n c
theorem zHE {H : Type} (d : DataW H) : 1 ≤ Rows.uptoBulk d := by
 cases d
 case lit l => cases l <;> simp [Rows.uptoBulk]
 all_goals simp [Rows.uptoBulk]
theorem bulk_in {H : Type} {d : DataW H} : ∀ {l : List (DataW H)},d ∈ l → Rows.uptoBulk d ≤ Rows.uptoBulkAll l
 | [],h => by cases h
 | x :: r,h => by
  simp only [Rows.uptoBulkAll];rcases List.mem_cons.1 h with rfl | h'
  ·omega
  ·have := bulk_in h';omega
theorem zvC {H : Type} : ∀ l : List (DataW H),l.length ≤ Rows.uptoBulkAll l
 | [] => Nat.zero_le _
 | x :: r => by
  have h1 := zHE x;have h2 := zvC r;simp only [Rows.uptoBulkAll,List.length_cons];omega
theorem open_words3 {H : Type} {enc : TypeId × Value → H} {W : World} {fuel : Nat} {v : Value} {x : DataW H × List MemPlace}
  (hf : DataW.trod enc Tryz.prog W 0 (fun _ => true) true fuel 24 [v] = some x) (hb : Rows.uptoBulk x.1 ≤ 1048576) :
  ∃ xs,Sl W.heap.size W v xs ∧ xs.length + 1 ≤ Rows.uptoBulk x.1 ∧ zPI v := by
 rcases open_ints Tryz.underlying24 Tryz.underlying53 Tryz.cellsW hf with ⟨hcs,_⟩ | ⟨x',len,cap,zs,hcs,_,hl,hm,hz,hx,hcell,hwz⟩
 ·simp only [List.cons.injEq,and_true] at hcs
  subst hcs;exact ⟨[],Sl.nilAt W,zHE _,.inl rfl⟩
 ·simp only [List.cons.injEq,and_true] at hcs
  subst hcs;simp only [if_true] at hz;rw [hx] at hb ⊢;simp only [Rows.uptoBulk] at hb ⊢;have e1 := zvC (lits (H := H) .u64 (zs.take len));have e2 := zvC (lits (H := H) .u64 (zs.drop len));simp only [lits,List.length_map,List.length_take,List.length_drop] at e1 e2;have hlen : (zs.take len).length = len := by simp;omega
  have hzl : zs.length ≤ 1048576 := by simp only [lits] at hb;omega
  refine ⟨zs.take len,⟨fun y hy => word_of_wf (hwz y (List.mem_of_mem_take hy)),some x',cap,by rw [hlen],by rw [hlen];exact hl,by omega,?_⟩,by rw [hlen];simp only [lits];omega,.inr ⟨x',len,cap,rfl⟩⟩
  by_cases he : len = 0
  ·exact .inl (by simp [he])
  ·obtain ⟨b,off,spot⟩ := x'
   have hc := hcell 0 (by omega);have hspot : spot = none := by simpa [Addr.add] using World.cell?_spot hc
   subst hspot;refine .inr ⟨b,off,rfl,?_,fun j hj => ?_⟩
   ·have := World.block_lt_of_cell? W _ hc
    simpa [Addr.add] using this
   ·rw [hlen] at hj
    have hcj := hcell j (by omega);have e : (⟨b,off,none⟩ : Addr).add j = ⟨b,off + j,none⟩ := by unfold Addr.add;split <;> simp_all
    rw [e] at hcj;rw [hcj];simp [show j < zs.length by omega]
theorem zYF {n : Int} (h : (Lit.int .i64 n).wf = true) : -9223372036854775808 ≤ n ∧ n ≤ 9223372036854775807 := by
 have h1 : IntKind.i64.min = -9223372036854775808 := rfl;have h2 : IntKind.i64.max = 9223372036854775807 := rfl;simp only [Lit.wf,Bool.and_eq_true,decide_eq_true_eq] at h;omega
end Go.Proofs.YtkdobgbicnemcaaGreatDoor
namespace Go.Proofs.YtkdobgbicnemcaaGreatDoor
open Go.RowKit
theorem zkB {x y c : Int} (hx : IsW x) (hy : IsW y) (hc0 : 0 ≤ c) (hc : c ≤ 1) :
  ∃ s d,IsW s ∧ 0 ≤ d ∧ d ≤ 1 ∧ s + wB * d = x + y + c ∧
   ∀ w : World,(callFunc 133 #[.int .u64 x,.int .u64 y,.int .u64 c]).run Tryz.prog w = .ok (.value (.tuple #[.int .u64 s,.int .u64 d])) w := by
 refine ⟨(x + y + c) % 18446744073709551616,(x + y + c) / 18446744073709551616,?_,?_,?_,?_,fun w => ?_⟩
 ·unfold IsW wB;omega
 ·unfold IsW wB at hx hy;omega
 ·unfold IsW wB at hx hy;omega
 ·unfold wB;omega
 ·rw [run_callFunc_extern Tryz.func133 (by kernel_rfl) (by kernel_rfl) (by kernel_rfl) (e := add64Entry) (by kernel_rfl),run_add64 x y c hx.1 hy.1 hc0 hc]
  rfl
theorem zMD {x y c : Int} (hx : IsW x) (hy : IsW y) (hc0 : 0 ≤ c) (hc : c ≤ 1) :
  ∃ s d,IsW s ∧ 0 ≤ d ∧ d ≤ 1 ∧ s - wB * d = x - y - c ∧
   ∀ w : World,(callFunc 134 #[.int .u64 x,.int .u64 y,.int .u64 c]).run Tryz.prog w = .ok (.value (.tuple #[.int .u64 s,.int .u64 d])) w := by
 unfold IsW wB at hx hy;obtain ⟨X,rfl⟩ := Int.eq_ofNat_of_zero_le hx.1;obtain ⟨Y,rfl⟩ := Int.eq_ofNat_of_zero_le hy.1;obtain ⟨C,rfl⟩ := Int.eq_ofNat_of_zero_le hc0;refine ⟨(((X + 18446744073709551616 - Y - C) % 18446744073709551616 : Nat) : Int),((if X < Y + C then 1 else 0 : Nat) : Int),?_,?_,?_,?_,fun w => ?_⟩
 ·unfold IsW wB;omega
 ·omega
 ·split <;> omega
 ·unfold wB;split <;> omega
 ·rw [run_callFunc_extern Tryz.func134 (by kernel_rfl) (by kernel_rfl) (by kernel_rfl) (e := sub64Entry) (by kernel_rfl),run_sub64 X Y C (by omega)]
  rfl
def Row (w : World) (g : Nat) (L : List Value) : Prop := w.heap[g]? = some (.cells L.toArray 53 (0,0))
theorem Row.lt {w : World} {g : Nat} {L : List Value} (h : Row w g L) : g < w.heap.size := (Array.getElem?_eq_some_iff.1 h).1
theorem Row.cell {w : World} {g : Nat} {L : List Value} (h : Row w g L) {i : Nat} (hi : i < L.length) : w.cell? ⟨g,i,none⟩ = some L[i] := by
 unfold Row at h;simp [World.cell?,h,hi]
theorem Row.frozen {w : World} {g : Nat} {L : List Value} (h : Row w g L) (i : Nat) : w.frozen? ⟨g,i,none⟩ = false := by
 unfold Row at h;simp [World.frozen?,h]
theorem Row.set {w : World} {g : Nat} {L : List Value} (h : Row w g L) (i : Nat) (u : Value) : Row (w.setCell ⟨g,i,none⟩ u) g (L.set i u) := by
 unfold Row at h ⊢;simp [World.setCell,Array.getElem?_modify,h]
theorem Row.alloc {w : World} {g : Nat} {L : List Value} (h : Row w g L) (o : Obj) : Row (w.alloc o) g L := (Below.heap_alloc w o g h.lt).trans h
theorem Row.drewN {w : World} {g : Nat} {L : List Value} (h : Row w g L) (n : Nat) : Row (w.drewN n) g L := h
theorem Row.below {w w' : World} {g B : Nat} {L : List Value} (h : Row w g L) (hb : Below B w w') (hg : g < B) : Row w' g L := (hb.block g hg).trans h
def ws (xs : List Int) : List Value := xs.map (Value.int .u64)
theorem zNA (xs : List Int) : (ws xs).length = xs.length := by simp [ws]
theorem ws_set (xs : List Int) (r : List Value) (i : Nat) (h : i < xs.length) (z : Int) : (ws xs ++ r).set i (.int .u64 z) = ws (xs.set i z) ++ r := by
 rw [List.set_append_left _ _ (by rw [zNA];exact h),ws,ws,List.map_set]
theorem Row.word {w : World} {g : Nat} {xs : List Int} {r : List Value} (h : Row w g (ws xs ++ r)) {i : Nat} (hi : i < xs.length) : w.cell? ⟨g,i,none⟩ = some (.int .u64 xs[i]) := by
 rw [h.cell (i := i) (by simp [zNA];omega)];simp [ws,hi]
theorem Row.setWord {w : World} {g : Nat} {xs : List Int} {r : List Value} (h : Row w g (ws xs ++ r)) {i : Nat} (hi : i < xs.length) (z : Int) : Row (w.setCell ⟨g,i,none⟩ (.int .u64 z)) g (ws (xs.set i z) ++ r) := by
 rw [← ws_set xs r i hi];exact h.set i _
theorem Row.sl {w : World} {g : Nat} {xs : List Int} {r : List Value} (h : Row w g (ws xs ++ r)) (hw : WF xs) {cap : Nat} (hc : xs.length ≤ cap) (hm : cap ≤ 35184372088832) {B : Nat} (hB : g < B) :
  Sl B w (.slice (some ⟨g,0,none⟩) xs.length cap) xs :=
 ⟨hw,_,cap,rfl,hc,by omega,.inr ⟨g,0,rfl,hB,fun j hj => by rw [Nat.zero_add];exact h.word hj⟩⟩
theorem zpD {xs zs : List Int} {ysT ysT' p y s d c : Int} {i : Nat} (hi : i < zs.length) (hv : val zs + pw i * c = val xs + ysT) (hT : ysT' = ysT + y * pw i)
  (hs : s + wB * d = zs[i] + y + c) (hp : p = pw (i + 1)) : val (zs.set i s) + p * d = val xs + ysT' := by
 subst hp;rw [zhB zs i s hi,hT];generalize hz : zs[i] = z at *;have e : s = z + y + c - wB * d := by omega
 subst e;simp only [pw,Int.sub_mul,Int.add_mul,Int.mul_assoc,Int.mul_comm c (pw i),Int.mul_comm d (pw i)];omega
theorem zBF {xs zs : List Int} {ysT ysT' p y s d c : Int} {i : Nat} (hi : i < zs.length) (hv : val zs - pw i * c = val xs - ysT) (hT : ysT' = ysT + y * pw i)
  (hs : s - wB * d = zs[i] - y - c) (hp : p = pw (i + 1)) : val (zs.set i s) - p * d = val xs - ysT' := by
 subst hp;rw [zhB zs i s hi,hT];generalize hz : zs[i] = z at *;have e : s = z - y - c + wB * d := by omega
 subst e;simp only [pw,Int.sub_mul,Int.add_mul,Int.mul_assoc,Int.mul_comm c (pw i),Int.mul_comm d (pw i)];omega
end Go.Proofs.YtkdobgbicnemcaaGreatDoor
