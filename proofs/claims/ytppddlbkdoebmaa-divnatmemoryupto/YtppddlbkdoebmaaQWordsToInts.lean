/-
 QWordsToInts: Words, Base, Open, Bulk, Ints, joined.
-/
import Derived.Below
import Derived.Test.YtppddlbkdoebmaaRows
import Derived.WalkKit
import Derived.WalkSpells
import Derived.WalkLawsBesides
import Derived.Deep.QuietTactic
import Derived.BigQuiet
import Derived.ProofKit
import Derived.SizedLaws
import Derived.ChangeOld
import Derived.OpenShut

set_option maxRecDepth 100000
set_option maxHeartbeats 6400000
set_option linter.unusedVariables false
set_option linter.unusedSimpArgs false
namespace Go.Proofs.Ytppddlbkdoebmaa
def wB : Int := 18446744073709551616
def IsW (x : Int) : Prop := 0 ≤ x ∧ x < wB
def WF (xs : List Int) : Prop := ∀ x ∈ xs,IsW x
def val : List Int → Int
 | [] => 0
 | x :: r => x + wB * val r
def wid : List Int → Nat
 | [] => 0
 | x :: r => if wid r = 0 then (if x = 0 then 0 else 1) else wid r + 1
def pw : Nat → Int
 | 0 => 1
 | n + 1 => wB * pw n
def zFA (xs : List Int) : Prop := WF xs ∧ wid xs = xs.length
def cmpI (a b : Int) : Int := if a < b then -1 else if b < a then 1 else 0
theorem zxA {a b : Int} (h : a < b) : cmpI a b = -1 := by unfold cmpI;rw [if_pos h]
theorem zyA {a b : Int} (h : b < a) : cmpI a b = 1 := by unfold cmpI;rw [if_neg (by omega),if_pos h]
theorem cmpI_self (a : Int) : cmpI a a = 0 := by unfold cmpI;rw [if_neg (by omega),if_neg (by omega)]
theorem cmpI_zero {a b : Int} (h : cmpI a b = 0) : a = b := by
 rcases Int.lt_trichotomy a b with q | q | q
 ·rw [zxA q] at h;omega
 ·exact q
 ·rw [zyA q] at h;omega
theorem WF.nil : WF [] := fun x h => by cases h
theorem WF.cons {x : Int} {r : List Int} (hx : IsW x) (hr : WF r) : WF (x :: r) := by
 intro y hy;rcases List.mem_cons.1 hy with rfl | h
 ·exact hx
 ·exact hr y h
theorem WF.head {x : Int} {r : List Int} (h : WF (x :: r)) : IsW x := h x (by simp)
theorem WF.tail {x : Int} {r : List Int} (h : WF (x :: r)) : WF r := fun y hy => h y (by simp [hy])
theorem WF.take {xs : List Int} (h : WF xs) (n : Nat) : WF (xs.take n) := fun x hx => h x (List.mem_of_mem_take hx)
theorem WF.append {xs ys : List Int} (h : WF xs) (k : WF ys) : WF (xs ++ ys) := by
 intro x hx;rcases List.mem_append.1 hx with q | q
 ·exact h x q
 ·exact k x q
theorem WF.get {xs : List Int} (h : WF xs) {i : Nat} (hi : i < xs.length) : IsW xs[i] := h _ (List.getElem_mem hi)
theorem WF.set {xs : List Int} (h : WF xs) (i : Nat) {x : Int} (hx : IsW x) : WF (xs.set i x) := by
 intro y hy;rcases List.mem_or_eq_of_mem_set hy with q | rfl
 ·exact h y q
 ·exact hx
theorem val_nonneg : ∀ {xs : List Int},WF xs → 0 ≤ val xs
 | [],_ => by simp [val]
 | x :: r,h => by
  have h1 := h.head;have h2 := val_nonneg h.tail;unfold IsW wB at h1;unfold val wB;omega
theorem zIA : ∀ xs : List Int,wid xs ≤ xs.length
 | [] => by simp [wid]
 | x :: r => by
  have := zIA r;unfold wid;split
  ·split <;> simp
  ·simp;omega
theorem zmA : ∀ xs : List Int,wid xs = 0 → val xs = 0
 | [],_ => rfl
 | x :: r,h => by
  unfold wid at h
  split at h
  ·rename_i h0
   have := zmA r h0
   split at h
   ·rename_i hx;simp [val,hx,this]
   ·cases h
  ·cases h
theorem zgA : ∀ {xs : List Int},WF xs → 0 < wid xs → 0 < val xs
 | [],_,h => by simp [wid] at h
 | x :: r,hw,h => by
  have h1 := hw.head;have h2 := val_nonneg hw.tail;unfold wid at h;unfold IsW wB at h1
  split at h
  ·split at h
   ·cases h
   ·unfold val wB;omega
  ·have := zgA hw.tail (by omega)
   unfold val wB;omega
theorem zRB : ∀ {xs ys : List Int},WF xs → WF ys → wid xs < wid ys → val xs < val ys
 | [],ys,_,hy,h => by
  have := zgA hy (by simp [wid] at h;exact h)
  simpa [val] using this
 | x :: xs,[],_,_,h => by simp [wid] at h
 | x :: xs,y :: ys,hx,hy,h => by
  have hx1 := hx.head;have hy1 := hy.head;have vy := val_nonneg hy.tail
  by_cases e : wid ys = 0
  ·have : wid (y :: ys) ≤ 1 := by unfold wid;rw [if_pos e];split <;> simp
   have h0 : wid (x :: xs) = 0 := by omega
   rw [zmA _ h0];exact zgA hy (by omega)
  ·have e1 : wid (y :: ys) = wid ys + 1 := by rw [wid,if_neg e]
   have e2 : wid xs < wid ys := by
    by_cases q : wid xs = 0
    ·omega
    ·have : wid (x :: xs) = wid xs + 1 := by rw [wid,if_neg q]
     omega
   have := zRB hx.tail hy.tail e2;unfold IsW wB at hx1 hy1;unfold val wB;omega
theorem zzC {x : Int} {r : List Int} (h : zFA (x :: r)) : zFA r := by
 refine ⟨h.1.tail,?_⟩;have h2 := h.2;unfold wid at h2
 split at h2
 ·split at h2
  ·simp at h2
  ·simp only [List.length_cons] at h2;omega
 ·simp only [List.length_cons] at h2;omega
theorem zyC : ∀ {ys : List Int},zFA ys → val ys = 0 → ys = []
 | [],_,_ => rfl
 | y :: ys,hy,h => by
  exfalso
  have h2 := hy.2;have := zgA hy.1 (by rw [h2];simp);omega
theorem canon_inj : ∀ {xs ys : List Int},zFA xs → zFA ys → val xs = val ys → xs = ys
 | [],ys,_,hy,h => (zyC hy (by simpa [val] using h.symm)).symm
 | x :: xs,[],hx,_,h => zyC hx (by simpa [val] using h)
 | x :: xs,y :: ys,hx,hy,h => by
  have hx1 := hx.1.head;have hy1 := hy.1.head;unfold IsW wB at hx1 hy1;unfold val wB at h;have e1 : x = y := by omega
  have e2 : val xs = val ys := by omega
  rw [e1,canon_inj (zzC hx) (zzC hy) e2]
def lst (xs : List Int) : List Int := xs.take (wid xs)
theorem length_lst (xs : List Int) : (lst xs).length = wid xs := by unfold lst;have := zIA xs;simp;omega
theorem zmF (x : Int) (r : List Int) : lst (x :: r) = if wid r = 0 then (if x = 0 then [] else [x]) else x :: lst r := by
 have e : wid (x :: r) = if wid r = 0 then (if x = 0 then 0 else 1) else wid r + 1 := by rw [wid]
 unfold lst;rw [e]
 split
 ·split <;> simp
 ·simp
theorem val_lst : ∀ xs : List Int,val (lst xs) = val xs
 | [] => rfl
 | x :: r => by
  rw [zmF]
  split
  ·rename_i h0
   have := zmA r h0
   split
   ·rename_i hx;simp [val,hx,this]
   ·simp [val,this]
  ·simp [val,val_lst r]
theorem zOF : ∀ xs : List Int,wid (lst xs) = wid xs
 | [] => rfl
 | x :: r => by
  rw [zmF,wid]
  split
  ·split
   ·rfl
   ·rename_i hx;simp [wid,hx]
  ·rename_i h0
   rw [wid,zOF r,if_neg h0]
theorem canon_lst {xs : List Int} (h : WF xs) : zFA (lst xs) := ⟨h.take _,by rw [zOF,length_lst]⟩
theorem wid_is : ∀ {xs : List Int} {n : Nat},n ≤ xs.length → (∀ j (h : j < xs.length),n ≤ j → xs[j] = 0) → (0 < n → ∀ h' : n - 1 < xs.length,xs[n - 1] ≠ 0) → wid xs = n
 | [],n,hn,_,_ => by simp at hn;simp [wid,hn]
 | x :: r,0,_,hz,_ => by
  have h0 : wid r = 0 := wid_is (Nat.zero_le _) (fun j h _ => by have := hz (j + 1) (by simpa using h) (by omega);simpa using this) (fun h => by omega);have hx : x = 0 := hz 0 (by simp) (by omega);simp [wid,h0,hx]
 | x :: r,1,_,hz,ht => by
  have h0 : wid r = 0 := wid_is (Nat.zero_le _) (fun j h _ => by have := hz (j + 1) (by simpa using h) (by omega);simpa using this) (fun h => by omega);have hx : x ≠ 0 := by simpa using ht (by omega) (by simp)
  simp [wid,h0,hx]
 | x :: r,n + 2,hn,hz,ht => by
  have h0 : wid r = n + 1 := by
   refine wid_is (by simpa using hn) (fun j h hj => ?_) (fun _ h' => ?_)
   ·have := hz (j + 1) (by simpa using h) (by omega);simpa using this
   ·have := ht (by omega) (by simpa using h');simpa using this
  simp [wid,h0]
theorem zXA : ∀ {xs : List Int},WF xs → val xs < pw xs.length
 | [],_ => by simp [val,pw]
 | x :: r,h => by
  have h1 := h.head;have h2 := zXA h.tail;unfold IsW wB at h1;simp only [List.length_cons];unfold val pw wB;omega
theorem zhA : ∀ n,0 < pw n
 | 0 => by simp [pw]
 | n + 1 => by have := zhA n;unfold pw wB;omega
theorem zfA : ∀ (xs ys : List Int),val (xs ++ ys) = val xs + pw xs.length * val ys
 | [],ys => by simp [val,pw]
 | x :: r,ys => by
  simp only [List.cons_append,List.length_cons,val,pw,zfA r ys];rw [Int.mul_add,Int.mul_assoc];omega
theorem zIB : ∀ (xs : List Int) (i : Nat) (z : Int) (h : i < xs.length),val (xs.set i z) = val xs + (z - xs[i]) * pw i
 | [],i,z,h => by simp at h
 | x :: r,0,z,_ => by simp [val,pw];omega
 | x :: r,i + 1,z,h => by
  have := zIB r i z (by simpa using h);simp only [List.set_cons_succ,List.getElem_cons_succ,val,pw,this];have h' : i < r.length := by simpa using h
  generalize hq : z - r[i]'h' = q;rw [Int.mul_add,← Int.mul_assoc,← Int.mul_assoc,Int.mul_comm wB q];omega
theorem zOA (ys : List Int) (i : Nat) (h : i < ys.length) : val (ys.take (i + 1)) = val (ys.take i) + ys[i] * pw i := by
 rw [List.take_succ_eq_append_getElem h,zfA];simp [val,Int.mul_comm,Nat.min_eq_left (Nat.le_of_lt h)]
theorem canon_of_ge {zs : List Int} (hw : WF zs) {xs : List Int} (hx : zFA xs) (hl : zs.length = xs.length) (hv : val xs ≤ val zs) : zFA zs := by
 refine ⟨hw,?_⟩;have h1 := zIA zs
 by_cases e : wid zs = zs.length
 ·exact e
 ·exfalso
  have := zRB hw hx.1 (by rw [hx.2];omega);omega
theorem canon_snoc_one {zs : List Int} (hw : WF zs) : zFA (zs ++ [1]) := by
 refine ⟨hw.append (by intro x hx;simp at hx;subst hx;unfold IsW wB;omega),?_⟩;refine wid_is (by simp) (fun j h hj => by omega) (fun h h' => ?_)
 simp
theorem zjG : ∀ {xs ys : List Int} {j : Nat},WF xs → WF ys → (hl : xs.length = ys.length) → (h : j < xs.length) → xs.drop (j + 1) = ys.drop (j + 1) → xs[j] ≠ ys[j]'(by omega) → cmpI (val xs) (val ys) = cmpI xs[j] (ys[j]'(by omega))
 | [],_,_,_,_,_,h,_,_ => by simp at h
 | x :: xs,[],_,_,_,hl,_,_,_ => by simp at hl
 | x :: xs,y :: ys,0,hx,hy,_,_,hd,hne => by
  simp only [List.drop_succ_cons,List.drop_zero] at hd;simp only [List.getElem_cons_zero] at hne ⊢;have hx1 := hx.head;have hy1 := hy.head;unfold IsW wB at hx1 hy1;subst hd;simp only [cmpI,val];have e1 : (x + wB * val xs < y + wB * val xs) ↔ x < y := by omega
  have e2 : (y + wB * val xs < x + wB * val xs) ↔ y < x := by omega
  simp only [e1,e2]
 | x :: xs,y :: ys,j + 1,hx,hy,hl,h,hd,hne => by
  simp only [List.drop_succ_cons] at hd;simp only [List.getElem_cons_succ] at hne ⊢;have ih := zjG hx.tail hy.tail (by simpa using hl) (by simpa using h) hd hne;have hx1 := hx.head;have hy1 := hy.head;unfold IsW wB at hx1 hy1;rw [← ih];have hne' : val xs ≠ val ys := by
   intro e;rw [e,cmpI_self] at ih;exact hne (cmpI_zero ih.symm)
  rcases Int.lt_or_gt_of_ne hne' with q | q
  ·rw [zxA q,zxA (by unfold val wB;omega)]
  ·rw [zyA q,zyA (by unfold val wB;omega)]
open Go.RowKit
theorem hid {p : Prop} (h : p) : Hid p := h
def Sl (B : Nat) (w : World) (v : Value) (xs : List Int) : Prop :=
 WF xs ∧ ∃ a cap,v = .slice a xs.length cap ∧ xs.length ≤ cap ∧ xs.length ≤ 35184372088832 ∧
  (xs = [] ∨ ∃ b off,a = some ⟨b,off,none⟩ ∧ b < B ∧ ∀ j (h : j < xs.length),w.cell? ⟨b,off + j,none⟩ = some (.int .u64 xs[j]))
theorem Sl.nilAt (w : World) : Sl w.heap.size w (.slice none 0 0) [] := ⟨WF.nil,none,0,rfl,Nat.le_refl _,Nat.zero_le _,.inl rfl⟩
theorem Sl.mono {B B' : Nat} {w : World} {v : Value} {xs : List Int} (h : Sl B w v xs) (hB : B ≤ B') : Sl B' w v xs := by
 obtain ⟨h1,a,cap,h2,h3,h4,h5⟩ := h;refine ⟨h1,a,cap,h2,h3,h4,?_⟩;rcases h5 with h5 | ⟨b,off,h6,h7,h8⟩
 ·exact .inl h5
 ·exact .inr ⟨b,off,h6,by omega,h8⟩
theorem Sl.below {B B' : Nat} {w w' : World} {v : Value} {xs : List Int} (h : Sl B w v xs) (hb : Below B' w w') (hB : B ≤ B') : Sl B w' v xs := by
 obtain ⟨h1,a,cap,h2,h3,h4,h5⟩ := h;refine ⟨h1,a,cap,h2,h3,h4,?_⟩;rcases h5 with h5 | ⟨b,off,h6,h7,h8⟩
 ·exact .inl h5
 ·exact .inr ⟨b,off,h6,h7,fun j hj => (hb.cell (p := ⟨b,off + j,none⟩) (by show b < B';omega)).trans (h8 j hj)⟩
theorem zjA {x : Int} (h0 : -9223372036854775808 ≤ x) (h1 : x ≤ 9223372036854775807) : IntKind.i64.wrap x = x := by rw [IntKind.wrap_i64];omega
theorem zlD {xs : List Int} {j : Nat} (h : j < xs.length) : xs.getD j 0 = xs[j] := by simp [h]
theorem zeA {B : Nat} {w : World} {v : Value} {xs : List Int} (h : Sl B w v xs) :
  Calls Try.prog 39 #[v] w fun e w' => e = .returned (.int .i64 (wid xs)) ∧ w' = w := by
 obtain ⟨hw,a,cap,rfl,hlc,hcm,hm⟩ := h;have HW : Hid (∀ n : Nat,n ≤ xs.length → (∀ j (h : j < xs.length),n ≤ j → xs[j] = 0) → (0 < n → ∀ h' : n - 1 < xs.length,xs[n - 1] ≠ 0) → wid xs = n) := fun n h1 h2 h3 => wid_is h1 h2 h3
 generalize wid xs = W at *;go_enter Try.func39,Try.ntmps39;go_wp2
 go_loop [3] (fun i => ∃ n : Nat,n ≤ xs.length ∧ i = .int .i64 n ∧ ∀ j (h : j < xs.length),n ≤ j → xs[j] = 0) (fun i => (intOf i).toNat)
 case atStart => exact ⟨xs.length,Nat.le_refl _,rfl,fun j h h' => by omega⟩
 case round =>
  obtain ⟨n,hn,rfl,hz⟩ := hrel;have HZ : Hid (∀ j (h : j < xs.length),n ≤ j → xs[j] = 0) := hz;clear hz
  by_cases h0 : n = 0
  ·subst h0
   go_wp2;go_ret;exact ⟨by rw [HW.out 0 (by omega) HZ.out (by omega)];rfl,rfl⟩
  ·obtain ⟨k,rfl⟩ : ∃ k,n = k + 1 := ⟨n - 1,by omega⟩
   rcases hm with rfl | ⟨b,off,rfl,hb,hc⟩
   ·simp at hn
   ·have hk : k < xs.length := by omega
    have hck := hc k hk;obtain ⟨x,hx⟩ : ∃ x,x = xs[k] := ⟨_,rfl⟩
    rw [← hx] at hck;have HX : Hid (x = xs[k]) := hx;clear hx hc h0
    by_cases hx0 : x = 0
    ·have ht : (x == 0) = true := by simp [hx0]
     go_wp2;go_round
     case rel =>
      refine ⟨k,by omega,rfl,fun j h hj => ?_⟩
      by_cases e : j = k
      ·subst e;rw [← HX.out];exact hx0
      ·exact HZ.out j h (by omega)
     case measure => simp [intOf]
    ·have ht : (x == 0) = false := by simp [hx0]
     go_wp2;go_ret;refine ⟨?_,rfl⟩;rw [HW.out (k + 1) hn HZ.out (fun _ h' => by have := HX.out;simp at h' ⊢;rw [← this];exact hx0)]
     rfl
theorem order_any (x y : Int) (w : World) :
  Calls Try.prog 69 #[.int .u64 x,.int .u64 y] w fun e w' => e = .returned (.int .i64 (cmpI x y)) ∧ w' = w := by
 rcases Int.lt_trichotomy x y with q | q | q
 ·rw [zxA q]
  go_enter Try.func69,Try.ntmps69;go_wp2;go_ret;exact ⟨rfl,rfl⟩
 ·subst q
  rw [cmpI_self];go_enter Try.func69,Try.ntmps69;go_wp2;go_ret;exact ⟨rfl,rfl⟩
 ·rw [zyA q]
  have q' : ¬ x < y := by omega
  go_enter Try.func69,Try.ntmps69;go_wp2;go_ret;exact ⟨rfl,rfl⟩
def same (xs ys : List Int) : Bool := decide (xs = ys)
theorem same_self (xs : List Int) : same xs xs = true := by simp [same]
theorem same_any {B : Nat} {w : World} {v u : Value} {xs ys : List Int} (h : Sl B w v xs) (h' : Sl B w u ys) :
  Calls Try.prog 33 #[v,u] w fun e w' => e = .returned (.bool (same xs ys)) ∧ ∃ n,w' = w.drewN n := by
 obtain ⟨hw,a,cap,rfl,hlc,hcm,hm⟩ := h;obtain ⟨hw',a',cap',rfl,hlc',hcm',hm'⟩ := h'
 by_cases hl : xs.length = ys.length
 ·have HS1 : Hid ((∀ j (h : j < xs.length),xs[j] = ys[j]'(by omega)) → same xs ys = true) := fun h => by
   unfold same;exact decide_eq_true (List.ext_getElem hl (fun j h1 h2 => h j h1))
  have HS2 : Hid (∀ j (h : j < xs.length),xs[j] ≠ ys[j]'(by omega) → same xs ys = false) := fun j h hne => by
   unfold same;exact decide_eq_false (fun e => hne (by subst e;rfl))
  generalize same xs ys = S at *;have HL : Hid (xs.length = ys.length) := hl;obtain ⟨n,hn⟩ : ∃ n,n = ys.length := ⟨_,rfl⟩
  rw [← hn] at hl hlc' HL;rw [hl,← hn];rw [hl] at hlc;have hne : ((n : Int) != (n : Int)) = false := by simp
  have HN : Hid (n = ys.length) := hn;clear hn hl;go_enter Try.func33,Try.ntmps33;go_wp2
  go_loopw [5] (fun i wr => ∃ k q : Nat,k ≤ n ∧ i = .int .i64 k ∧ wr = w.drewN q ∧ ∀ j (h : j < xs.length),j < k → xs[j] = ys[j]'(by have := HL.out;have := HN.out;omega)) (fun i _ => n - (intOf i).toNat)
  case atStart => exact ⟨0,0,Nat.zero_le _,rfl,rfl,fun j h h' => by omega⟩
  case round =>
   obtain ⟨k,q,hk,rfl,rfl,he⟩ := hrel;have HE : Hid (∀ j (h : j < xs.length),j < k → xs[j] = ys[j]'(by have := HL.out;have := HN.out;omega)) := he;clear he
   by_cases hlt : k < n
   ·have hk1 : k < xs.length := by have := HL.out;omega
    have hk2 : k < ys.length := by have := HN.out;omega
    rcases hm with e | ⟨b,off,rfl,hb,hc⟩
    ·subst e;simp at hk1
    rcases hm' with e | ⟨b',off',rfl,hb',hc'⟩
    ·subst e;simp at hk2
    have c1 : ∀ q,(w.drewN q).cell? ⟨b,off + k,none⟩ = some (.int .u64 xs[k]) := fun q => by simpa using hc k hk1
    have c2 : ∀ q,(w.drewN q).cell? ⟨b',off' + k,none⟩ = some (.int .u64 ys[k]) := fun q => by simpa using hc' k hk2
    obtain ⟨x,hx⟩ : ∃ x,x = xs[k] := ⟨_,rfl⟩
    obtain ⟨y,hy⟩ : ∃ y,y = ys[k] := ⟨_,rfl⟩
    rw [← hx] at c1;rw [← hy] at c2;have HX : Hid (x = xs[k]) := hx;have HY : Hid (y = ys[k]) := hy;clear hx hy hc hc'
    by_cases hxy : x = y
    ·have ht : (x != y) = false := by simp [hxy]
     go_wp2;go_quiet (fail);go_wp2;go_roundw
     case rel =>
      refine ⟨k + 1,_,by omega,by go_num,rfl,fun j h hj => ?_⟩
      by_cases e : j = k
      ·subst e;rw [← HX.out,← HY.out];exact hxy
      ·exact HE.out j h (by omega)
     case measure => simp [intOf];omega
    ·have ht : (x != y) = true := by simp [hxy]
     go_wp2;go_quiet (fail);go_wp2;go_ret;refine ⟨?_,q + nq,by simp⟩;rw [HS2.out k hk1 (by rw [← HX.out,← HY.out];exact hxy)]
     rfl
   ·go_wp2
    go_ret;refine ⟨?_,q,rfl⟩;rw [HS1.out (fun j h => HE.out j h (by have := HL.out;omega))]
    rfl
 ·have HS : Hid (same xs ys = false) := by unfold same;exact decide_eq_false (fun e => hl (by rw [e]))
  have hne : ((xs.length : Int) != (ys.length : Int)) = true := by simp;omega
  rw [HS.out];go_enter Try.func33,Try.ntmps33;go_wp2;go_ret;exact ⟨rfl,0,rfl⟩
theorem Sl.drewN {B : Nat} {w : World} {v : Value} {xs : List Int} (h : Sl B w v xs) (n : Nat) : Sl B (w.drewN n) v xs := by
 obtain ⟨h1,a,cap,h2,h3,h4,h5⟩ := h;refine ⟨h1,a,cap,h2,h3,h4,?_⟩;rcases h5 with h5 | ⟨b,off,h6,h7,h8⟩
 ·exact .inl h5
 ·exact .inr ⟨b,off,h6,h7,fun j hj => by simpa using h8 j hj⟩
open Go.ChangeShapes Go.WideShapes Go.ChangeAt Go.RowKit
theorem Try.own : ownKnob Try.prog.godebug = none := by kernel_rfl
theorem Try.laidOut : laidOutB Try.prog = true := by kernel_rfl
theorem Try.cellsW : Try.prog.cellsOf 26 = 1 := by kernel_rfl
theorem word_of_wf {n : Int} (h : (Lit.int .u64 n).wf = true) : IsW n := by
 have h1 : IntKind.u64.min = 0 := rfl;have h2 : IntKind.u64.max = 18446744073709551615 := rfl;simp only [Lit.wf,Bool.and_eq_true,decide_eq_true_eq] at h;unfold IsW wB;omega
def zSG (v : Value) : Prop := v = .slice none 0 0 ∨ ∃ ad n c,v = .slice (some ad) n c
theorem zxF {H : Type} (d : DataW H) : 1 ≤ Rows.uptoBulk d := by
 cases d
 case lit l => cases l <;> simp [Rows.uptoBulk]
 all_goals simp [Rows.uptoBulk]
theorem bulk_in {H : Type} {d : DataW H} : ∀ {l : List (DataW H)},d ∈ l → Rows.uptoBulk d ≤ Rows.uptoBulkAll l
 | [],h => by cases h
 | x :: r,h => by
  simp only [Rows.uptoBulkAll];rcases List.mem_cons.1 h with rfl | h'
  ·omega
  ·have := bulk_in h';omega
theorem zgE {H : Type} : ∀ l : List (DataW H),l.length ≤ Rows.uptoBulkAll l
 | [] => Nat.zero_le _
 | x :: r => by
  have h1 := zxF x;have h2 := zgE r;simp only [Rows.uptoBulkAll,List.length_cons];omega
theorem open_words3 {H : Type} {enc : TypeId × Value → H} {W : World} {fuel : Nat} {v : Value} {x : DataW H × List MemPlace}
  (hf : DataW.trod enc Try.prog W 0 (fun _ => true) true fuel 25 [v] = some x) (hb : Rows.uptoBulk x.1 ≤ 1048576) :
  ∃ xs,Sl W.heap.size W v xs ∧ xs.length + 1 ≤ Rows.uptoBulk x.1 ∧ zSG v := by
 rcases open_ints Try.underlying25 Try.underlying26 Try.cellsW hf with ⟨hcs,_⟩ | ⟨x',len,cap,zs,hcs,_,hl,hm,hz,hx,hcell,hwz⟩
 ·simp only [List.cons.injEq,and_true] at hcs
  subst hcs;exact ⟨[],Sl.nilAt W,zxF _,.inl rfl⟩
 ·simp only [List.cons.injEq,and_true] at hcs
  subst hcs;simp only [if_true] at hz;rw [hx] at hb ⊢;simp only [Rows.uptoBulk] at hb ⊢;have e1 := zgE (lits (H := H) .u64 (zs.take len));have e2 := zgE (lits (H := H) .u64 (zs.drop len));simp only [lits,List.length_map,List.length_take,List.length_drop] at e1 e2;have hlen : (zs.take len).length = len := by simp;omega
  have hzl : zs.length ≤ 1048576 := by simp only [lits] at hb;omega
  refine ⟨zs.take len,⟨fun y hy => word_of_wf (hwz y (List.mem_of_mem_take hy)),some x',cap,by rw [hlen],by rw [hlen];exact hl,by omega,?_⟩,by rw [hlen];simp only [lits];omega,.inr ⟨x',len,cap,rfl⟩⟩
  by_cases he : len = 0
  ·exact .inl (by simp [he])
  ·obtain ⟨b,off,spot⟩ := x'
   have hc := hcell 0 (by omega);have hspot : spot = none := by simpa [Addr.add] using World.cell?_spot hc
   subst hspot;refine .inr ⟨b,off,rfl,?_,fun j hj => ?_⟩
   ·have := World.block_lt_of_cell? W _ hc
    simpa [Addr.add] using this
   ·rw [hlen] at hj
    have hcj := hcell j (by omega);have e : (⟨b,off,none⟩ : Addr).add j = ⟨b,off + j,none⟩ := by unfold Addr.add;split <;> simp_all
    rw [e] at hcj;rw [hcj];simp [show j < zs.length by omega]
theorem open_words2 {H : Type} {enc : TypeId × Value → H} {W : World} {fuel : Nat} {v : Value} {x : DataW H × List MemPlace}
  (hf : DataW.trod enc Try.prog W 0 (fun _ => true) true fuel 25 [v] = some x) (hb : Rows.uptoBulk x.1 ≤ 1048576) :
  ∃ xs,Sl W.heap.size W v xs ∧ xs.length ≤ 1048576 ∧ zSG v := by
 obtain ⟨xs,h1,h2,h3⟩ := open_words3 hf hb;exact ⟨xs,h1,by omega,h3⟩
theorem open_small {H : Type} {enc : TypeId × Value → H} {W : World} {a : Option Addr} {len cap : Nat} {d : DataW H} {p : List MemPlace}
  (h0 : DataW.Trod enc Try.prog W 0 (fun _ => true) true 25 (.slice a len cap) d p) (hb : Rows.uptoBulk d ≤ 1048576) :
  ∃ xs,Sl W.heap.size W (.slice a len cap) xs ∧ xs.length ≤ 1048576 ∧ zSG (.slice a len cap) := by
 obtain ⟨fuel,hf⟩ := h0;exact open_words2 (x := (d,p)) hf hb
theorem int_bounds {n : Int} (h : (Lit.int .i64 n).wf = true) : -9223372036854775808 ≤ n ∧ n ≤ 9223372036854775807 := by
 have h1 : IntKind.i64.min = -9223372036854775808 := rfl;have h2 : IntKind.i64.max = 9223372036854775807 := rfl;simp only [Lit.wf,Bool.and_eq_true,decide_eq_true_eq] at h;omega
end Go.Proofs.Ytppddlbkdoebmaa
