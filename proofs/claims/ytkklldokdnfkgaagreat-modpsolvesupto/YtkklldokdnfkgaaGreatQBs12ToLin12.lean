/-
 QBs12ToLin12: Bs12, Lin12, joined.
-/
import Derived.Test.YtkklldokdnfkgaaGreatQRd12
import Derived.Shelf.Slices.SearchI
import Derived.Shelf.Slices.Empties
import Derived.Test.YtkklldokdnfkgaaGreatQEach9ToPr12

set_option maxRecDepth 100000
set_option maxHeartbeats 6400000
set_option linter.unusedVariables false
set_option linter.unusedSimpArgs false
namespace Go.Proofs.YtkklldokdnfkgaaGreat
open Go.RowKit
def renB : Go.Shelf.Ren := ⟨fun | 25 => 41 | 31 => 61 | 32 => 62 | 37 => 79 | n => n,fun | 0 => 0 | 3 => 3 | 4 => 4 | 22 => 32 | 40 => 97 | n => n,fun n => n⟩
theorem ziI : Go.Proofs.Lays2.n25 Tryz.prog renB := {
 mixed := by kernel_rfl
 f25 := Tryz.func41.trans (congrArg some (by kernel_rfl))
 f31 := Tryz.func61.trans (congrArg some (by kernel_rfl))
 f32 := Tryz.func62.trans (congrArg some (by kernel_rfl))
 f37 := Tryz.func79.trans (congrArg some (by kernel_rfl))
 t0 := by kernel_rfl
 a0 := fun w => by kernel_rfl
 z0 := fun w => by kernel_rfl
 v0 := fun w => by kernel_rfl
 t3 := Tryz.underlying3
 a3 := Tryz.isAgg3
 z3 := Tryz.sizeOf3
 v3 := Tryz.zeroValue3
 t4 := Tryz.underlying4
 a4 := Tryz.isAgg4
 z4 := Tryz.sizeOf4
 v4 := Tryz.zeroValue4
 t22 := Tryz.underlying32
 a22 := Tryz.isAgg32
 z22 := Tryz.sizeOf32
 v22 := Tryz.zeroValue32
 t40 := Tryz.underlying97
 a40 := Tryz.isAgg97
 z40 := Tryz.sizeOf97
 v40 := Tryz.zeroValue97 }
def cntB (pv : List Nat) (x : Nat) : Nat := pv.countP (· < x)
theorem zNC (pv : List Nat) (x : Nat) : cntB pv x ≤ pv.length := List.countP_le_length
theorem zaG {w : World} {B : Nat} {v : Value} {pv : List Nat} {x : Nat} (hv : Pvs B w v pv) (hp : pv.Pairwise (· < ·)) (hl : pv.length ≤ 1000000) :
  Calls Tryz.prog 41 #[v,.int .i64 (x : Int)] w fun e w' => ∃ f,e = .returned (.tuple #[.int .i64 (cntB pv x : Int),.bool f]) ∧ Below w.heap.size w w' := by
 have e1 : ((pv.map fun (a : Nat) => (a : Int)).countP (· < (x : Int)) : Nat) = cntB pv x := by
  unfold cntB;rw [List.countP_map];exact List.countP_congr fun a _ => by simp
 have hs : (pv.map fun (a : Nat) => (a : Int)).Pairwise (· ≤ ·) := by
  rw [List.pairwise_map];exact hp.imp fun h => by omega
 have hv' := hv;obtain ⟨q1,⟨q2,q3⟩ | ⟨g,cap,cur,q2,q3,q4,q5,q6⟩⟩ := hv
 ·rw [q2]
  have hnil : pv = [] := List.eq_nil_of_length_eq_zero q3;refine (Any.slices_BinarySearch_int_empty ziI none 0 (x : Int) w).mono ?_;rintro e w' ⟨rfl,rfl⟩;exact ⟨false,by rw [hnil];rfl,Below.refl _ _⟩
 ·rw [q2]
  refine (Any.slices_BinarySearch_int ziI g 0 pv.length cap (pv.map fun (a : Nat) => (a : Int)) (x : Int) w (by simp) (by omega) (fun j hj => ?_) (by rw [List.take_of_length_le (by simp)];exact hs)).mono ?_
  ·have hj' : j < pv.length := by simpa using hj
   rw [q2] at hv';have := World.ownsRow.cellAt hv' j (by omega);rw [Nat.zero_add,this];simp [hj']
  ·rintro e w' ⟨rfl,q,rfl⟩
   refine ⟨_,by rw [List.take_of_length_le (by simp),e1],?_⟩;exact ⟨rfl,rfl,rfl,Nat.le_refl _,fun _ _ => rfl⟩
end Go.Proofs.YtkklldokdnfkgaaGreat
namespace Go.Proofs.YtkklldokdnfkgaaGreat
variable {p : Nat} [NeZero p]
def sm : Nat → (Nat → Fin p) → Fin p
 | 0,_ => 0
 | n + 1,f => sm n f + f n
theorem zUA : ∀ {n : Nat} {f g : Nat → Fin p},(∀ k,k < n → f k = g k) → sm n f = sm n g
 | 0,_,_,_ => rfl
 | n + 1,f,g,h => by
  simp only [sm];rw [zUA (n := n) (fun k hk => h k (by omega)),h n (by omega)]
theorem zhB : ∀ {n : Nat} {f : Nat → Fin p},(∀ k,k < n → f k = 0) → sm n f = 0
 | 0,_,_ => rfl
 | n + 1,f,h => by
  simp only [sm];rw [zhB (n := n) (fun k hk => h k (by omega)),h n (by omega)]
  grind
theorem zYG : ∀ (n : Nat) (f g : Nat → Fin p),sm n (fun k => f k + g k) = sm n f + sm n g
 | 0,_,_ => by simp only [sm];grind
 | n + 1,f,g => by
  simp only [sm];rw [zYG n f g]
  grind
theorem zxD : ∀ (n : Nat) (c : Fin p) (f : Nat → Fin p),sm n (fun k => c * f k) = c * sm n f
 | 0,_,_ => by simp only [sm];grind
 | n + 1,c,f => by
  simp only [sm];rw [zxD n c f]
  grind
theorem zQH (n : Nat) (c : Fin p) (f : Nat → Fin p) : sm n (fun k => f k * c) = sm n f * c := by
 rw [zUA (g := fun k => c * f k) (fun k _ => by grind),zxD]
 grind
theorem zOH : ∀ (n m : Nat) (f : Nat → Nat → Fin p),sm n (fun i => sm m (fun j => f i j)) = sm m (fun j => sm n (fun i => f i j))
 | 0,m,f => by
  simp only [sm];rw [zhB (fun _ _ => rfl)]
 | n + 1,m,f => by
  simp only [sm];rw [zOH n m f,zYG]
theorem zUD : ∀ {n i : Nat} {f : Nat → Fin p},i < n → (∀ k,k < n → k ≠ i → f k = 0) → sm n f = f i
 | 0,i,f,h,_ => by omega
 | n + 1,i,f,h,hz => by
  simp only [sm]
  by_cases e : i = n
  ·subst e
   rw [zhB (fun k hk => hz k (by omega) (by omega))]
   grind
  ·rw [zUD (i := i) (by omega) (fun k hk hne => hz k (by omega) hne),hz n (by omega) (fun q => e q.symm)]
   grind
theorem zYE {r : Nat} {f : Nat → Fin p} : ∀ {m : Nat},r ≤ m → (∀ k,r ≤ k → k < m → f k = 0) → sm m f = sm r f
 | 0,h,_ => by
  obtain rfl : r = 0 := by omega
  rfl
 | m + 1,h,hz => by
  by_cases e : r = m + 1
  ·subst e;rfl
  ·simp only [sm]
   rw [zYE (m := m) (by omega) (fun k h1 h2 => hz k h1 (by omega)),hz m (by omega) (by omega)]
   grind
def dlt (i j : Nat) : Fin p := if i = j then 1 else 0
def vm (m : Nat) (x : Nat → Fin p) (M : Nat → Nat → Fin p) (j : Nat) : Fin p := sm m (fun i => x i * M i j)
theorem ztC (m k : Nat) (x : Nat → Fin p) (A B : Nat → Nat → Fin p) (j : Nat) : vm k (vm m x A) B j = vm m x (fun i => vm k (A i) B) j := by
 unfold vm;rw [zUA (g := fun i => sm m (fun l => x l * A l i * B i j)) (fun i _ => (zQH _ _ _).symm),zOH];refine zUA fun i _ => ?_
 rw [← zxD];exact zUA fun l _ => by grind
theorem zKB {m : Nat} {x y : Nat → Fin p} {A B : Nat → Nat → Fin p} {j : Nat} (hx : ∀ i,i < m → x i = y i) (hA : ∀ i,i < m → A i j = B i j) : vm m x A j = vm m y B j :=
 zUA fun i hi => by rw [hx i hi,hA i hi]
theorem zNF {m i : Nat} (hi : i < m) (A : Nat → Nat → Fin p) (j : Nat) : vm m (dlt i) A j = A i j := by
 unfold vm;rw [zUD hi (fun k _ hne => by unfold dlt;rw [if_neg (fun q => hne q.symm)];grind)];unfold dlt;rw [if_pos rfl]
 grind
def Comb (n m l : Nat) (M A : Nat → Nat → Fin p) : Prop := ∃ U : Nat → Nat → Fin p,∀ i j,i < m → j < n → M i j = vm l (U i) A j
theorem Comb.refl (n m : Nat) (M : Nat → Nat → Fin p) : Comb n m m M M := ⟨dlt,fun i j hi _ => (zNF hi M j).symm⟩
theorem Comb.trans {n m l k : Nat} {M A B : Nat → Nat → Fin p} (h1 : Comb n m l M A) (h2 : Comb n l k A B) : Comb n m k M B := by
 obtain ⟨U,hU⟩ := h1;obtain ⟨V,hV⟩ := h2;refine ⟨fun i => vm l (U i) V,fun i j hi hj => ?_⟩;rw [hU i j hi hj,ztC];exact zKB (fun _ _ => rfl) (fun k hk => hV k j hk hj)
theorem Comb.two {n m : Nat} {M A : Nat → Nat → Fin p} {f g : Nat → Nat} {a b : Nat → Fin p} (hf : ∀ i,i < m → f i < m) (hg : ∀ i,i < m → g i < m) (h : ∀ i j,i < m → j < n → M i j = a i * A (f i) j + b i * A (g i) j) : Comb n m m M A := by
 refine ⟨fun i k => a i * dlt (f i) k + b i * dlt (g i) k,fun i j hi hj => ?_⟩;rw [h i j hi hj];unfold vm;rw [zUA (g := fun k => a i * (dlt (f i) k * A k j) + b i * (dlt (g i) k * A k j)) (fun k _ => by grind),zYG,zxD,zxD];have e1 := zNF (hf i hi) A j;have e2 := zNF (hg i hi) A j;unfold vm at e1 e2;rw [e1,e2]
def Eqv (n m : Nat) (M A : Nat → Nat → Fin p) : Prop := Comb n m m M A ∧ Comb n m m A M
theorem Eqv.refl (n m : Nat) (M : Nat → Nat → Fin p) : Eqv n m M M := ⟨Comb.refl _ _ _,Comb.refl _ _ _⟩
theorem Eqv.trans {n m : Nat} {M A B : Nat → Nat → Fin p} (h1 : Eqv n m M A) (h2 : Eqv n m A B) : Eqv n m M B := ⟨h1.1.trans h2.1,h2.2.trans h1.2⟩
theorem Eqv.symm {n m : Nat} {M A : Nat → Nat → Fin p} (h : Eqv n m M A) : Eqv n m A M := ⟨h.2,h.1⟩
structure Rref (m c : Nat) (M : Nat → Nat → Fin p) (pv : List Nat) : Prop where
 len : pv.length ≤ m
 inc : ∀ (s t a b : Nat),s < t → pv[s]? = some a → pv[t]? = some b → a < b
 lt : ∀ (t a : Nat),pv[t]? = some a → a < c
 one : ∀ (t a i : Nat),pv[t]? = some a → i < m → M i a = dlt i t
 low : ∀ (t a j : Nat),pv[t]? = some a → j < a → M t j = 0
 zer : ∀ (i j : Nat),pv.length ≤ i → i < m → j < c → M i j = 0
theorem Rref.start (m : Nat) (M : Nat → Nat → Fin p) : Rref m 0 M [] :=
 ⟨by simp,fun s t a b _ h => by simp at h,fun t a h => by simp at h,fun t a i h => by simp at h,fun t a j h => by simp at h,fun i j _ _ h => by omega⟩
theorem Rref.congr {m c n : Nat} {M N : Nat → Nat → Fin p} {pv : List Nat} (h : Rref m c M pv) (hc : c ≤ n) (e : ∀ i j,i < m → j < n → N i j = M i j) : Rref m c N pv := by
 refine ⟨h.len,h.inc,h.lt,fun t a i ht hi => ?_,fun t a j ht hj => ?_,fun i j h1 h2 h3 => ?_⟩
 ·rw [e i a hi (by have := h.lt t a ht;omega)];exact h.one t a i ht hi
 ·have h1 : t < pv.length := (List.getElem?_eq_some_iff.1 ht).1
  have h2 := h.len;rw [e t j (by omega) (by have := h.lt t a ht;omega)];exact h.low t a j ht hj
 ·rw [e i j h2 (by omega)];exact h.zer i j h1 h2 h3
theorem Rref.skip {m c : Nat} {M : Nat → Nat → Fin p} {pv : List Nat} (h : Rref m c M pv) (hz : ∀ i,pv.length ≤ i → i < m → M i c = 0) : Rref m (c + 1) M pv := by
 refine ⟨h.len,h.inc,fun t a q => Nat.lt_succ_of_lt (h.lt t a q),h.one,h.low,fun i j h1 h2 h3 => ?_⟩
 by_cases e : j = c
 ·subst e;exact hz i h1 h2
 ·exact h.zer i j h1 h2 (by omega)
theorem Rref.swap {m c : Nat} {M N : Nat → Nat → Fin p} {pv : List Nat} (h : Rref m c M pv) {a b : Nat} (ha : pv.length ≤ a) (hb : pv.length ≤ b) (ham : a < m) (hbm : b < m)
  (hN : ∀ i j,i < m → N i j = M (if i = a then b else if i = b then a else i) j) : Rref m c N pv := by
 have key : ∀ i, i < m → (if i = a then b else if i = b then a else i) < m := fun i hi => by split; · exact hbm
                                                                                             · split <;> omega
 have keep : ∀ i,i < pv.length → (if i = a then b else if i = b then a else i) = i := fun i hi => by rw [if_neg (by omega),if_neg (by omega)]
 have hl := h.len;refine ⟨h.len,h.inc,h.lt,fun t q i ht hi => ?_,fun t q j ht hj => ?_,fun i j h1 h2 h3 => ?_⟩
 ·have h1 : t < pv.length := (List.getElem?_eq_some_iff.1 ht).1
  rw [hN i q hi,h.one t q _ ht (key i hi)];unfold dlt
  by_cases e : i < pv.length
  ·rw [keep i e]
  ·have : (if i = a then b else if i = b then a else i) ≠ t := by split; · omega
                                                                  · split <;> omega
   rw [if_neg this,if_neg (by omega)]
 ·have h1 : t < pv.length := (List.getElem?_eq_some_iff.1 ht).1
  rw [hN t j (by omega),keep t h1];exact h.low t q j ht hj
 ·rw [hN i j h2]
  refine h.zer _ j ?_ (key i h2) h3
  split
  ·omega
  ·split <;> omega
theorem Rref.clear {m c : Nat} {M N : Nat → Nat → Fin p} {pv : List Nat} (h : Rref m c M pv) (htop : pv.length < m) {y : Fin p} (hy : M pv.length c * y = 1)
  (hN : ∀ i j,i < m → N i j = if i = pv.length then M i j * y else M i j - M i c * (M pv.length j * y)) : Rref m (c + 1) N (pv ++ [c]) := by
 have hz : ∀ j,j < c → M pv.length j = 0 := fun j hj => h.zer _ j (Nat.le_refl _) htop hj
 have same : ∀ i j,i < m → j < c → N i j = M i j := fun i j hi hj => by
  rw [hN i j hi]
  split
  ·rename_i e;subst e;rw [hz j hj];grind
  ·rw [hz j hj];grind
 have split_at : ∀ t a,(pv ++ [c])[t]? = some a → (pv[t]? = some a ∧ t < pv.length) ∨ (t = pv.length ∧ a = c) := fun t a ht => by
  by_cases q : t < pv.length
  ·rw [List.getElem?_append_left q] at ht;exact .inl ⟨ht,q⟩
  ·rw [List.getElem?_append_right (by omega)] at ht
   right
   by_cases q2 : t - pv.length = 0
   ·rw [q2] at ht;simp at ht;exact ⟨by omega,ht.symm⟩
   ·rw [show t - pv.length = (t - pv.length - 1) + 1 by omega] at ht;simp at ht
 refine ⟨by simp;omega,fun s t a b hst hs ht => ?_,fun t a ht => ?_,fun t a i ht hi => ?_,fun t a j ht hj => ?_,fun i j h1 h2 h3 => ?_⟩
 ·rcases split_at s a hs with ⟨h1,q1⟩ | ⟨rfl,rfl⟩
  ·rcases split_at t b ht with ⟨h2,q2⟩ | ⟨rfl,rfl⟩
   ·exact h.inc s t a b hst h1 h2
   ·exact h.lt s a h1
  ·rcases split_at t b ht with ⟨h2,q2⟩ | ⟨rfl,rfl⟩ <;> omega
 ·rcases split_at t a ht with ⟨h1,q1⟩ | ⟨rfl,rfl⟩
  ·exact Nat.lt_succ_of_lt (h.lt t a h1)
  ·omega
 ·rcases split_at t a ht with ⟨h1,q1⟩ | ⟨rfl,rfl⟩
  ·rw [same i a hi (h.lt t a h1)];exact h.one t a i h1 hi
  ·rw [hN i a hi]
   unfold dlt
   by_cases e : i = pv.length
   ·subst e;rw [if_pos rfl,if_pos rfl];exact hy
   ·rw [if_neg e,if_neg e,hy];grind
 ·rcases split_at t a ht with ⟨h1,q1⟩ | ⟨rfl,rfl⟩
  ·rw [same t j (by have := h.len;omega) (by have := h.lt t a h1;omega)];exact h.low t a j h1 hj
  ·rw [same _ j htop hj];exact hz j hj
 ·simp only [List.length_append,List.length_cons,List.length_nil] at h1
  by_cases e : j = c
  ·subst e
   rw [hN i j h2,if_neg (by omega),hy];grind
  ·rw [same i j h2 (by omega)];exact h.zer i j (by omega) h2 (by omega)
theorem Rref.coords {m n : Nat} {M : Nat → Nat → Fin p} {pv : List Nat} (h : Rref m n M pv) {v x : Nat → Fin p} (hv : ∀ j,j < n → v j = vm m x M j) {j : Nat} (hj : j < n) :
  v j = vm pv.length (fun t => v (pv.getD t 0)) M j := by
 rw [hv j hj];unfold vm;rw [zYE h.len (fun k h1 h2 => by rw [h.zer k j h1 h2 hj];grind)];refine zUA fun t ht => ?_
 have e : pv[t]? = some (pv.getD t 0) := by simp [ht]
 have hl := h.len
 congr 1
 show x t = v (pv.getD t 0)
 rw [hv _ (h.lt t _ e)];unfold vm;rw [zUD (i := t) (by omega) (fun k hk hne => by rw [h.one t _ k e hk];unfold dlt;rw [if_neg hne];grind),h.one t _ t e (by omega)];unfold dlt;rw [if_pos rfl]
 grind
end Go.Proofs.YtkklldokdnfkgaaGreat
