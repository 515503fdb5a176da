/-
 QDim17ToCf8: Dim17, Sl17, Rk17, Ez17, Er17, Sh17, Rq8, Cf8, joined.
-/
import Derived.Test.YtffkmeocmjohmaaGreatQRl17ToLin17
import Derived.Test.YtffkmeocmjohmaaGreatQCx17
import Derived.Test.YtffkmeocmjohmaaGreatQWordsToCarry
import Derived.Test.YtffkmeocmjohmaaGreatQTailToMWord

set_option maxRecDepth 100000
set_option maxHeartbeats 6400000
set_option linter.unusedVariables false
set_option linter.unusedSimpArgs false
namespace Go.Proofs.YtffkmeocmjohmaaGreat.Q17
def Fld : Prop := (∀ x : Rat,x ≠ 0 → ∃ y,x * y = 1) ∧ (1 : Rat) ≠ 0
theorem fld17 : Fld := ⟨fun x hx => ⟨x⁻¹,Rat.mul_inv_cancel x hx⟩,by decide⟩
def sk (i k : Nat) : Nat := if k < i then k else k + 1
theorem zzG {f : Nat → Rat} : ∀ {s i : Nat},i ≤ s → sm (s + 1) f = sm s (fun k => f (sk i k)) + f i
 | 0,i,h => by
  obtain rfl : i = 0 := by omega
  simp only [sm]
 | s + 1,i,h => by
  by_cases e : i = s + 1
  ·subst e
   show sm (s + 1) f + f (s + 1) = _
   rw [sm_congr (g := f) (f := fun k => f (sk (s + 1) k)) (fun k hk => by unfold sk;rw [if_pos hk])]
  ·have ih := zzG (f := f) (s := s) (i := i) (by omega)
   show sm (s + 1) f + f (s + 1) = (sm s (fun k => f (sk i k)) + f (sk i s)) + f i
   rw [ih];have : sk i s = s + 1 := by unfold sk;rw [if_neg (by omega)]
   rw [this]
   grind
theorem idle (F : Fld) : ∀ {r s : Nat} (Z : Nat → Nat → Rat),r < s → ∃ x : Nat → Rat,(∃ i,i < s ∧ x i ≠ 0) ∧ ∀ j,j < r → vm s x Z j = 0
 | 0,s,Z,h => ⟨dlt 0,⟨0,h,by unfold dlt;rw [if_pos rfl];exact F.2⟩,fun j hj => by omega⟩
 | r + 1,s,Z,h => by
  by_cases hz : ∀ i,i < s → Z i r = 0
  ·obtain ⟨x,hx,h0⟩ := idle F (r := r) (s := s) Z (by omega)
   refine ⟨x,hx,fun j hj => ?_⟩
   by_cases e : j = r
   ·subst e
    exact zkC fun k hk => by rw [hz k hk];grind
   ·exact h0 j (by omega)
  ·obtain ⟨i0,hi0,hne⟩ : ∃ i,i < s ∧ Z i r ≠ 0 := by
    apply Classical.byContradiction
    intro q;exact hz fun i hi => Classical.byContradiction fun k => q ⟨i,hi,k⟩
   obtain ⟨y,hy⟩ := F.1 _ hne;obtain ⟨s',rfl⟩ : ∃ s',s = s' + 1 := ⟨s - 1,by omega⟩
   obtain ⟨x,⟨i1,hi1,hx1⟩,h0⟩ := idle F (r := r) (s := s') (fun i j => Z (sk i0 i) j - Z (sk i0 i) r * y * Z i0 j) (by omega);refine ⟨fun i => if i = i0 then -(sm s' (fun k => x k * Z (sk i0 k) r * y)) else x (if i < i0 then i else i - 1),⟨sk i0 i1,?_,?_⟩,fun j hj => ?_⟩
   ·unfold sk;split <;> omega
   ·have n1 : sk i0 i1 ≠ i0 := by unfold sk;split <;> omega
    have n2 : (if sk i0 i1 < i0 then sk i0 i1 else sk i0 i1 - 1) = i1 := by unfold sk;split <;> (first | omega | (split <;> omega))
    simp only [n1,if_false,n2];exact hx1
   ·unfold vm
    rw [zzG (i := i0) (by omega)];have e1 : sm s' (fun k => (if sk i0 k = i0 then -(sm s' (fun k => x k * Z (sk i0 k) r * y)) else x (if sk i0 k < i0 then sk i0 k else sk i0 k - 1)) * Z (sk i0 k) j) = sm s' (fun k => x k * Z (sk i0 k) j) := sm_congr fun k hk => by
     have n1 : sk i0 k ≠ i0 := by unfold sk;split <;> omega
     have n2 : (if sk i0 k < i0 then sk i0 k else sk i0 k - 1) = k := by unfold sk;split <;> (first | omega | (split <;> omega))
     simp only [n1,if_false,n2]
    rw [e1];simp only [if_true]
    by_cases e : j = r
    ·subst e
     have e2 : sm s' (fun k => x k * Z (sk i0 k) j * y) = sm s' (fun k => x k * Z (sk i0 k) j) * y := zAH _ _ _;rw [e2];generalize sm s' (fun k => x k * Z (sk i0 k) j) = S;have : Z i0 j * y = 1 := hy
     grind
    ·have h1 := h0 j (by omega)
     unfold vm at h1;rw [sm_congr (g := fun k => x k * Z (sk i0 k) j + (-(Z i0 j)) * (x k * Z (sk i0 k) r * y)) (fun k _ => by grind),zEG,sm_mul] at h1
     grind
theorem dim_le (F : Fld) {r s : Nat} {Z Y : Nat → Nat → Rat} (h : ∀ i j,i < s → j < s → dlt i j = vm r (Z i) Y j) : s ≤ r := by
 apply Classical.byContradiction
 intro q;obtain ⟨x,⟨i,hi,hne⟩,h0⟩ := idle F (r := r) (s := s) Z (by omega)
 apply hne
 have e1 : vm s x (fun a b => dlt a b) i = x i := by
  unfold vm;rw [znE hi (fun k hk hk2 => by show x k * dlt k i = 0;unfold dlt;rw [if_neg hk2];grind)]
  show x i * dlt i i = x i
  unfold dlt;rw [if_pos rfl]
  grind
 rw [← e1,zzF (y := x) (B := fun a => vm r (Z a) Y) (fun _ _ => rfl) (fun a ha => h a i ha hi),← zAG];exact zkC fun k hk => by rw [h0 k hk];grind
theorem Rref.rank_le (F : Fld) {m n r : Nat} {M Y : Nat → Nat → Rat} {pv : List Nat} (h : Rref m n M pv) (hc : Comb n m r M Y) : pv.length ≤ r := by
 obtain ⟨Z,hZ⟩ := hc;refine dim_le F (Z := Z) (Y := fun k t => Y k (pv.getD t 0)) fun i t hi ht => ?_
 have e : pv[t]? = some (pv.getD t 0) := by simp [ht]
 have hl := h.len;have h1 := h.one t _ i e (by omega);have h2 := hZ i (pv.getD t 0) (by omega) (h.lt t _ e);rw [← h1,h2]
 rfl
theorem zkE : ∀ {l m : List Nat},l.Pairwise (· < ·) → m.Pairwise (· < ·) → (∀ x,x ∈ l ↔ x ∈ m) → l = m
 | [],[],_,_,_ => rfl
 | [],b :: m,_,_,h => by have := (h b).2 (by simp);simp at this
 | a :: l,[],_,_,h => by have := (h a).1 (by simp);simp at this
 | a :: l,b :: m,hl,hm,h => by
  rw [List.pairwise_cons] at hl hm;have e : a = b := by
   rcases List.mem_cons.1 ((h a).1 (by simp)) with q | q
   ·exact q
   ·rcases List.mem_cons.1 ((h b).2 (by simp)) with q2 | q2
    ·exact q2.symm
    ·have := hm.1 a q;have := hl.1 b q2;omega
  subst e
  congr 1
  refine zkE hl.2 hm.2 fun x => ⟨fun hx => ?_,fun hx => ?_⟩
  ·rcases List.mem_cons.1 ((h x).1 (by simp [hx])) with q | q
   ·subst q;have := hl.1 x hx;omega
   ·exact q
  ·rcases List.mem_cons.1 ((h x).2 (by simp [hx])) with q | q
   ·subst q;have := hm.1 x hx;omega
   ·exact q
theorem Rref.sorted {m n : Nat} {M : Nat → Nat → Rat} {pv : List Nat} (h : Rref m n M pv) : pv.Pairwise (· < ·) := by
 rw [List.pairwise_iff_getElem];intro i j hi hj hij;exact h.inc i j _ _ hij (List.getElem?_eq_getElem hi) (List.getElem?_eq_getElem hj)
theorem Rref.sub (F : Fld) {m n : Nat} {M N : Nat → Nat → Rat} {pv qv : List Nat} (h : Rref m n M pv) (h' : Rref m n N qv) (hc : Comb n m m M N) {a : Nat} (ha : a ∈ pv) : a ∈ qv := by
 obtain ⟨t,ht,e⟩ := List.mem_iff_getElem.1 ha;have et : pv[t]? = some a := by rw [← e];exact List.getElem?_eq_getElem ht
 obtain ⟨U,hU⟩ := hc;have hl := h.len
 apply Classical.byContradiction
 intro hn;have h1 := h'.coords (v := M t) (x := U t) (fun j hj => hU t j (by omega) hj) (h.lt t a et);rw [h.one t a t et (by omega)] at h1;have h2 : vm qv.length (fun s => M t (qv.getD s 0)) N a = 0 := zkC fun s hs => by
  have es : qv[s]? = some (qv.getD s 0) := by simp [hs]
  show M t (qv.getD s 0) * N s a = 0
  rcases Nat.lt_trichotomy (qv.getD s 0) a with q | q | q
  ·rw [h.low t a _ et q];grind
  ·exfalso;apply hn;rw [← q];exact List.mem_of_getElem? es
  ·rw [h'.low s _ a es q];grind
 rw [h2] at h1;unfold dlt at h1;rw [if_pos rfl] at h1;exact F.2 h1
theorem Rref.unique (F : Fld) {m n : Nat} {M N : Nat → Nat → Rat} {pv qv : List Nat} (h : Rref m n M pv) (h' : Rref m n N qv) (he : Eqv n m M N) : pv = qv ∧ ∀ i j,i < m → j < n → M i j = N i j := by
 have e : pv = qv := zkE h.sorted h'.sorted fun a => ⟨h.sub F h' he.1,h'.sub F h he.2⟩
 subst e;refine ⟨rfl,fun i j hi hj => ?_⟩
 by_cases q : i < pv.length
 ·obtain ⟨U,hU⟩ := he.1
  rw [h'.coords (v := M i) (x := U i) (fun j hj => hU i j hi hj) hj];unfold vm;rw [znE q (fun k hk hne => ?_)]
  ·show M i (pv.getD i 0) * N i j = N i j
   rw [h.one i _ i (show pv[i]? = some (pv.getD i 0) by simp [q]) hi];unfold dlt;rw [if_pos rfl]
   grind
  ·show M i (pv.getD k 0) * N k j = 0
   rw [h.one k _ i (show pv[k]? = some (pv.getD k 0) by simp [hk]) hi];unfold dlt;rw [if_neg (fun q => hne q.symm)]
   grind
 ·rw [h.zer i j (by omega) hi hj,h'.zer i j (by omega) hi hj]
end Go.Proofs.YtffkmeocmjohmaaGreat.Q17

namespace Go.Proofs.YtffkmeocmjohmaaGreat.Q17
theorem Rref.spans {m n : Nat} {M A : Nat → Nat → Rat} {pv : List Nat} (h : Rref m n M pv) (hc : Comb n m m A M) {i j : Nat} (hi : i < m) (hj : j < n) : A i j = sm pv.length fun k => A i (pv.getD k 0) * M k j := by
 obtain ⟨U,hU⟩ := hc;exact h.coords (v := A i) (x := U i) (fun j hj => hU i j hi hj) hj
theorem eqv_scale {m n : Nat} {A B : Nat → Nat → Rat} {d : Nat → Rat} (hd : ∀ i,i < m → d i ≠ 0) (h : ∀ i j,i < m → j < n → B i j = d i * A i j) : Eqv n m B A := by
 have e1 : ∀ (c : Nat → Rat) (M : Nat → Nat → Rat) (i j : Nat),i < m → vm m (fun k => c i * dlt i k) M j = c i * M i j := fun c M i j hi => by
  have : vm m (fun k => c i * dlt i k) M j = c i * vm m (dlt i) M j := by
   unfold vm;rw [← sm_mul];exact sm_congr fun t _ => by rw [Rat.mul_assoc]
  rw [this,vm_dlt hi]
 refine ⟨⟨fun i k => d i * dlt i k,fun i j hi hj => by rw [e1 d A i j hi,h i j hi hj]⟩,⟨fun i k => (d i)⁻¹ * dlt i k,fun i j hi hj => ?_⟩⟩;rw [e1 (fun i => (d i)⁻¹) B i j hi,h i j hi hj,← Rat.mul_assoc,Rat.inv_mul_cancel _ (hd i hi),Rat.one_mul]
theorem eqv_swap {m n : Nat} {A B : Nat → Nat → Rat} {a b : Nat} (ha : a < m) (hb : b < m) (h : ∀ i j,i < m → j < n → B i j = A (if i = a then b else if i = b then a else i) j) : Eqv n m B A := by
 have lt : ∀ i,i < m → (if i = a then b else if i = b then a else i) < m := fun i hi => by split <;> (try split) <;> omega
 refine ⟨⟨fun i => dlt (if i = a then b else if i = b then a else i),fun i j hi hj => by rw [vm_dlt (lt i hi),h i j hi hj]⟩,⟨fun i => dlt (if i = a then b else if i = b then a else i),fun i j hi hj => ?_⟩⟩;rw [vm_dlt (lt i hi),h _ j (lt i hi) hj]
 congr 1
 split <;> (try split) <;> (try split) <;> (try split) <;> (try split) <;> omega
end Go.Proofs.YtffkmeocmjohmaaGreat.Q17

namespace Go.Proofs.YtffkmeocmjohmaaGreat
open Q17 (sm vm Comb Rref)
theorem znF : ∀ (t : Nat) (f : Nat → Int),((su t f : Int) : Rat) = sm t fun a => (f a : Rat)
 | 0,f => by simp [su,sm]
 | t + 1,f => by
  simp only [su,sm];rw [Rat.intCast_add,znF t f]
theorem zpC {N : Int} (h : N ≠ 0) : (N : Rat) ≠ 0 := fun e => h (Rat.intCast_inj.1 (by simpa using e))
theorem zXI (f : Nat → Rat) : ∀ n,∃ (D : Int) (g : Nat → Int),D ≠ 0 ∧ ∀ j,j < n → (D : Rat) * f j = (g j : Rat)
 | 0 => ⟨1,fun _ => 0,by decide,fun j hj => by omega⟩
 | n + 1 => by
  obtain ⟨D,g,h0,h⟩ := zXI f n;have hd : ((f n).den : Int) ≠ 0 := by have := (f n).den_nz;omega
  have he : (((f n).den : Int) : Rat) * f n = ((f n).num : Rat) := by
   have e := Rat.num_divInt_den (f n);rw [Rat.divInt_eq_div] at e;generalize (f n).num = u at *;generalize ((f n).den : Int) = d at *;rw [← e,Rat.mul_comm,Rat.div_mul_cancel (zpC hd)]
  refine ⟨D * (f n).den,fun j => if j = n then D * (f n).num else (f n).den * g j,Int.mul_ne_zero h0 hd,fun j hj => ?_⟩
  by_cases e : j = n
  ·subst e
   simp only [if_true];rw [Rat.intCast_mul,Rat.intCast_mul,Rat.mul_assoc,he]
  ·simp only [e,if_false]
   have := h j (by omega);rw [Rat.intCast_mul,Rat.intCast_mul,← this]
   grind
theorem zPI (M : Nat → Nat → Rat) (n : Nat) : ∀ t,∃ (D : Int) (L : Nat → Nat → Int),D ≠ 0 ∧ ∀ a j,a < t → j < n → (D : Rat) * M a j = (L a j : Rat)
 | 0 => ⟨1,fun _ _ => 0,by decide,fun a j ha => by omega⟩
 | t + 1 => by
  obtain ⟨D,L,h0,h⟩ := zPI M n t;obtain ⟨E,g,e0,e⟩ := zXI (M t) n;refine ⟨D * E,fun a j => if a = t then D * g j else E * L a j,Int.mul_ne_zero h0 e0,fun a j ha hj => ?_⟩
  by_cases q : a = t
  ·subst q
   simp only [if_true];rw [Rat.intCast_mul,Rat.intCast_mul,Rat.mul_assoc,e j hj]
  ·simp only [q,if_false]
   have := h a j (by omega) hj;rw [Rat.intCast_mul,Rat.intCast_mul,← this]
   grind
def qm (A : Nat → Nat → Int) (i j : Nat) : Rat := (A i j : Rat)
theorem Sp.q17 {n t : Nat} {L : Nat → Nat → Int} {v : Nat → Int} (h : Sp n t L v) : ∃ x : Nat → Rat,∀ j,j < n → (v j : Rat) = vm t x (qm L) j := by
 obtain ⟨N,e,h0,h1⟩ := h;refine ⟨fun a => (N : Rat)⁻¹ * (e a : Rat),fun j hj => ?_⟩;have q := congrArg (fun z : Int => (z : Rat)) (h1 j hj);rw [Rat.intCast_mul,znF] at q;have e1 : vm t (fun a => (N : Rat)⁻¹ * (e a : Rat)) (qm L) j = (N : Rat)⁻¹ * sm t fun a => ((e a * L a j : Int) : Rat) := by
  rw [← Q17.sm_mul];unfold vm;exact Q17.sm_congr fun a _ => by rw [Rat.intCast_mul];unfold qm;rw [Rat.mul_assoc]
 rw [e1,← q,← Rat.mul_assoc,Rat.inv_mul_cancel _ (zpC h0),Rat.one_mul]
theorem sp17 {n t : Nat} {M : Nat → Nat → Rat} {D : Int} {L : Nat → Nat → Int} (hD : D ≠ 0) (hL : ∀ a j,a < t → j < n → (D : Rat) * M a j = (L a j : Rat)) {v : Nat → Int} {x : Nat → Rat} (h : ∀ j,j < n → (v j : Rat) = vm t x M j) : Sp n t L v := by
 obtain ⟨E,g,e0,e⟩ := zXI x t;refine ⟨E * D,g,Int.mul_ne_zero e0 hD,fun j hj => Rat.intCast_inj.1 ?_⟩;rw [Rat.intCast_mul,znF,Rat.intCast_mul,h j hj];unfold vm;rw [← Q17.sm_mul];refine Q17.sm_congr fun a ha => ?_
 rw [Rat.intCast_mul,← hL a j ha hj,← e a ha]
 grind
theorem rank17 {A : Nat → Nat → Int} {n m : Nat} {rs cs : List Nat} {odd : Bool} {M : Nat → Nat → Rat} {pv : List Nat} (h : Stz A n m rs cs odd) (hr : Rref m n M pv) (h1 : Comb n m m M (qm A)) (h2 : Comb n m m (qm A) M) : rs.length = pv.length := by
 refine Nat.le_antisymm ?_ ?_
 ·obtain ⟨D,L,hD,hL⟩ := zPI M n pv.length
  obtain ⟨U,hU⟩ := h2;refine h.upper (t := pv.length) (L := L) fun r hr' => sp17 hD hL (x := U r) fun j hj => ?_
  have := hU r j hr' hj
  show qm A r j = _
  rw [this];unfold vm;exact Q17.sm_cut hr.len fun k h1 h2 => by rw [hr.zer k j h1 h2 hj,Rat.mul_zero]
 ·refine Rref.rank_le Q17.fld17 hr (Y := qm (lnm A rs cs)) (h1.trans ?_)
  have : ∀ i,∃ x : Nat → Rat,i < m → ∀ j,j < n → (A i j : Rat) = vm rs.length x (qm (lnm A rs cs)) j := fun i => by
   by_cases hi : i < m
   ·obtain ⟨x,hx⟩ := (h.all hi).q17
    exact ⟨x,fun _ => hx⟩
   ·exact ⟨fun _ => 0,fun h => absurd h hi⟩
  exact ⟨fun i => Classical.choose (this i),fun i j hi hj => Classical.choose_spec (this i) hi j hj⟩
end Go.Proofs.YtffkmeocmjohmaaGreat

namespace Go.Proofs.YtffkmeocmjohmaaGreat
theorem dcl_cross {A : Nat → Nat → Int} {m n : Nat} {f : Nat → Nat} {p i : Nat} (q j : Nat) (hp : p < m) (hi : i < m) (hip : i ≠ p) :
  dcl A m n (stf f p q) * dcl A m n (stf f i j) - dcl A m n (stf f i q) * dcl A m n (stf f p j) = dcl A m n f * dcl A m n (stf (stf f p q) i j) := by
 obtain ⟨B,hB⟩ : ∃ B,(fun r => vcl A n (f r)) = B := ⟨_,rfl⟩
 have e0 : dcl A m n (stf (stf f p q) i j) = det m (stR (stR B p (vcl A n q)) i (vcl A n j)) := by
  rw [zcG,← hB]
  congr 2
  funext r k
  unfold stf stR
  split <;> rfl
 have e9 : dcl A m n f = det m B := by rw [← hB];rfl
 have hlin : ∀ x : Nat → Int,det m (stR (stR B p (vcl A n q)) i fun k => su m fun t => x t * B t k) = su m fun t => x t * det m (stR (stR B p (vcl A n q)) i (B t)) := fun x => (zdA m).sum hi x B m
 have h1 : det m B * det m (stR (stR B p (vcl A n q)) i (vcl A n j)) = su m fun t => det m (stR B t (vcl A n j)) * det m (stR (stR B p (vcl A n q)) i (B t)) := by
  rw [← hlin,← (zdA m).mul hi];refine zLA fun r k hr hk => ?_
  unfold stR
  by_cases e : r = i
  ·rw [if_pos e,if_pos e]
   exact (cramer14 B (vcl A n j) hk).symm
  ·rw [if_neg e,if_neg e]
 rw [e0,e9,h1];have h2 : ∀ t,t < m → t ≠ i → t ≠ p → det m (stR B t (vcl A n j)) * det m (stR (stR B p (vcl A n q)) i (B t)) = 0 := fun t ht h1 h2 => by
  rw [(zdA m).same (A := stR (stR B p (vcl A n q)) i (B t)) (i := t) (k := i) ht hi h1 fun k _ => by
   unfold stR;rw [if_neg h1,if_neg h2,if_pos rfl],Int.mul_zero]
 rw [su_pick14 hi hp hip h2,det_swp B _ hp hi hip];have e1 : det m (stR (stR B p (vcl A n q)) i (B i)) = dcl A m n (stf f p q) := by
  rw [zcG,hB]
  congr 1
  funext r k
  unfold stR
  by_cases e : r = i
  ·subst e;rw [if_pos rfl,if_neg hip]
  ·rw [if_neg e]
 have e2 : ∀ r c,dcl A m n (stf f r c) = det m (stR B r (vcl A n c)) := fun r c => by rw [zcG,hB]
 rw [e1,← e2,← e2,← e2]
 grind
structure Elz (A : Nat → Nat → Int) (m n : Nat) (f : Nat → Nat) (L : Nat → Nat → Int) (d s : Int) : Prop where
 nz : d ≠ 0
 sg : s * s = 1
 de : d = s * dcl A m n f
 be : ∀ i j,i < m → j < n → L i j = s * dcl A m n (stf f i j)
theorem Elz.start (A : Nat → Nat → Int) (m n : Nat) : Elz A m n (fun i => n + i) A 1 1 := by
 have t := Tbl.start A m n;refine ⟨by decide,rfl,?_,fun i j hi hj => ?_⟩
 ·rw [t.de];rfl
 ·rw [t.be i j hi hj,Int.one_mul]
theorem Elz.congr {A : Nat → Nat → Int} {m n : Nat} {f : Nat → Nat} {L L' : Nat → Nat → Int} {d s : Int} (h : Elz A m n f L d s) (e : ∀ i j,i < m → j < n → L' i j = L i j) : Elz A m n f L' d s := ⟨h.nz,h.sg,h.de,fun i j hi hj => by rw [e i j hi hj];exact h.be i j hi hj⟩
def swi (a b i : Nat) : Nat := if i = a then b else if i = b then a else i
theorem ziE {a b i m : Nat} (ha : a < m) (hb : b < m) (hi : i < m) : swi a b i < m := by
 unfold swi
 split
 ·exact hb
 ·split
  ·exact ha
  ·exact hi
theorem zPE (a b i : Nat) : swi a b (swi a b i) = i := by unfold swi;(repeat' split) <;> omega
theorem zbG {A : Nat → Nat → Int} {m n a b : Nat} (g : Nat → Nat) (ha : a < m) (hb : b < m) (hab : a ≠ b) : dcl A m n (fun i => g (swi a b i)) = - dcl A m n g := by
 unfold dcl;rw [← (zdA m).swap (A := fun p => vcl A n (g p)) ha hb hab]
 congr 1
 funext r k
 show vcl A n (g (swi a b r)) k = _
 unfold stR swi
 by_cases e : r = b
 ·rw [if_pos e]
  by_cases e' : r = a
  ·exact absurd (e'.symm.trans e) hab
  ·rw [if_neg e',if_pos e]
 ·by_cases e' : r = a
  ·subst e';simp [e]
  ·simp [e,e']
theorem Elz.swap {A : Nat → Nat → Int} {m n : Nat} {f : Nat → Nat} {L : Nat → Nat → Int} {d s : Int} (h : Elz A m n f L d s) {a b : Nat} (ha : a < m) (hb : b < m) : ∃ f' s',Elz A m n f' (fun i j => L (swi a b i) j) d s' := by
 by_cases hab : a = b
 ·subst hab
  refine ⟨f,s,h.congr fun i j hi hj => ?_⟩
  show L (swi a a i) j = L i j
  congr 1
  unfold swi
  by_cases q : i = a
  ·rw [if_pos q,q]
  ·rw [if_neg q,if_neg q]
 ·refine ⟨fun i => f (swi a b i),-s,h.nz,by have := h.sg;grind,?_,fun i j hi hj => ?_⟩
  ·rw [zbG f ha hb hab];have := h.de;grind
  ·have e : stf (fun i => f (swi a b i)) i j = fun k => (stf f (swi a b i) j) (swi a b k) := by
    funext k
    unfold stf
    by_cases q : k = i
    ·subst q;rw [if_pos rfl,if_pos rfl]
    ·rw [if_neg q,if_neg]
     intro c;have := congrArg (swi a b) c;rw [zPE,zPE] at this;exact q this
   show L (swi a b i) j = _
   rw [h.be _ j (ziE ha hb hi) hj,e,zbG _ ha hb hab]
   grind
theorem Elz.cross {A : Nat → Nat → Int} {m n : Nat} {f : Nat → Nat} {L : Nat → Nat → Int} {d s : Int} (h : Elz A m n f L d s) {p c i j : Nat} (hp : p < m) (hc : c < n) (hi : i < m) (hj : j < n) (hip : i ≠ p) :
  L p c * L i j - L i c * L p j = d * (s * dcl A m n (stf (stf f p c) i j)) := by
 have e := dcl_cross (A := A) (n := n) (f := f) c j hp hi hip;have h2 := h.sg;rw [h.be p c hp hc,h.be i j hi hj,h.be i c hi hc,h.be p j hp hj,h.de]
 grind
theorem Elz.dvd {A : Nat → Nat → Int} {m n : Nat} {f : Nat → Nat} {L : Nat → Nat → Int} {d s : Int} (h : Elz A m n f L d s) {p c i j : Nat} (hp : p < m) (hc : c < n) (hi : i < m) (hj : j < n) (hip : i ≠ p) : d ∣ L p c * L i j - L i c * L p j := ⟨_,h.cross hp hc hi hj hip⟩
theorem Elz.step {A : Nat → Nat → Int} {m n : Nat} {f : Nat → Nat} {L L' : Nat → Nat → Int} {d s : Int} (h : Elz A m n f L d s) {p c : Nat} (hp : p < m) (hc : c < n) (hnz : L p c ≠ 0)
  (h1 : ∀ i j,i < m → j < n → i ≠ p → d * L' i j = L p c * L i j - L i c * L p j) (h2 : ∀ j,j < n → L' p j = L p j) : Elz A m n (stf f p c) L' (L p c) s := by
 refine ⟨hnz,h.sg,h.be p c hp hc,fun i j hi hj => ?_⟩
 by_cases e : i = p
 ·subst e
  rw [h2 j hj,h.be i j hi hj]
  congr 2
  funext k
  unfold stf
  split <;> rfl
 ·have := h1 i j hi hj e
  rw [h.cross hp hc hi hj e] at this;exact Int.eq_of_mul_eq_mul_left h.nz this
end Go.Proofs.YtffkmeocmjohmaaGreat

namespace Go.Proofs.YtffkmeocmjohmaaGreat
open Q17 (Comb Rref Eqv)
def rq (L : Nat → Nat → Int) (d : Int) (i j : Nat) : Rat := (L i j : Rat) * (d : Rat)⁻¹
structure Els (A : Nat → Nat → Int) (m n c : Nat) (L : Nat → Nat → Int) (d : Int) (pv : List Nat) : Prop where
 ez : ∃ f s,Elz A m n f L d s
 rr : Rref m c (rq L d) pv
 eq : Eqv n m (rq L d) (qm A)
theorem Els.nz {A : Nat → Nat → Int} {m n c : Nat} {L : Nat → Nat → Int} {d : Int} {pv : List Nat} (h : Els A m n c L d pv) : d ≠ 0 := by
 obtain ⟨f,s,e⟩ := h.ez;exact e.nz
theorem rq_one (A : Nat → Nat → Int) : rq A 1 = qm A := by
 funext i j
 unfold rq qm;have : ((1 : Int) : Rat)⁻¹ = 1 := by
  have h := Rat.mul_inv_cancel ((1 : Int) : Rat) (by decide);rw [show ((1 : Int) : Rat) = 1 from rfl,Rat.one_mul] at h;exact h
 rw [this,Rat.mul_one]
theorem Els.start (A : Nat → Nat → Int) (m n : Nat) : Els A m n 0 A 1 [] := ⟨⟨_,_,Elz.start A m n⟩,Rref.start _ _,by rw [rq_one];exact Eqv.refl _ _ _⟩
theorem Els.len {A : Nat → Nat → Int} {m n c : Nat} {L : Nat → Nat → Int} {d : Int} {pv : List Nat} (h : Els A m n c L d pv) : pv.length ≤ m := h.rr.len
theorem Els.skip {A : Nat → Nat → Int} {m n c : Nat} {L : Nat → Nat → Int} {d : Int} {pv : List Nat} (h : Els A m n c L d pv) (hz : ∀ i,pv.length ≤ i → i < m → L i c = 0) : Els A m n (c + 1) L d pv :=
 ⟨h.ez,h.rr.skip fun i h1 h2 => by unfold rq;rw [hz i h1 h2];exact Rat.zero_mul _,h.eq⟩
theorem Els.swap {A : Nat → Nat → Int} {m n c : Nat} {L : Nat → Nat → Int} {d : Int} {pv : List Nat} (h : Els A m n c L d pv) {a b : Nat} (ha : pv.length ≤ a) (hb : pv.length ≤ b) (ham : a < m) (hbm : b < m) : Els A m n c (fun i j => L (swi a b i) j) d pv := by
 obtain ⟨f,s,e⟩ := h.ez;exact ⟨e.swap ham hbm,h.rr.swap ha hb ham hbm fun i j hi => rfl,(Q17.eqv_swap ham hbm fun i j hi hj => rfl).trans h.eq⟩
theorem Els.dvd {A : Nat → Nat → Int} {m n c : Nat} {L : Nat → Nat → Int} {d : Int} {pv : List Nat} (h : Els A m n c L d pv) {p q i j : Nat} (hp : p < m) (hc : q < n) (hi : i < m) (hj : j < n) (hip : i ≠ p) : d ∣ L p q * L i j - L i q * L p j := by
 obtain ⟨f,s,e⟩ := h.ez;exact e.dvd hp hc hi hj hip
theorem Els.step {A : Nat → Nat → Int} {m n c : Nat} {L L' : Nat → Nat → Int} {d : Int} {pv : List Nat} (h : Els A m n c L d pv) (hp : pv.length < m) (hc : c < n) (hnz : L pv.length c ≠ 0)
  (h1 : ∀ i j,i < m → j < n → i ≠ pv.length → d * L' i j = L pv.length c * L i j - L i c * L pv.length j) (h2 : ∀ j,j < n → L' pv.length j = L pv.length j) : Els A m n (c + 1) L' (L pv.length c) (pv ++ [c]) := by
 obtain ⟨f,s,e⟩ := h.ez;obtain ⟨p,hpp⟩ : ∃ p,pv.length = p := ⟨_,rfl⟩
 rw [hpp] at hp hnz h1 h2 ⊢;have hd : (d : Rat) ≠ 0 := zpC h.nz;have hx : (L p c : Rat) ≠ 0 := zpC hnz;have i1 : (d : Rat) * (d : Rat)⁻¹ = 1 := Rat.mul_inv_cancel _ hd;have i2 : (L p c : Rat) * (L p c : Rat)⁻¹ = 1 := Rat.mul_inv_cancel _ hx;obtain ⟨y,hy⟩ : ∃ y : Rat,y = (d : Rat) * (L p c : Rat)⁻¹ := ⟨_,rfl⟩
 have hy1 : rq L d p c * y = 1 := by unfold rq;rw [hy];grind
 have key : ∀ i j,i < m → j < n → rq L' (L p c) i j = if i = p then rq L d i j * y else rq L d i j - rq L d i c * (rq L d p j * y) := fun i j hi hj => by
  by_cases q : i = p
  ·rw [if_pos q,q]
   unfold rq;rw [h2 j hj,hy]
   grind
  ·rw [if_neg q]
   have := congrArg (fun z : Int => (z : Rat)) (h1 i j hi hj q);simp only [Rat.intCast_mul,Rat.intCast_sub] at this;unfold rq;have h5 : (L' i j : Rat) = (d : Rat)⁻¹ * ((d : Rat) * (L' i j : Rat)) := by grind
   rw [h5,this,hy]
   grind
 refine ⟨⟨_,_,e.step hp hc hnz h1 h2⟩,?_,Eqv.trans ?_ h.eq⟩
 ·have hc1 := h.rr.clear (N := fun i j => if i = p then rq L d i j * y else rq L d i j - rq L d i c * (rq L d p j * y)) (by omega) (y := y) (by rw [hpp];exact hy1) (fun i j hi => by rw [hpp])
  exact hc1.congr (n := n) (by omega) key
 ·refine ⟨Comb.two (f := fun i => i) (g := fun _ => p) (a := fun i => if i = p then y else 1) (b := fun i => if i = p then 0 else -(rq L d i c * y)) (fun i hi => hi) (fun _ _ => hp) (fun i j hi hj => ?_),Comb.two (f := fun i => i) (g := fun _ => p) (a := fun i => if i = p then rq L d p c else 1) (b := fun i => if i = p then 0 else rq L d i c) (fun i hi => hi) (fun _ _ => hp) (fun i j hi hj => ?_)⟩
  ·rw [key i j hi hj]
   by_cases q : i = p
   ·simp only [q,if_true];grind
   ·simp only [q,if_false];grind
  ·rw [key i j hi hj,key p j hp hj]
   by_cases q : i = p
   ·subst q
    simp only [if_true]
    grind
   ·simp only [q,if_false,if_true];grind
theorem Els.form {A : Nat → Nat → Int} {m n : Nat} {L : Nat → Nat → Int} {d : Int} {pv : List Nat} (h : Els A m n n L d pv) : Rref m n (rq L d) pv ∧ Eqv n m (rq L d) (qm A) := ⟨h.rr,h.eq⟩
end Go.Proofs.YtffkmeocmjohmaaGreat

namespace Go.Proofs.YtffkmeocmjohmaaGreat
open Go.RowKit
theorem Sh17.swap {B m n k Lb cap a b : Nat} {w : World} {gs : Nat → Nat} {L : Nat → Nat → Int} (h : Sh17 B w (.slice (some ⟨Lb,0,none⟩) m cap) m n gs L k) (ha : a < m) (hb : b < m) :
  Sh17 B ((w.setCell ⟨Lb,a,none⟩ (rowv n (gs b))).setCell ⟨Lb,b,none⟩ (rowv n (gs a))) (.slice (some ⟨Lb,0,none⟩) m cap) m n (fun i => gs (swi a b i)) (fun i j => L (swi a b i) j) k
   ∧ Below B w ((w.setCell ⟨Lb,a,none⟩ (rowv n (gs b))).setCell ⟨Lb,b,none⟩ (rowv n (gs a))) ∧ Ty 33 w ((w.setCell ⟨Lb,a,none⟩ (rowv n (gs b))).setCell ⟨Lb,b,none⟩ (rowv n (gs a))) ∧ (w.setCell ⟨Lb,a,none⟩ (rowv n (gs b))).cell? ⟨Lb,b,none⟩ ≠ none ∧ (w.setCell ⟨Lb,a,none⟩ (rowv n (gs b))).frozen? ⟨Lb,b,none⟩ = false := by
 obtain ⟨h1,h4,h5⟩ := h;rcases h1 with ⟨_,h1⟩ | ⟨h0,Lb',cap',r,e,h2,e1,e2⟩
 ·cases h1
 simp only [Value.slice.injEq,Option.some.injEq,Addr.mk.injEq,and_true,true_and] at e;obtain ⟨rfl,rfl⟩ := e;have d1 := e2.set a (rowv n (gs b));have d2 := d1.set b (rowv n (gs a));have ty : Ty 33 w ((w.setCell ⟨Lb,a,none⟩ (rowv n (gs b))).setCell ⟨Lb,b,none⟩ (rowv n (gs a))) := (Ty.set e2).trans (Ty.set d1);refine ⟨⟨.inr ⟨h0,Lb,cap,r,rfl,h2,e1,?_⟩,fun i j hi hj q => ?_,fun i hi => ⟨(h5 _ (ziE ha hb hi)).1,(h5 _ (ziE ha hb hi)).2.ty ty (by decide) (by decide)⟩⟩,bset (bset (Below.refl _ _) e1) e1,ty,?_,d1.fz b⟩
 ·rw [zTE ha,zTE hb] at d2
  rw [gv17_congr (hs := fun t => if t = b then gs a else if t = a then gs b else gs t) fun i hi => ?_]
  ·exact d2
  ·show gs (swi a b i) = _
   unfold swi
   by_cases q : i = a
   ·rw [if_pos q]
    by_cases q' : i = b
    ·rw [if_pos q',← q,← q']
    ·rw [if_neg q',if_pos q]
   ·rw [if_neg q]
    by_cases q' : i = b
    ·rw [if_pos q',if_pos q']
    ·rw [if_neg q',if_neg q',if_neg q]
 ·have := h4 _ _ (ziE ha hb hi) (ziE ha hb hj) q
  have := congrArg (swi a b) this;rw [zPE,zPE] at this;exact this
 ·rw [zTE ha] at d1
  rw [d1.at (zfF hb)];exact fun q => by cases q
def One17 (x y : Value) : Prop := ∃ n a l c,x = .bool n ∧ y = .slice a l c
def Elm (B : Nat) (w : World) (Bs m n : Nat) (gs : Nat → Nat) (L : Nat → Nat → Int) (d : Int) (pv : List Nat) (k : Nat) : Prop :=
 ∃ x y lv nd ad ld cd vv,Ebx w Bs x y lv (.bool nd) (.slice ad ld cd) vv ∧ B ≤ Bs ∧ Zm 0 w (.agg #[.bool nd,.slice ad ld cd]) d k ∧ Ivs B w vv pv ∧ Sh17 B w lv m n gs L k ∧ One17 x y
theorem Els.lt {A : Nat → Nat → Int} {m n c k : Nat} {L : Nat → Nat → Int} {d : Int} {pv : List Nat} (h : Els A m n c L d pv) (hK : ∀ f,((dcl A m n f).natAbs : Int) < pw k) : ((d.natAbs : Int) < pw k) ∧ ∀ i j,i < m → j < n → ((L i j).natAbs : Int) < pw k := by
 obtain ⟨f,s,e⟩ := h.ez;have hs : s.natAbs = 1 := by
  have := congrArg Int.natAbs e.sg;rw [Int.natAbs_mul] at this;exact Nat.eq_one_of_mul_eq_one_left this
 refine ⟨?_,fun i j hi hj => ?_⟩
 ·rw [e.de,Int.natAbs_mul,hs,Nat.one_mul];exact hK _
 ·rw [e.be i j hi hj,Int.natAbs_mul,hs,Nat.one_mul];exact hK _
def mixT (L L' : Nat → Nat → Int) (i t j : Nat) : Int := if t < i then L' t j else L t j
def crs (L : Nat → Nat → Int) (d : Int) (p c t j : Nat) : Int := if t = p then L t j else (L p c * L t j - L t c * L p j).tdiv d
theorem Els.crs {A : Nat → Nat → Int} {m n c : Nat} {L : Nat → Nat → Int} {d : Int} {pv : List Nat} (h : Els A m n c L d pv) (hp : pv.length < m) (hc : c < n) (hnz : L pv.length c ≠ 0) : Els A m n (c + 1) (crs L d pv.length c) (L pv.length c) (pv ++ [c]) := by
 refine h.step hp hc hnz (fun i j hi hj hne => ?_) fun j hj => by unfold Go.Proofs.YtffkmeocmjohmaaGreat.crs;rw [if_pos rfl]
 unfold Go.Proofs.YtffkmeocmjohmaaGreat.crs;rw [if_neg hne];exact Int.mul_tdiv_cancel' (h.dvd hp hc hi hj hne)
end Go.Proofs.YtffkmeocmjohmaaGreat

namespace Go.Proofs.YtffkmeocmjohmaaGreat
theorem divInt_parts {N D : Int} (hD : D ≠ 0) (hp : 0 < D) : ((Int.gcd N D : Int) ≠ 0 ∧ N.tmod (Int.gcd N D : Int) = 0 ∧ D.tmod (Int.gcd N D : Int) = 0) ∧ N.tdiv (Int.gcd N D : Int) = (Rat.divInt N D).num ∧ D.tdiv (Int.gcd N D : Int) = ((Rat.divInt N D).den : Int) := by
 have g0 : (Int.gcd N D : Int) ≠ 0 := by
  have := Int.gcd_pos_of_ne_zero_right N hD;omega
 have dN : (Int.gcd N D : Int) ∣ N := Int.gcd_dvd_left ..;have dD : (Int.gcd N D : Int) ∣ D := Int.gcd_dvd_right ..;refine ⟨⟨g0,Int.tmod_eq_zero_of_dvd dN,Int.tmod_eq_zero_of_dvd dD⟩,?_,?_⟩
 ·rw [Rat.num_divInt,Int.sign_eq_one_of_pos hp,Int.one_mul,Int.gcd_comm D N]
  exact Int.tdiv_eq_ediv_of_dvd dN
 ·rw [Rat.den_divInt,if_neg hD,Int.gcd_comm D N,Int.tdiv_eq_ediv_of_dvd dD]
  push_cast
  rw [Int.natAbs_of_nonneg (Int.le_of_lt hp)]
theorem divInt_parts_neg {N D : Int} (hp : D < 0) : (-(Int.gcd N D : Int) ≠ 0 ∧ N.tmod (-(Int.gcd N D : Int)) = 0 ∧ D.tmod (-(Int.gcd N D : Int)) = 0) ∧ N.tdiv (-(Int.gcd N D : Int)) = (Rat.divInt N D).num ∧ D.tdiv (-(Int.gcd N D : Int)) = ((Rat.divInt N D).den : Int) := by
 have hD : D ≠ 0 := by omega
 have g0 : (Int.gcd N D : Int) ≠ 0 := by
  have := Int.gcd_pos_of_ne_zero_right N hD;omega
 have dN : (Int.gcd N D : Int) ∣ N := Int.gcd_dvd_left ..;have dD : (Int.gcd N D : Int) ∣ D := Int.gcd_dvd_right ..;have dN' : -(Int.gcd N D : Int) ∣ N := Int.neg_dvd.2 dN;have dD' : -(Int.gcd N D : Int) ∣ D := Int.neg_dvd.2 dD;refine ⟨⟨by omega,Int.tmod_eq_zero_of_dvd dN',Int.tmod_eq_zero_of_dvd dD'⟩,?_,?_⟩
 ·rw [Rat.num_divInt,Int.sign_eq_neg_one_of_neg hp,Int.gcd_comm D N,Int.tdiv_neg,Int.tdiv_eq_ediv_of_dvd dN]
  rw [Int.neg_mul,Int.one_mul];exact (Int.neg_ediv_of_dvd dN).symm
 ·rw [Rat.den_divInt,if_neg hD,Int.gcd_comm D N,Int.tdiv_neg,Int.tdiv_eq_ediv_of_dvd dD]
  push_cast
  rw [← Int.neg_ediv_of_dvd dD]
  congr 1
  omega
end Go.Proofs.YtffkmeocmjohmaaGreat

namespace Go.Proofs.YtffkmeocmjohmaaGreat
open Go.RowKit
theorem Zm.put4f {B : Nat} {w : World} {v : Value} {z : Int} {k : Nat} (h : Zm B w v z k) {b : Nat} {x0 x1 x2 x3 : Value} (d : Cel w b 47 [x0,x1,x2,x3]) (y0 y1 y2 y3 : Value) : Zm B (put4 w b y0 y1 y2 y3) v z k := by
 have d1 := d.set 0 y0;have d2 := d1.set 1 y1;have d3 := d2.set 2 y2;exact (((h.cel d (by decide)).cel d1 (by decide)).cel d2 (by decide)).cel d3 (by decide)
theorem zoH {f : Func} {s1 s3 : Nat} (hr : f.results = #[ResultVar.cell s1 47,ResultVar.tmp s3]) {W : World} {b : Nat} {x0 x1 x2 x3 e : Value} (h : Cel W b 47 [x0,x1,x2,x3]) (tmps : Array Value) (ht : tmps[s1]? = some (.pointer (some ⟨b,0,none⟩))) (he : tmps[s3]? = some e) :
  (results f tmps).run Tryz.prog W = .ok (.tuple #[.agg #[x0,x1,x2,x3],e]) W := by
 simp [results,hr,go_sem,ht,he,h.at (i := 0) rfl,h.at (i := 1) rfl,h.at (i := 2) rfl,h.at (i := 3) rfl]
def zLE (w : World) (q : Rat) (k : Nat) (e : Ending) (w' : World) : Prop := ∃ r0 r1 r2 r3,e = .returned (.tuple #[.agg #[r0,r1,r2,r3],.int .i64 0]) ∧ Zm w.heap.size w' (.agg #[r0,r1]) q.num k ∧ Zm w.heap.size w' (.agg #[r2,r3]) (q.den : Int) k ∧ Below w.heap.size w w'
theorem zLI {w W : World} {b : Nat} {x0 x1 x2 x3 y0 y1 y2 y3 : Value} {q : Rat} {k : Nat} {B B' : Nat} (d : Cel W b 47 [x0,x1,x2,x3]) (h : Zm B W (.agg #[y0,y1]) q.num k) (h' : Zm B' W (.agg #[y2,y3]) (q.den : Int) k) (hW : Below w.heap.size w W) (hb : w.heap.size ≤ b) (hB : w.heap.size ≤ B) (hB' : w.heap.size ≤ B') :
  zLE w q k (.returned (.tuple #[.agg #[y0,y1,y2,y3],.int .i64 0])) (put4 W b y0 y1 y2 y3) :=
 ⟨y0,y1,y2,y3,rfl,(h.put4f d _ _ _ _).mono hB,(h'.put4f d _ _ _ _).mono hB',(((hW.setCell (p := ⟨b,0,none⟩) hb _).setCell (p := ⟨b,1,none⟩) hb _).setCell (p := ⟨b,2,none⟩) hb _).setCell (p := ⟨b,3,none⟩) hb _⟩
end Go.Proofs.YtffkmeocmjohmaaGreat
