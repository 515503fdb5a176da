/-
 QDim12ToBr12: Dim12, Br12, joined.
-/
import Derived.Test.YtkklldokdnfkgaaGreatQBs12ToLin12
import Derived.Test.YtkklldokdnfkgaaGreatQFn12

set_option maxRecDepth 100000
set_option maxHeartbeats 6400000
set_option linter.unusedVariables false
set_option linter.unusedSimpArgs false
namespace Go.Proofs.YtkklldokdnfkgaaGreat
variable {p : Nat} [NeZero p]
def Fld (p : Nat) [NeZero p] : Prop := (∀ x : Fin p,x ≠ 0 → ∃ y,x * y = 1) ∧ (1 : Fin p) ≠ 0
def sk (i k : Nat) : Nat := if k < i then k else k + 1
theorem zPH {f : Nat → Fin p} : ∀ {s i : Nat},i ≤ s → sm (s + 1) f = sm s (fun k => f (sk i k)) + f i
 | 0,i,h => by
  obtain rfl : i = 0 := by omega
  simp only [sm]
 | s + 1,i,h => by
  by_cases e : i = s + 1
  ·subst e
   show sm (s + 1) f + f (s + 1) = _
   rw [zUA (g := f) (f := fun k => f (sk (s + 1) k)) (fun k hk => by unfold sk;rw [if_pos hk])]
  ·have ih := zPH (f := f) (s := s) (i := i) (by omega)
   show sm (s + 1) f + f (s + 1) = (sm s (fun k => f (sk i k)) + f (sk i s)) + f i
   rw [ih];have : sk i s = s + 1 := by unfold sk;rw [if_neg (by omega)]
   rw [this]
   grind
theorem idle (F : Fld p) : ∀ {r s : Nat} (Z : Nat → Nat → Fin p),r < s → ∃ x : Nat → Fin p,(∃ i,i < s ∧ x i ≠ 0) ∧ ∀ j,j < r → vm s x Z j = 0
 | 0,s,Z,h => ⟨dlt 0,⟨0,h,by unfold dlt;rw [if_pos rfl];exact F.2⟩,fun j hj => by omega⟩
 | r + 1,s,Z,h => by
  by_cases hz : ∀ i,i < s → Z i r = 0
  ·obtain ⟨x,hx,h0⟩ := idle F (r := r) (s := s) Z (by omega)
   refine ⟨x,hx,fun j hj => ?_⟩
   by_cases e : j = r
   ·subst e
    exact zhB fun k hk => by rw [hz k hk];grind
   ·exact h0 j (by omega)
  ·obtain ⟨i0,hi0,hne⟩ : ∃ i,i < s ∧ Z i r ≠ 0 := by
    apply Classical.byContradiction
    intro q;exact hz fun i hi => Classical.byContradiction fun k => q ⟨i,hi,k⟩
   obtain ⟨y,hy⟩ := F.1 _ hne;obtain ⟨s',rfl⟩ : ∃ s',s = s' + 1 := ⟨s - 1,by omega⟩
   obtain ⟨x,⟨i1,hi1,hx1⟩,h0⟩ := idle F (r := r) (s := s') (fun i j => Z (sk i0 i) j - Z (sk i0 i) r * y * Z i0 j) (by omega);refine ⟨fun i => if i = i0 then -(sm s' (fun k => x k * Z (sk i0 k) r * y)) else x (if i < i0 then i else i - 1),⟨sk i0 i1,?_,?_⟩,fun j hj => ?_⟩
   ·unfold sk;split <;> omega
   ·have n1 : sk i0 i1 ≠ i0 := by unfold sk;split <;> omega
    have n2 : (if sk i0 i1 < i0 then sk i0 i1 else sk i0 i1 - 1) = i1 := by unfold sk;split <;> (first | omega | (split <;> omega))
    simp only [n1,if_false,n2];exact hx1
   ·unfold vm
    rw [zPH (i := i0) (by omega)];have e1 : sm s' (fun k => (if sk i0 k = i0 then -(sm s' (fun k => x k * Z (sk i0 k) r * y)) else x (if sk i0 k < i0 then sk i0 k else sk i0 k - 1)) * Z (sk i0 k) j) = sm s' (fun k => x k * Z (sk i0 k) j) := zUA fun k hk => by
     have n1 : sk i0 k ≠ i0 := by unfold sk;split <;> omega
     have n2 : (if sk i0 k < i0 then sk i0 k else sk i0 k - 1) = k := by unfold sk;split <;> (first | omega | (split <;> omega))
     simp only [n1,if_false,n2]
    rw [e1];simp only [if_true]
    by_cases e : j = r
    ·subst e
     have e2 : sm s' (fun k => x k * Z (sk i0 k) j * y) = sm s' (fun k => x k * Z (sk i0 k) j) * y := zQH _ _ _;rw [e2];generalize sm s' (fun k => x k * Z (sk i0 k) j) = S;have : Z i0 j * y = 1 := hy
     grind
    ·have h1 := h0 j (by omega)
     unfold vm at h1;rw [zUA (g := fun k => x k * Z (sk i0 k) j + (-(Z i0 j)) * (x k * Z (sk i0 k) r * y)) (fun k _ => by grind),zYG,zxD] at h1
     grind
theorem zoH (F : Fld p) {r s : Nat} {Z Y : Nat → Nat → Fin p} (h : ∀ i j,i < s → j < s → dlt i j = vm r (Z i) Y j) : s ≤ r := by
 apply Classical.byContradiction
 intro q;obtain ⟨x,⟨i,hi,hne⟩,h0⟩ := idle F (r := r) (s := s) Z (by omega)
 apply hne
 have e1 : vm s x (fun a b => dlt a b) i = x i := by
  unfold vm;rw [zUD hi (fun k hk hk2 => by show x k * dlt k i = 0;unfold dlt;rw [if_neg hk2];grind)]
  show x i * dlt i i = x i
  unfold dlt;rw [if_pos rfl]
  grind
 rw [← e1,zKB (y := x) (B := fun a => vm r (Z a) Y) (fun _ _ => rfl) (fun a ha => h a i ha hi),← ztC];exact zhB fun k hk => by rw [h0 k hk];grind
theorem Rref.rank_le (F : Fld p) {m n r : Nat} {M Y : Nat → Nat → Fin p} {pv : List Nat} (h : Rref m n M pv) (hc : Comb n m r M Y) : pv.length ≤ r := by
 obtain ⟨Z,hZ⟩ := hc;refine zoH F (Z := Z) (Y := fun k t => Y k (pv.getD t 0)) fun i t hi ht => ?_
 have e : pv[t]? = some (pv.getD t 0) := by simp [ht]
 have hl := h.len;have h1 := h.one t _ i e (by omega);have h2 := hZ i (pv.getD t 0) (by omega) (h.lt t _ e);rw [← h1,h2]
 rfl
theorem zRF : ∀ {l m : List Nat},l.Pairwise (· < ·) → m.Pairwise (· < ·) → (∀ x,x ∈ l ↔ x ∈ m) → l = m
 | [],[],_,_,_ => rfl
 | [],b :: m,_,_,h => by have := (h b).2 (by simp);simp at this
 | a :: l,[],_,_,h => by have := (h a).1 (by simp);simp at this
 | a :: l,b :: m,hl,hm,h => by
  rw [List.pairwise_cons] at hl hm;have e : a = b := by
   rcases List.mem_cons.1 ((h a).1 (by simp)) with q | q
   ·exact q
   ·rcases List.mem_cons.1 ((h b).2 (by simp)) with q2 | q2
    ·exact q2.symm
    ·have := hm.1 a q;have := hl.1 b q2;omega
  subst e
  congr 1
  refine zRF hl.2 hm.2 fun x => ⟨fun hx => ?_,fun hx => ?_⟩
  ·rcases List.mem_cons.1 ((h x).1 (by simp [hx])) with q | q
   ·subst q;have := hl.1 x hx;omega
   ·exact q
  ·rcases List.mem_cons.1 ((h x).2 (by simp [hx])) with q | q
   ·subst q;have := hm.1 x hx;omega
   ·exact q
theorem Rref.sorted {m n : Nat} {M : Nat → Nat → Fin p} {pv : List Nat} (h : Rref m n M pv) : pv.Pairwise (· < ·) := by
 rw [List.pairwise_iff_getElem];intro i j hi hj hij;exact h.inc i j _ _ hij (List.getElem?_eq_getElem hi) (List.getElem?_eq_getElem hj)
theorem Rref.sub (F : Fld p) {m n : Nat} {M N : Nat → Nat → Fin p} {pv qv : List Nat} (h : Rref m n M pv) (h' : Rref m n N qv) (hc : Comb n m m M N) {a : Nat} (ha : a ∈ pv) : a ∈ qv := by
 obtain ⟨t,ht,e⟩ := List.mem_iff_getElem.1 ha;have et : pv[t]? = some a := by rw [← e];exact List.getElem?_eq_getElem ht
 obtain ⟨U,hU⟩ := hc;have hl := h.len
 apply Classical.byContradiction
 intro hn;have h1 := h'.coords (v := M t) (x := U t) (fun j hj => hU t j (by omega) hj) (h.lt t a et);rw [h.one t a t et (by omega)] at h1;have h2 : vm qv.length (fun s => M t (qv.getD s 0)) N a = 0 := zhB fun s hs => by
  have es : qv[s]? = some (qv.getD s 0) := by simp [hs]
  show M t (qv.getD s 0) * N s a = 0
  rcases Nat.lt_trichotomy (qv.getD s 0) a with q | q | q
  ·rw [h.low t a _ et q];grind
  ·exfalso;apply hn;rw [← q];exact List.mem_of_getElem? es
  ·rw [h'.low s _ a es q];grind
 rw [h2] at h1;unfold dlt at h1;rw [if_pos rfl] at h1;exact F.2 h1
theorem Rref.unique (F : Fld p) {m n : Nat} {M N : Nat → Nat → Fin p} {pv qv : List Nat} (h : Rref m n M pv) (h' : Rref m n N qv) (he : Eqv n m M N) : pv = qv ∧ ∀ i j,i < m → j < n → M i j = N i j := by
 have e : pv = qv := zRF h.sorted h'.sorted fun a => ⟨h.sub F h' he.1,h'.sub F h he.2⟩
 subst e;refine ⟨rfl,fun i j hi hj => ?_⟩
 by_cases q : i < pv.length
 ·obtain ⟨U,hU⟩ := he.1
  rw [h'.coords (v := M i) (x := U i) (fun j hj => hU i j hi hj) hj];unfold vm;rw [zUD q (fun k hk hne => ?_)]
  ·show M i (pv.getD i 0) * N i j = N i j
   rw [h.one i _ i (show pv[i]? = some (pv.getD i 0) by simp [q]) hi];unfold dlt;rw [if_pos rfl]
   grind
  ·show M i (pv.getD k 0) * N k j = 0
   rw [h.one k _ i (show pv[k]? = some (pv.getD k 0) by simp [hk]) hi];unfold dlt;rw [if_neg (fun q => hne q.symm)]
   grind
 ·rw [h.zer i j (by omega) hi hj,h'.zer i j (by omega) hi hj]
end Go.Proofs.YtkklldokdnfkgaaGreat
namespace Go.Proofs.YtkklldokdnfkgaaGreat
theorem zlE {q : Nat} {a b : Fin q} (h : ((a.val : Nat) : Int) = ((b.val : Nat) : Int)) : a = b := Fin.ext (by omega)
variable {p : Nat} [NeZero p]
def fp (x : Int) : Fin p := ⟨(x % (p : Int)).toNat,by
 have h0 : 0 < p := Nat.pos_of_ne_zero (NeZero.ne p);have h1 := Int.emod_nonneg x (b := (p : Int)) (by omega);have h2 := Int.emod_lt_of_pos x (b := (p : Int)) (by omega);omega⟩
theorem zoB (x : Int) : (((fp x : Fin p).val : Nat) : Int) = x % (p : Int) := by
 have h0 : 0 < p := Nat.pos_of_ne_zero (NeZero.ne p);have h1 := Int.emod_nonneg x (b := (p : Int)) (by omega)
 show (((x % (p : Int)).toNat : Nat) : Int) = _
 omega
theorem zGG {x y : Int} : (fp x : Fin p) = fp y ↔ x % (p : Int) = y % (p : Int) := by
 refine ⟨fun h => ?_,fun h => ?_⟩
 ·have h1 := zoB (p := p) x
  rw [h,zoB] at h1;exact h1.symm
 ·exact zlE (by rw [zoB,zoB,h])
theorem zkF (x : Int) : (fp (x % (p : Int)) : Fin p) = fp x := zGG.2 (Int.emod_emod_of_dvd x (Int.dvd_refl _))
theorem zmH (x y : Int) : (fp (x + y) : Fin p) = fp x + fp y := by
 apply zlE
 rw [zoB,Fin.val_add];have := zoB (p := p) x;have h2 := zoB (p := p) y;rw [Int.natCast_emod,Int.natCast_add,this,h2,← Int.add_emod]
theorem zkE (x y : Int) : (fp (x * y) : Fin p) = fp x * fp y := by
 apply zlE
 rw [zoB,Fin.val_mul];have := zoB (p := p) x;have h2 := zoB (p := p) y;rw [Int.natCast_emod,Int.natCast_mul,this,h2,← Int.mul_emod]
theorem zvB : (fp 0 : Fin p) = 0 := by
 apply zlE
 rw [zoB]
 simp
theorem fp_p : (fp (p : Int) : Fin p) = 0 := by rw [← zvB];exact zGG.2 (by simp)
theorem ztG (hp : 2 ≤ p) : (fp 1 : Fin p) = 1 := by
 apply zlE
 rw [zoB];have e : ((1 : Fin p).val : Nat) = 1 % p := rfl;rw [e,Nat.mod_eq_of_lt (by omega),Int.emod_eq_of_lt (by omega) (by omega)]
 rfl
theorem zlH (x y : Int) : (fp (x - y) : Fin p) = fp x - fp y := by
 have h := zmH (p := p) (x - y) y;rw [show x - y + y = x by omega] at h;rw [h]
 grind
theorem zYC {x : Int} (h : IsR p x) : (fp x : Fin p) = 0 ↔ x = 0 := by
 rw [← zvB,zGG];unfold IsR at h;rw [Int.emod_eq_of_lt h.1 h.2]
 simp
theorem fp_inj {x y : Int} (hx : IsR p x) (hy : IsR p y) (h : (fp x : Fin p) = fp y) : x = y := by
 rw [zGG] at h;unfold IsR at hx hy;rw [Int.emod_eq_of_lt hx.1 hx.2,Int.emod_eq_of_lt hy.1 hy.2] at h;exact h
theorem zuG (hp : IsPr p) : Fld p := by
 have h2 := hp.1;refine ⟨fun x hx => ?_,fun h => ?_⟩
 ·refine ⟨fp ((x.val ^ (p - 2) % p : Nat) : Int),?_⟩
  have hd : ¬ p ∣ x.val := fun q => by
   have := Nat.eq_zero_of_dvd_of_lt q x.isLt;exact hx (Fin.ext (by simpa using this))
  have h1 := zmE hp hd;have ex : x = fp (x.val : Int) := zlE (by rw [zoB,Int.emod_eq_of_lt (by omega) (by have := x.isLt;omega)]);rw [ex,← zkE,← ex,← ztG h2,zGG];have h3 : ((x.val * (x.val ^ (p - 2) % p) : Nat) : Int) % (p : Int) = 1 := by
   rw [← Int.natCast_emod,h1];rfl
  rw [Int.natCast_mul] at h3;rw [h3,Int.emod_eq_of_lt (by omega) (by omega)]
 ·have e : ((1 : Fin p).val : Nat) = 1 % p := rfl
  rw [h,Nat.mod_eq_of_lt (by omega)] at e;simp at e
theorem inv_right (hp : IsPr p) {x : Int} (hx : IsR p x) (h0 : x ≠ 0) : (fp x : Fin p) * fp (invP p x) = 1 := by
 have h2 := hp.1;unfold IsR at hx;have hd : ¬ p ∣ x.toNat := fun q => by
  have := Nat.eq_zero_of_dvd_of_lt q (by omega);omega
 have h1 := zmE hp hd;rw [← zkE,← ztG h2,zGG];unfold invP;have e : x = ((x.toNat : Nat) : Int) := by omega
 have h3 : ((x.toNat * (x.toNat ^ (p - 2) % p) : Nat) : Int) % (p : Int) = 1 := by
  rw [← Int.natCast_emod,h1];rfl
 rw [Int.natCast_mul,← e] at h3;rw [h3,Int.emod_eq_of_lt (by omega) (by omega)]
def mt (m : List (List Int)) (i j : Nat) : Fin p := fp (ent m i j)
theorem dvL_at {q : Nat} {b : Int} {l : List Int} {j : Nat} (hj : j < l.length) : (fp ((dvL p b l).getD j 0) : Fin p) = fp (l.getD j 0) * fp (invP p b) := by
 have e : (dvL p b l).getD j 0 = l.getD j 0 * invP p b % (p : Int) := by simp [dvL,hj]
 rw [e,zkF,zkE]
theorem zII {t : Int} {l o : List Int} {j : Nat} (hj : j < l.length) (hl : o.length = l.length) : (fp ((tkL p t l o).getD j 0) : Fin p) = fp (l.getD j 0) - fp t * fp (o.getD j 0) := by
 unfold tkL
 by_cases h : t = 0
 ·rw [if_pos h,h,zvB];grind
 ·rw [if_neg h]
  have ho : j < o.length := by omega
  have e : (List.zipWith (fun x y => (x + ((p : Int) - t) * y) % (p : Int)) l o).getD j 0 = (l.getD j 0 + ((p : Int) - t) * o.getD j 0) % (p : Int) := by simp [List.getElem?_zipWith,hj,ho]
  rw [e,zkF,zmH,zkE,zlH,fp_p]
  grind
theorem ent_sw {m : List (List Int)} {a b i j : Nat} (ha : a < m.length) (hb : b < m.length) (hi : i < m.length) : ent (swE m a b) i j = ent m (if i = a then b else if i = b then a else i) j := by
 unfold ent swE;rw [rowE_set (by simpa using hb)]
 by_cases h1 : b = i
 ·subst h1
  rw [if_pos rfl]
  by_cases h2 : b = a
  ·subst h2;rw [if_pos rfl]
  ·rw [if_neg h2,if_pos rfl]
 ·rw [if_neg h1,rowE_set ha]
  by_cases h2 : a = i
  ·subst h2;rw [if_pos rfl,if_pos rfl]
  ·rw [if_neg h2,if_neg (fun q => h2 q.symm),if_neg (fun q => h1 q.symm)]
theorem step_rref (hp : IsPr p) {n c r : Nat} {s : St12} (ho : Ok12 p n c r s) (hc : c < n) (h : Rref r c (mt (p := p) s.m) s.pv) :
  Rref r (c + 1) (mt (p := p) (zZB p c s).m) (zZB p c s).pv ∧ Eqv n r (mt (p := p) (zZB p c s).m) (mt (p := p) s.m) := by
 have hp2 := hp.1;have F := zuG hp;have hl := ho.len;unfold zZB
 split
 ·rename_i hf
  rw [List.findIdx?_eq_none_iff] at hf;refine ⟨h.skip fun i hi hir => ?_,Eqv.refl _ _ _⟩;have hm : rowE s.m i ∈ s.m.drop s.pv.length := by
   rw [zPB (by omega)];have : (s.m.drop s.pv.length)[i - s.pv.length]'(by simp;omega) = s.m[i]'(by omega) := by
    rw [List.getElem_drop]
    congr 1
    omega
   rw [← this];exact List.getElem_mem _
  have := hf _ hm;have e : (rowE s.m i).getD c 0 = 0 := by simpa using this
  show fp (ent s.m i c) = 0
  unfold ent;rw [e,zvB]
 ·rename_i k hf
  obtain ⟨hk1,hk2,-⟩ := List.findIdx?_eq_some_iff_getElem.1 hf;rw [List.length_drop] at hk1;have hkn : ent s.m (s.pv.length + k) c ≠ 0 := by
   unfold ent;rw [zPB (by omega)];rw [List.getElem_drop] at hk2
   simpa using hk2
  have hm1 : ∃ m1,(if 0 < k then swE s.m s.pv.length (s.pv.length + k) else s.m) = m1 ∧ WidE n m1 ∧ ResM p m1 ∧ m1.length = r ∧ (∀ i j,i < r → ent m1 i j = ent s.m (if i = s.pv.length then s.pv.length + k else if i = s.pv.length + k then s.pv.length else i) j) := by
   refine ⟨_,rfl,?_,?_,?_,?_⟩
   ·split
    ·exact zuE ho.wid (by omega) (by omega)
    ·exact ho.wid
   ·split
    ·exact zwF ho.res
    ·exact ho.res
   ·split
    ·simp [swE,hl]
    ·exact hl
   ·intro i j hi
    split
    ·exact ent_sw (by omega) (by omega) (by omega)
    ·obtain rfl : k = 0 := by omega
     congr 1
     split
     ·omega
     ·split <;> omega
  obtain ⟨m1,em,w1,r1,l1,e1⟩ := hm1;simp only [em];have hR1 : Rref r c (mt (p := p) m1) s.pv := h.swap (a := s.pv.length) (b := s.pv.length + k) (by omega) (by omega) (by omega) (by omega) (fun i j hi => by unfold mt;rw [e1 i j hi]);have hE1 : Eqv n r (mt (p := p) m1) (mt (p := p) s.m) := by
   have key : ∀ i,i < r → (if i = s.pv.length then s.pv.length + k else if i = s.pv.length + k then s.pv.length else i) < r := fun i hi => by (repeat' split) <;> omega
   refine ⟨Comb.two (f := fun i => if i = s.pv.length then s.pv.length + k else if i = s.pv.length + k then s.pv.length else i) (g := fun i => i) (a := fun _ => 1) (b := fun _ => 0) key (fun i hi => hi) (fun i j hi hj => ?_),Comb.two (f := fun i => if i = s.pv.length then s.pv.length + k else if i = s.pv.length + k then s.pv.length else i) (g := fun i => i) (a := fun _ => 1) (b := fun _ => 0) key (fun i hi => hi) (fun i j hi hj => ?_)⟩
   ·show fp (ent m1 i j) = _
    rw [e1 i j hi]
    show mt s.m _ j = _
    grind
   ·show fp (ent s.m i j) = 1 * fp (ent m1 _ j) + 0 * _
    rw [e1 _ j (key i hi)];have : (if (if i = s.pv.length then s.pv.length + k else if i = s.pv.length + k then s.pv.length else i) = s.pv.length then s.pv.length + k else if (if i = s.pv.length then s.pv.length + k else if i = s.pv.length + k then s.pv.length else i) = s.pv.length + k then s.pv.length else (if i = s.pv.length then s.pv.length + k else if i = s.pv.length + k then s.pv.length else i)) = i := by
     (repeat' split) <;> omega
    rw [this]
    grind
  have ht : s.pv.length < r := by omega
  have hx : ent m1 s.pv.length c ≠ 0 := by rw [e1 _ _ ht,if_pos rfl];exact hkn
  have rx : IsR p (ent m1 s.pv.length c) := (r1.at s.pv.length).getD (by omega) c;obtain ⟨x,hxx⟩ : ∃ x,ent m1 s.pv.length c = x := ⟨_,rfl⟩
  rw [hxx] at hx rx;simp only [hxx];have hy := inv_right hp rx hx;obtain ⟨rt,hrt⟩ : ∃ rt,dvL p x (rowE m1 s.pv.length) = rt := ⟨_,rfl⟩
  simp only [hrt];have lrt : rt.length = n := by rw [← hrt,zKE];exact w1.at (by omega)
  have hrtj : ∀ j,j < n → (fp (rt.getD j 0) : Fin p) = mt m1 s.pv.length j * fp (invP p x) := fun j hj => by
   rw [← hrt,dvL_at (q := p) (by rw [w1.at (by omega)];exact hj)]
   rfl
  have key : ∀ i j,i < r → j < n → (mt (clr p c s.pv.length rt (m1.set s.pv.length rt) m1.length) i j : Fin p) = if i = s.pv.length then mt m1 i j * fp (invP p x) else mt m1 i j - mt m1 i c * (mt m1 s.pv.length j * fp (invP p x)) := fun i j hi hj => by
   have hset : rowE (m1.set s.pv.length rt) i = if s.pv.length = i then rt else rowE m1 i := rowE_set (by omega);unfold mt
   show fp ((rowE (clr p c s.pv.length rt (m1.set s.pv.length rt) m1.length) i).getD j 0) = _
   rw [zfB (by rw [List.length_set];omega)]
   by_cases e : i = s.pv.length
   ·rw [if_pos (.inl e),if_pos e,hset,if_pos e.symm,hrtj j hj,e]
    rfl
   ·rw [if_neg (by omega),if_neg e]
    have he : ent (m1.set s.pv.length rt) i c = ent m1 i c := by
     unfold ent;rw [hset,if_neg (fun q => e q.symm)]
    rw [hset,if_neg (fun q => e q.symm),he,zII (by rw [w1.at (by omega)];exact hj) (by rw [lrt,w1.at (by omega)]),hrtj j hj]
    rfl
  refine ⟨?_,Eqv.trans ?_ hE1⟩
  ·have hc1 := hR1.clear (N := fun i j => if i = s.pv.length then mt m1 i j * fp (invP p x) else mt m1 i j - mt m1 i c * (mt m1 s.pv.length j * fp (invP p x))) ht (y := fp (invP p x)) (by show fp (ent m1 s.pv.length c) * _ = 1;rw [hxx];exact hy) (fun i j hi => rfl)
   exact hc1.congr (n := n) (by omega) key
  ·refine ⟨Comb.two (f := fun i => i) (g := fun _ => s.pv.length) (a := fun i => if i = s.pv.length then fp (invP p x) else 1) (b := fun i => if i = s.pv.length then 0 else -(mt m1 i c * fp (invP p x))) (fun i hi => hi) (fun _ _ => ht) (fun i j hi hj => ?_),Comb.two (f := fun i => i) (g := fun _ => s.pv.length) (a := fun i => if i = s.pv.length then fp x else 1) (b := fun i => if i = s.pv.length then 0 else mt m1 i c) (fun i hi => hi) (fun _ _ => ht) (fun i j hi hj => ?_)⟩
   ·rw [key i j hi hj]
    by_cases e : i = s.pv.length
    ·simp only [e,if_true];grind
    ·simp only [e,if_false];grind
   ·rw [key i j hi hj,key s.pv.length j ht hj]
    by_cases e : i = s.pv.length
    ·subst e
     simp only [if_true];have : (fp x : Fin p) * fp (invP p x) = 1 := hy
     grind
    ·simp only [e,if_false,if_true];grind
theorem zyC (hp : IsPr p) {n r : Nat} {m : List (List Int)} (hw : WidE n m) (hr : ResM p m) (hl : m.length = r) : ∀ c,c ≤ n → Rref r c (mt (p := p) (zXA p m c).m) (zXA p m c).pv ∧ Eqv n r (mt (p := p) (zXA p m c).m) (mt (p := p) m)
 | 0,_ => ⟨Rref.start _ _,Eqv.refl _ _ _⟩
 | c + 1,h => by
  obtain ⟨h1,h2⟩ := zyC hp hw hr hl c (by omega);obtain ⟨h3,h4⟩ := step_rref hp (Ok12.red hp.1 hw hr hl c) (by omega) h1;exact ⟨h3,h4.trans h2⟩
end Go.Proofs.YtkklldokdnfkgaaGreat
