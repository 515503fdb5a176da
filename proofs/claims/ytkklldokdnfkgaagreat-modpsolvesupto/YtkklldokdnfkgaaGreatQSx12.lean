import Derived.Test.YtkklldokdnfkgaaGreatQRm12ToTailL
import Derived.Test.YtkklldokdnfkgaaGreatQVm12
set_option maxRecDepth 100000
set_option maxHeartbeats 6400000
set_option linter.unusedVariables false
set_option linter.unusedSimpArgs false
namespace Go.Proofs.YtkklldokdnfkgaaGreat
def slR (p : Nat) (S : St12) (b0 : List Int) : Nat → List Int
 | 0 => b0
 | i + 1 => tkL p ((slR p S b0 i).getD (S.pv.getD i 0) 0) (slR p S b0 i) (rowE S.m i)
def slB (p r : Nat) (bs : List Int) : List Int := resL p bs ++ List.replicate r 0
def slE (p r c : Nat) (zs bs : List Int) : List Int := slR p (wkS p r c zs) (slB p r bs) (wkR p r c zs)
def slX (p r c : Nat) (zs bs : List Int) : List Int := ((slE p r c zs bs).drop c).map fun x => ((p : Int) - x) % (p : Int)
theorem zBG {p r c : Nat} {bs : List Int} (hb : bs.length = c) : (slB p r bs).length = c + r := by simp [slB,resL,hb]
theorem zTH {p r : Nat} (hp : 0 < p) (bs : List Int) : Res p (slB p r bs) := fun x hx => by
 rcases List.mem_append.1 hx with q | q
 ·exact zfG hp bs x q
 ·rw [List.eq_of_mem_replicate q];exact ⟨by omega,by omega⟩
theorem zZG {p r c j : Nat} {bs : List Int} [NeZero p] (hj : j < c) (hb : bs.length = c) : (fp ((slB p r bs).getD j 0) : Fin p) = fp (bs.getD j 0) := by
 have e : (slB p r bs).getD j 0 = bs.getD j 0 % (p : Int) := by
  unfold slB;rw [List.getD_eq_getElem?_getD,List.getElem?_append_left (by rw [ztB,hb];exact hj)];simp [resL,hb,hj]
 rw [e,zkF]
theorem zvE {p N r : Nat} {S : St12} {b0 : List Int} (h0 : b0.length = N) (hw : WidE N S.m) (hl : S.m.length = r) : ∀ i,i ≤ r → (slR p S b0 i).length = N
 | 0,_ => h0
 | i + 1,h => by
  have e := zvE (p := p) h0 hw hl i (by omega)
  show (tkL p _ (slR p S b0 i) (rowE S.m i)).length = N
  rw [zuD p _ (by rw [e,hw.at (by omega)]),e]
theorem zyF {p : Nat} (hp : 0 < p) {S : St12} {b0 : List Int} (h0 : Res p b0) : ∀ i,Res p (slR p S b0 i)
 | 0 => h0
 | i + 1 => zNH hp (zyF hp h0 i)
section
variable {p : Nat} [NeZero p]
theorem zSH {N r : Nat} {S : St12} {b0 : List Int} (h0 : b0.length = N) (hw : WidE N S.m) (hl : S.m.length = r) (hR : Rref r N (mt (p := p) S.m) S.pv) : ∀ i,i ≤ S.pv.length → ∀ j,j < N → (fp ((slR p S b0 i).getD j 0) : Fin p) = fp (b0.getD j 0) - vm i (fun k => fp (b0.getD (S.pv.getD k 0) 0)) (mt (p := p) S.m) j
 | 0,_,j,hj => by
  show (fp (b0.getD j 0) : Fin p) = _
  unfold vm;rw [sm]
  grind
 | i + 1,hi,j,hj => by
  have hlen := hR.len;have at_ : ∀ t,t < S.pv.length → S.pv[t]? = some (S.pv.getD t 0) := fun t ht => by simp [ht]
  have hpl := hR.lt i _ (at_ i (by omega));have el := zvE (p := p) h0 hw hl i (by omega);have e1 := zSH h0 hw hl hR i (by omega) j hj;have e2 := zSH h0 hw hl hR i (by omega) (S.pv.getD i 0) hpl
  show (fp ((tkL p ((slR p S b0 i).getD (S.pv.getD i 0) 0) (slR p S b0 i) (rowE S.m i)).getD j 0) : Fin p) = _
  rw [zII (by rw [el];exact hj) (by rw [el];exact hw.at (by omega)),e1,e2];have z : vm i (fun k => fp (b0.getD (S.pv.getD k 0) 0)) (mt (p := p) S.m) (S.pv.getD i 0) = 0 := by
   unfold vm;refine zhB fun k hk => ?_
   rw [hR.one i _ k (at_ i (by omega)) (by omega)];unfold dlt;rw [if_neg (by omega)]
   grind
  rw [z];unfold vm;rw [sm]
  show _ = (fp (b0.getD j 0) : Fin p) - (_ + _)
  have e3 : (fp ((rowE S.m i).getD j 0) : Fin p) = mt (p := p) S.m i j := rfl;rw [e3]
  grind
end
theorem zNE {x : Nat} : ∀ {l : List Nat} {i : Nat},l.Pairwise (· < ·) → i < cntB l x → l.getD i 0 < x
 | [],i,_,h => by simp [cntB] at h
 | b :: l,i,hp,h => by
  obtain ⟨h1,h2⟩ := List.pairwise_cons.1 hp
  by_cases q : b < x
  ·cases i with
   | zero => simpa using q
   | succ i =>
    have : i < cntB l x := by
     unfold cntB at h ⊢;rw [List.countP_cons] at h;simp [q] at h;exact h
    simpa using zNE h2 this
  ·exfalso
   unfold cntB at h;have e : (b :: l).countP (· < x) = 0 := by
    rw [List.countP_eq_zero];intro a ha;rcases List.mem_cons.1 ha with rfl | ha
    ·simpa using q
    ·have := h1 a ha
     simp;omega
   rw [e] at h;omega
section
variable {p : Nat} [NeZero p]
theorem zqB (hp : IsPr p) {r c : Nat} {zs : List Int} (hl : zs.length = r * c) {k j : Nat} (hk : k < r) (hj : j < c) : (mt (zDB r (zLA p r c zs)) k j : Fin p) = mz c zs k j := by
 rw [← zgD hl hk hj];unfold mt ent
 congr 1
 have e : rowE (zDB r (zLA p r c zs)) k = rowE (zLA p r c zs) k ++ uniR r k := by unfold rowE;rw [List.getD_eq_getElem?_getD,zeD hk];rfl
 rw [e];have hlen := (zWA (p := p) hl).at (i := k) (by rw [zPA];exact hk);simp [List.getElem?_append_left (show j < (rowE (zLA p r c zs) k).length by omega)]
theorem zMF (hp : IsPr p) {r c : Nat} {zs : List Int} (hl : zs.length = r * c) {i j : Nat} (hi : i < r) (hj : j < c) : mt (p := p) (wkS p r c zs).m i j = vm r (fun t => mt (p := p) (wkS p r c zs).m i (c + t)) (mz c zs) j := by
 obtain ⟨h1,h2⟩ := zNB hp hl;obtain ⟨X,hX⟩ := h2.1;rw [hX i j hi (by omega)];refine zKB (fun t ht => ?_) fun k hk => zqB hp hl hk hj
 rw [hX i (c + t) hi (by omega)];unfold vm;rw [zUD ht (fun k hk hne => by rw [zHC hp hl hk ht];unfold dlt;rw [if_neg hne];grind),zHC hp hl ht ht];unfold dlt;rw [if_pos rfl]
 grind
theorem zrC (hp : IsPr p) {r c : Nat} {zs : List Int} (hl : zs.length = r * c) : wkR p r c zs ≤ (wkS p r c zs).pv.length ∧ (∀ t,t < wkR p r c zs → (wkS p r c zs).pv.getD t 0 < c) ∧ ∀ t,wkR p r c zs ≤ t → t < r → c ≤ (wkS p r c zs).pv.getD t 0 := by
 have hf := zOB hp hl;have hst := zqC hp hl;have hle : wkR p r c zs ≤ (wkS p r c zs).pv.length := zNC _ _;refine ⟨hle,fun t ht => ?_,fun t h1 h2 => ?_⟩
 ·exact zNE hst ht
 ·have e : (wkS p r c zs).pv[t]? = some ((wkS p r c zs).pv.getD t 0) := by simp [show t < (wkS p r c zs).pv.length by rw [hf];exact h2]
  exact zPD (x := c) hst e h1
theorem zKI (hp : IsPr p) {r c : Nat} {zs bs : List Int} (hl : zs.length = r * c) (hb : bs.length = c) {j : Nat} (hj : j < c + r) :
  (fp ((slE p r c zs bs).getD j 0) : Fin p) = fp ((slB p r bs).getD j 0) - vm (wkR p r c zs) (fun k => fp (bs.getD ((wkS p r c zs).pv.getD k 0) 0)) (mt (p := p) (wkS p r c zs).m) j := by
 have hp1 := hp.1;have ho := zUE (p := p) (c := c) (r := r) hp1 hl;obtain ⟨q1,q2,q3⟩ := zrC hp hl;unfold slE;rw [zSH (zBG hb) ho.wid ho.len (zNB hp hl).1 _ q1 j hj]
 congr 1
 refine zKB (fun k hk => ?_) fun _ _ => rfl
 exact zZG (q2 k hk) hb
theorem zwE (hp : IsPr p) {r c : Nat} {zs bs : List Int} (hl : zs.length = r * c) (hb : bs.length = c) {j : Nat} (hj : j < c) :
  (fp ((slE p r c zs bs).getD j 0) : Fin p) = fp (bs.getD j 0) - vm (wkR p r c zs) (fun k => fp (bs.getD ((wkS p r c zs).pv.getD k 0) 0)) (mt (p := p) (wkS p r c zs).m) j := by
 rw [zKI hp hl hb (by omega),zZG hj hb]
theorem slE_right (hp : IsPr p) {r c : Nat} {zs bs : List Int} (hl : zs.length = r * c) (hb : bs.length = c) {t : Nat} (ht : t < r) :
  (fp ((slE p r c zs bs).getD (c + t) 0) : Fin p) = 0 - vm (wkR p r c zs) (fun k => fp (bs.getD ((wkS p r c zs).pv.getD k 0) 0)) (mt (p := p) (wkS p r c zs).m) (c + t) := by
 rw [zKI hp hl hb (by omega)];have e : (slB p r bs).getD (c + t) 0 = 0 := by
  unfold slB;rw [List.getD_eq_getElem?_getD,List.getElem?_append_right (by rw [ztB,hb];omega),ztB,hb,Nat.add_sub_cancel_left];simp [ht]
 rw [e,zvB]
omit [NeZero p] in
theorem zAG (hp : IsPr p) {r c : Nat} {zs bs : List Int} (hl : zs.length = r * c) (hb : bs.length = c) : (slE p r c zs bs).length = c + r := by
 have ho := zUE (p := p) (c := c) (r := r) hp.1 hl;exact zvE (zBG hb) ho.wid ho.len _ (Nat.le_trans (zNC _ _) ho.piv)
omit [NeZero p] in
theorem zzF (hp : IsPr p) (r c : Nat) (zs bs : List Int) : Res p (slE p r c zs bs) := zyF (by have := hp.1;omega) (zTH (by have := hp.1;omega) bs) _
omit [NeZero p] in
theorem zRH (hp : IsPr p) {r c : Nat} {zs bs : List Int} (hl : zs.length = r * c) (hb : bs.length = c) : (slX p r c zs bs).length = r := by simp [slX,zAG hp hl hb]
omit [NeZero p] in
theorem zxF (hp : IsPr p) (r c : Nat) (zs bs : List Int) : Res p (slX p r c zs bs) := fun x hx => by
 obtain ⟨y,_,rfl⟩ := List.mem_map.1 hx;exact zxB (by have := hp.1;omega) _
theorem zJI (hp : IsPr p) {r c : Nat} {zs bs : List Int} (hl : zs.length = r * c) (hb : bs.length = c) {t : Nat} (ht : t < r) :
  (fp ((slX p r c zs bs).getD t 0) : Fin p) = vm (wkR p r c zs) (fun k => fp (bs.getD ((wkS p r c zs).pv.getD k 0) 0)) (mt (p := p) (wkS p r c zs).m) (c + t) := by
 have el := zAG hp hl hb;have e : (slX p r c zs bs).getD t 0 = ((p : Int) - (slE p r c zs bs).getD (c + t) 0) % (p : Int) := by
  unfold slX;simp [List.getD_eq_getElem?_getD,List.getElem?_drop,show c + t < (slE p r c zs bs).length by omega]
 rw [e,zkF,zlH,fp_p,slE_right hp hl hb ht]
 grind
theorem slX_mul (hp : IsPr p) {r c : Nat} {zs bs : List Int} (hl : zs.length = r * c) (hb : bs.length = c) (h0 : ∀ j,j < c → (slE p r c zs bs).getD j 0 = 0) {j : Nat} (hj : j < c) :
  (vmF c (slX p r c zs bs) zs j r - bs.getD j 0) % (p : Int) = 0 := by
 have ho := zUE (p := p) (c := c) (r := r) hp.1 hl;have hkr : wkR p r c zs ≤ r := Nat.le_trans (zNC _ _) ho.piv;have e0 := zwE hp hl hb hj;rw [h0 j hj,zvB] at e0;have e1 : (fp (vmF c (slX p r c zs bs) zs j r) : Fin p) = vm r (fun t => fp ((slX p r c zs bs).getD t 0)) (mz (p := p) c zs) j := by
  unfold vmF;rw [zZI];unfold vm;exact zUA fun k hk => by rw [zkE];rfl
 have e2 : vm r (fun t => fp ((slX p r c zs bs).getD t 0)) (mz (p := p) c zs) j = vm (wkR p r c zs) (fun k => fp (bs.getD ((wkS p r c zs).pv.getD k 0) 0)) (mt (p := p) (wkS p r c zs).m) j := by
  rw [zKB (y := vm (wkR p r c zs) (fun k => fp (bs.getD ((wkS p r c zs).pv.getD k 0) 0)) (fun k t => mt (p := p) (wkS p r c zs).m k (c + t))) (B := mz (p := p) c zs) (fun t ht => zJI hp hl hb ht) (fun _ _ => rfl),ztC];exact zKB (fun _ _ => rfl) fun k hk => (zMF hp hl (by omega) hj).symm
 have e3 : (fp (vmF c (slX p r c zs bs) zs j r - bs.getD j 0) : Fin p) = 0 := by
  rw [zlH,e1,e2]
  grind
 rw [← zvB] at e3;have := zGG.1 e3
 simpa using this
theorem slX_piv (hp : IsPr p) {r c : Nat} {zs bs : List Int} (hl : zs.length = r * c) (hb : bs.length = c) {s : Nat} (h1 : wkR p r c zs ≤ s) (h2 : s < r) : (slX p r c zs bs).getD ((wkS p r c zs).pv.getD s 0 - c) 0 = 0 := by
 obtain ⟨q1,q2,q3⟩ := zrC hp hl;obtain ⟨g1,g2⟩ := zNB hp hl;have hf := zOB hp hl;have at_ : (wkS p r c zs).pv[s]? = some ((wkS p r c zs).pv.getD s 0) := by simp [show s < (wkS p r c zs).pv.length by omega]
 have hlt := g1.lt s _ at_;have hc := q3 s h1 h2;refine (zYC (p := p) ((zxF hp r c zs bs).getD (by have := hp.1;omega) _)).1 ?_;rw [zJI hp hl hb (by omega),show c + ((wkS p r c zs).pv.getD s 0 - c) = (wkS p r c zs).pv.getD s 0 by omega];unfold vm;refine zhB fun k hk => ?_
 rw [g1.one s _ k at_ (by omega)];unfold dlt;rw [if_neg (by omega)]
 grind
theorem slE_yes (hp : IsPr p) {r c : Nat} {zs bs ys : List Int} (hl : zs.length = r * c) (hb : bs.length = c) (hy : ∀ j,j < c → bs.getD j 0 = vmF c ys zs j r) {j : Nat} (hj : j < c) : (slE p r c zs bs).getD j 0 = 0 := by
 obtain ⟨q1,q2,q3⟩ := zrC hp hl;obtain ⟨g1,g2⟩ := zNB hp hl;have hf := zOB hp hl;obtain ⟨V,hV⟩ := g2.2;have at_ : ∀ s,s < r → (wkS p r c zs).pv[s]? = some ((wkS p r c zs).pv.getD s 0) := fun s hs => by simp [show s < (wkS p r c zs).pv.length by omega]
 refine (zYC (p := p) ((zzF hp r c zs bs).getD (by have := hp.1;omega) _)).1 ?_;rw [zwE hp hl hb hj];have hv : ∀ j,j < c + r → vm r (fun t => fp (ys.getD t 0)) (mt (p := p) (zDB r (zLA p r c zs))) j = vm r (vm r (fun t => fp (ys.getD t 0)) V) (mt (p := p) (wkS p r c zs).m) j := fun j hj => by
  rw [ztC];exact zKB (fun _ _ => rfl) fun k hk => hV k j hk hj
 have hw : ∀ j,j < c → vm r (fun t => fp (ys.getD t 0)) (mt (p := p) (zDB r (zLA p r c zs))) j = fp (bs.getD j 0) := fun j hj => by
  rw [hy j hj];unfold vmF;rw [zZI];unfold vm;exact zUA fun k hk => by rw [zkE,zqB hp hl hk hj];rfl
 have e := g1.coords (v := vm r (fun t => fp (ys.getD t 0)) (mt (p := p) (zDB r (zLA p r c zs)))) hv (j := j) (by omega);rw [hw j hj,hf] at e;rw [e];have e2 : vm r (fun t => vm r (fun t => fp (ys.getD t 0)) (mt (p := p) (zDB r (zLA p r c zs))) ((wkS p r c zs).pv.getD t 0)) (mt (p := p) (wkS p r c zs).m) j = vm (wkR p r c zs) (fun k => fp (bs.getD ((wkS p r c zs).pv.getD k 0) 0)) (mt (p := p) (wkS p r c zs).m) j := by
  unfold vm;rw [zYE (r := wkR p r c zs) (by omega) fun k h1 h2 => by rw [g1.low k _ j (at_ k h2) (by have := q3 k h1 h2;omega)];grind];refine zUA fun k hk => ?_
  show vm r (fun t => fp (ys.getD t 0)) (mt (p := p) (zDB r (zLA p r c zs))) ((wkS p r c zs).pv.getD k 0) * _ = _
  rw [hw _ (q2 k hk)]
 rw [e2]
 grind
theorem slE_rank (hp : IsPr p) {r c : Nat} {zs bs : List Int} (hl : zs.length = r * c) (hb : bs.length = c) {j0 : Nat} (hj0 : j0 < c) (hne : (slE p r c zs bs).getD j0 0 ≠ 0) :
  (zXA p (zLA p (r + 1) c (zs ++ bs)) c).pv.length = (zXA p (zLA p r c zs) c).pv.length + 1 := by
 have F := zuG hp;obtain ⟨q1,q2,q3⟩ := zrC hp hl;obtain ⟨g1,g2⟩ := zNB hp hl;have hf := zOB hp hl;have hl' : (zs ++ bs).length = (r + 1) * c := by rw [List.length_append,hl,hb,Nat.add_mul,Nat.one_mul]
 obtain ⟨f1,f2⟩ := znH hp hl';have hkr : wkR p r c zs ≤ r := Nat.le_trans q1 (Nat.le_of_eq hf);rw [← zRG hp hl];have up : ∀ i j,i < r → j < c → mz (p := p) c (zs ++ bs) i j = mz c zs i j := fun i j hi hj => by
  unfold mz;have hx : i * c + j < zs.length := by
   rw [hl];have := Nat.mul_le_mul_right c (show i + 1 ≤ r by omega);rw [Nat.add_mul] at this;omega
  rw [List.getD_eq_getElem?_getD,List.getElem?_append_left hx,← List.getD_eq_getElem?_getD]
 have low : ∀ j,j < c → mz (p := p) c (zs ++ bs) r j = fp (bs.getD j 0) := fun j hj => by
  unfold mz;rw [List.getD_eq_getElem?_getD,List.getElem?_append_right (by rw [hl];omega),hl,Nat.add_sub_cancel_left,← List.getD_eq_getElem?_getD]
 generalize hS : wkS p r c zs = S at *;generalize hR : wkR p r c zs = R at *;have at_ : ∀ s,s < r → S.pv[s]? = some (S.pv.getD s 0) := fun s hs => by simp [show s < S.pv.length by omega]
 have M : ∀ i j,i < r → j < c → mt (p := p) S.m i j = vm r (fun t => mt (p := p) S.m i (c + t)) (mz c zs) j := fun i j hi hj => by
  have := zMF hp hl hi hj
  rwa [hS] at this
 have L : ∀ j,j < c → (fp ((slE p r c zs bs).getD j 0) : Fin p) = fp (bs.getD j 0) - vm R (fun k => fp (bs.getD (S.pv.getD k 0) 0)) (mt (p := p) S.m) j := fun j hj => by
  have := zwE hp hl hb hj
  rwa [hS,hR] at this
 -- the rows of the matrix by the lines
 have A : ∀ i j,i < r → j < c → mz (p := p) c zs i j = vm R (fun k => mz (p := p) c zs i (S.pv.getD k 0)) (mt (p := p) S.m) j := fun i j hi hj => by
  obtain ⟨V,hV⟩ := g2.2;have e := g1.coords (v := mt (p := p) (zDB r (zLA p r c zs)) i) (x := V i) (fun j hj => hV i j hi hj) (j := j) (by omega);rw [zqB hp hl hi hj,hf] at e;rw [e];unfold vm;rw [zYE (r := R) (by omega) fun k h1 h2 => by rw [g1.low k _ j (at_ k h2) (by have := q3 k h1 h2;omega)];grind];exact zUA fun k hk => by show mt (p := p) (zDB r (zLA p r c zs)) i (S.pv.getD k 0) * _ = _;rw [zqB hp hl hi (q2 k hk)]
 refine Nat.le_antisymm ?_ ?_
 ·refine f1.rank_le F (r := R + 1) (Y := fun k j => if k < R then mt (p := p) S.m k j else fp (bs.getD j 0)) (f2.1.trans ⟨fun i k => if i < r then (if k < R then mz (p := p) c zs i (S.pv.getD k 0) else 0) else (if k < R then 0 else 1),fun i j hi hj => ?_⟩)
  by_cases hi' : i < r
  ·rw [up i j hi' hj,A i j hi' hj]
   unfold vm;rw [sm];simp only [if_pos hi',if_neg (Nat.lt_irrefl R)];rw [zUA (f := fun k => (if k < R then mz (p := p) c zs i (S.pv.getD k 0) else 0) * (if k < R then mt (p := p) S.m k j else fp (bs.getD j 0))) (g := fun k => mz (p := p) c zs i (S.pv.getD k 0) * mt (p := p) S.m k j) fun k hk => by rw [if_pos hk,if_pos hk]]
   grind
  ·obtain rfl : i = r := by omega
   rw [low j hj];unfold vm;rw [sm];simp only [if_neg hi',if_neg (Nat.lt_irrefl R)];rw [zhB fun k hk => by rw [if_pos hk];grind]
   grind
 ·-- lines and what is left, cleared
  obtain ⟨y,hy⟩ := F.1 (fp ((slE p r c zs bs).getD j0 0)) (fun e => hne ((zYC (p := p) ((zzF hp r c zs bs).getD (by have := hp.1;omega) _)).1 e));obtain ⟨rho,hrho⟩ : ∃ rho : Nat → Fin p,∀ j,fp ((slE p r c zs bs).getD j 0) = rho j := ⟨_,fun _ => rfl⟩
  rw [hrho] at hy;have Lr : ∀ j,j < c → rho j = fp (bs.getD j 0) - vm R (fun k => fp (bs.getD (S.pv.getD k 0) 0)) (mt (p := p) S.m) j := fun j hj => by rw [← hrho];exact L j hj
  have rz : ∀ t,t < R → rho (S.pv.getD t 0) = 0 := fun t ht => by
   rw [Lr _ (q2 t ht)];unfold vm;rw [zUD ht (fun k hk hne => by rw [g1.one t _ k (at_ t (by omega)) (by omega)];unfold dlt;rw [if_neg hne];grind),g1.one t _ t (at_ t (by omega)) (by omega)];unfold dlt;rw [if_pos rfl]
   grind
  -- the combinations of the stacked rows
  have hC : Comb c (R + 1) (r + 1) (fun i j => if i < R then mt (p := p) S.m i j - mt (p := p) S.m i j0 * y * rho j else y * rho j) (mz (p := p) c (zs ++ bs)) := by
   obtain ⟨C,hC⟩ : ∃ C : Nat → Fin p,∀ t,vm R (fun k => fp (bs.getD (S.pv.getD k 0) 0)) (mt (p := p) S.m) (c + t) = C t := ⟨_,fun _ => rfl⟩
   have e2 : ∀ j,j < c → vm R (fun k => fp (bs.getD (S.pv.getD k 0) 0)) (mt (p := p) S.m) j = sm r (fun t => C t * mz (p := p) c zs t j) := fun j hj => by
    have h1 := ztC R r (fun k => fp (bs.getD (S.pv.getD k 0) 0)) (fun k t => mt (p := p) S.m k (c + t)) (mz (p := p) c zs) j;have h2 : vm r (vm R (fun k => fp (bs.getD (S.pv.getD k 0) 0)) (fun k t => mt (p := p) S.m k (c + t))) (mz (p := p) c zs) j = sm r (fun t => C t * mz (p := p) c zs t j) := zUA fun t ht => by
     show vm R (fun k => fp (bs.getD (S.pv.getD k 0) 0)) (mt (p := p) S.m) (c + t) * _ = _
     rw [hC]
    rw [← h2,h1];exact zKB (fun _ _ => rfl) fun k hk => M k j (by omega) hj
   have hm : Comb c (R + 1) (r + 1) (fun i j => if i < R then mt (p := p) S.m i j else rho j) (mz (p := p) c (zs ++ bs)) := by
    refine ⟨fun i k => if i < R then (if k < r then mt (p := p) S.m i (c + k) else 0) else (if k < r then - C k else 1),fun i j hi hj => ?_⟩;unfold vm;rw [sm]
    show _ = _ + _ * mz (p := p) c (zs ++ bs) r j
    rw [low j hj]
    by_cases hi' : i < R
    ·simp only [if_pos hi',if_neg (Nat.lt_irrefl r)]
     rw [M i j (by omega) hj];unfold vm;rw [zUA (f := fun k => (if k < r then mt (p := p) S.m i (c + k) else 0) * mz (p := p) c (zs ++ bs) k j) (g := fun k => mt (p := p) S.m i (c + k) * mz c zs k j) fun k hk => by rw [if_pos hk,up k j hk hj]]
     grind
    ·simp only [if_neg hi',if_neg (Nat.lt_irrefl r)]
     rw [Lr j hj,e2 j hj];rw [zUA (f := fun k => (if k < r then - C k else 1) * mz (p := p) c (zs ++ bs) k j) (g := fun t => (-1) * (C t * mz (p := p) c zs t j)) fun k hk => by rw [if_pos hk,up k j hk hj];grind,zxD]
     grind
   refine Comb.trans ?_ hm;refine ⟨fun i k => if i < R then dlt i k - (if k < R then 0 else mt (p := p) S.m i j0 * y) else (if k < R then 0 else y),fun i j hi hj => ?_⟩;unfold vm;rw [sm]
   by_cases hi' : i < R
   ·simp only [if_pos hi',if_neg (Nat.lt_irrefl R)]
    rw [zUD (i := i) hi' fun k hk hne => by rw [if_pos hk,if_pos hk];unfold dlt;rw [if_neg (fun q => hne q.symm)];grind];simp only [if_pos hi'];unfold dlt;rw [if_pos rfl,if_neg (by omega)]
    grind
   ·simp only [if_neg hi',if_neg (Nat.lt_irrefl R)]
    rw [zhB fun k hk => by rw [if_pos hk];grind]
    grind
  obtain ⟨Z,hZ⟩ := hC.trans f2.2;have f1l := f1.len;refine zoH F (Z := Z) (Y := fun k t => mt (p := p) (zXA p (zLA p (r + 1) c (zs ++ bs)) c).m k (if t < R then S.pv.getD t 0 else j0)) fun i t hi ht => ?_
  have hcol : (if t < R then S.pv.getD t 0 else j0) < c := by
   split
   ·exact q2 t (by assumption)
   ·exact hj0
  have e := hZ i _ hi hcol;unfold vm at e ⊢;rw [zYE f1l fun k h1 h2 => by rw [f1.zer k _ h1 h2 hcol];grind] at e;rw [← e]
  by_cases hi' : i < R
  ·simp only [if_pos hi']
   by_cases ht' : t < R
   ·simp only [if_pos ht']
    rw [rz t ht',g1.one t _ i (at_ t (by omega)) (by omega)]
    grind
   ·simp only [if_neg ht']
    unfold dlt;rw [if_neg (by omega)]
    grind
  ·simp only [if_neg hi']
   by_cases ht' : t < R
   ·simp only [if_pos ht']
    rw [rz t ht'];unfold dlt;rw [if_neg (by omega)]
    grind
   ·simp only [if_neg ht']
    unfold dlt;rw [if_pos (by omega)]
    grind
end
end Go.Proofs.YtkklldokdnfkgaaGreat
