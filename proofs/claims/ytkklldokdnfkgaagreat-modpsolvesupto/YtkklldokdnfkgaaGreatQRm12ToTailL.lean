/-
 QRm12ToTailL: Rm12, De12, Sa12, Tn12, Dr12, Kp12, TailL, joined.
-/
import Derived.Test.YtkklldokdnfkgaaGreatQKe12ToDWords
import Derived.Test.YtkklldokdnfkgaaGreatQR5Add
import Derived.Test.YtkklldokdnfkgaaGreatQFil9ToCat9
import Derived.Test.YtkklldokdnfkgaaGreatQRs12ToTailA
import Derived.Test.YtkklldokdnfkgaaGreatQDim12ToBr12

set_option maxRecDepth 100000
set_option maxHeartbeats 6400000
set_option linter.unusedVariables false
set_option linter.unusedSimpArgs false
namespace Go.Proofs.YtkklldokdnfkgaaGreat
open Go.RowKit
theorem Cel.ty12 {T T' : TypeId} {w w' : World} {b : Nat} {L : List Value} (h : Cel w b T L) (ht : Ty T' w w') (hT : T ≠ T') : Cel w' b T L := ht.2 b _ _ _ h hT
theorem Duo.ty12 {w : World} {b : Nat} {x y : Value} (d : Duo w b x y) (u u' : Value) : Ty 44 w ((w.setCell ⟨b,0,none⟩ u).setCell ⟨b,1,none⟩ u') :=
 (Ty.set (show Cel w b 44 [x,y] from d)).trans (Ty.set (show Cel _ b 44 [u,y] from d.set0 u))
theorem Arr.ty12 {w : World} {g t : Nat} {ps : List (Value × Value)} (h : Arr w g ps) (x y : Value) : Ty 44 w ((w.setCell ⟨g,t * 2,none⟩ x).setCell ⟨g,t * 2 + 1,none⟩ y) :=
 (Ty.set h.1).trans (Ty.set (h.1.set _ _))
theorem zJC {r c i j : Nat} (hi : i < r) (hj : j < c) : i * c + j < r * c := by
 have : (i + 1) * c ≤ r * c := Nat.mul_le_mul_right c hi;rw [Nat.succ_mul] at this;omega
theorem Prs.isI12 {B : Nat} {w : World} {v : Value} {ps : List (Value × Value)} {zs : List Int} {k t : Nat} (h : Prs B w v ps) (hz : Zis w ps zs k) (ht : t < zs.length) : ∃ b off cap n a l c,v = .slice (some ⟨b,off,none⟩) zs.length cap ∧ w.cell? ⟨b,off + t * 2,none⟩ = some (.bool n) ∧ w.cell? ⟨b,off + t * 2 + 1,none⟩ = some (.slice a l c) ∧ Zi w (.agg #[.bool n,.slice a l c]) (zs.getD t 0) k := by
 obtain ⟨a0,c0,rfl,h2,h3,h4,h5⟩ := h.form;obtain ⟨b,off,rfl,-⟩ := h5 (fun e => by have := hz.1;rw [e] at this;simp at this;omega);have hp : ps[t]? = some (ps[t]'(by have := hz.1;omega)) := List.getElem?_eq_getElem (by have := hz.1;omega);have hq : zs[t]? = some (zs[t]) := List.getElem?_eq_getElem ht;have h6 := hz.2 t _ _ hp hq;obtain ⟨n,a,l,c,e⟩ := h6.isI;have h7 := h.at hp;have e' : ps[t]'(by have := hz.1;omega) = (.bool n,.slice a l c) := e;rw [e'] at h6 h7;refine ⟨b,off,c0,n,a,l,c,by rw [hz.1],h7.1,h7.2,?_⟩;have : zs.getD t 0 = zs[t] := by simp [ht]
 rw [this];exact h6
end Go.Proofs.YtkklldokdnfkgaaGreat
namespace Go.Proofs.YtkklldokdnfkgaaGreat
section
variable {p : Nat} [NeZero p]
end
open Go.RowKit
theorem zGF {n : Nat} : ∀ {ls : List (List Int)} {i j : Nat},WidE n ls → i < ls.length → j < n → ls.flatten.getD (i * n + j) 0 = ent ls i j
 | [],i,j,_,hi,_ => by simp at hi
 | l :: ls,0,j,hw,_,hj => by
  have hl : l.length = n := hw l (by simp);have e : (l :: ls).flatten = l ++ ls.flatten := rfl;rw [e,Nat.zero_mul,Nat.zero_add];simp [ent,rowE,List.getElem?_append_left (show j < l.length by omega)]
 | l :: ls,i + 1,j,hw,hi,hj => by
  have hl : l.length = n := hw l (by simp);have e : (l :: ls).flatten = l ++ ls.flatten := rfl;have ih := zGF (ls := ls) (i := i) (j := j) (fun x hx => hw x (by simp [hx])) (by simpa using hi) hj;have e2 : ent (l :: ls) (i + 1) j = ent ls i j := by simp [ent,rowE]
  rw [e2,← ih,e];simp only [List.getD_eq_getElem?_getD];rw [List.getElem?_append_right (by rw [hl,Nat.succ_mul];omega)]
  congr 2
  rw [hl,Nat.succ_mul];omega
theorem ent_lines {p r c i j : Nat} {zs : List Int} (hl : zs.length = r * c) (hi : i < r) (hj : j < c) : ent (zLA p r c zs) i j = zs.getD (i * c + j) 0 % (p : Int) := by
 have h1 := zGF (n := c) (i := i) (j := j) (zWA (p := p) hl) (by rw [zPA];exact hi) hj;rw [← h1,linesL_flat hl];have hlt : i * c + j < zs.length := by rw [hl];exact zJC hi hj
 simp [resL,hlt]
section
variable {p : Nat} [NeZero p]
theorem zZI : ∀ (n : Nat) (f : Nat → Int),(fp (su n f) : Fin p) = sm n fun k => fp (f k)
 | 0,f => zvB
 | n + 1,f => by
  show fp (su n f + f n) = sm n _ + fp (f n)
  rw [zmH,zZI n f]
def mz (c : Nat) (zs : List Int) (i j : Nat) : Fin p := fp (zs.getD (i * c + j) 0)
theorem zgD {r c i j : Nat} {zs : List Int} (hl : zs.length = r * c) (hi : i < r) (hj : j < c) : (mt (zLA p r c zs) i j : Fin p) = mz c zs i j := by
 unfold mt mz;rw [ent_lines hl hi hj,zkF]
theorem znH (hp : IsPr p) {r c : Nat} {zs : List Int} (hl : zs.length = r * c) : Rref r c (mt (p := p) (zXA p (zLA p r c zs) c).m) (zXA p (zLA p r c zs) c).pv ∧ Eqv c r (mt (p := p) (zXA p (zLA p r c zs) c).m) (mz c zs) := by
 have hp2 := hp.1;obtain ⟨h1,h2⟩ := zyC hp (zWA (p := p) hl) (zhA (by omega)) (zPA _ _ _ _) c (Nat.le_refl _);refine ⟨h1,h2.trans ?_⟩;refine ⟨⟨dlt,fun i j hi hj => ?_⟩,⟨dlt,fun i j hi hj => ?_⟩⟩
 ·rw [zgD hl hi hj,zNF hi]
 ·rw [zNF hi,zgD hl hi hj]
theorem zPD {x : Nat} : ∀ {l : List Nat} {i a : Nat},l.Pairwise (· < ·) → l[i]? = some a → cntB l x ≤ i → x ≤ a
 | [],i,a,_,h,_ => by simp at h
 | b :: l,0,a,hp,h,hc => by
  simp at h;subst h;unfold cntB at hc;rw [List.countP_cons] at hc
  by_cases q : b < x
  ·simp [q] at hc
  ·omega
 | b :: l,i + 1,a,hp,h,hc => by
  obtain ⟨h1,h2⟩ := List.pairwise_cons.1 hp;have h' : l[i]? = some a := by simpa using h
  by_cases q : b < x
  ·refine zPD h2 h' ?_
   unfold cntB at hc ⊢;rw [List.countP_cons] at hc;simp [q] at hc;exact hc
  ·have := h1 a (List.mem_of_getElem? h')
   omega
end
def ArZ (wx : World) (g : Nat) (zs : List Int) (k : Nat) : Prop := ∃ ps,Arr wx g ps ∧ Zms wx ps zs k
theorem zmD (w : World) (k : Nat) : Zm 0 w (.agg #[.bool false,.slice none 0 0]) 0 k := ⟨false,[],none,0,rfl,Mine.nil _ _,⟨WF.nil,rfl⟩,fun _ => rfl,by simp [iv,val],Nat.zero_le _⟩
theorem ArZ.start {w : World} {g n : Nat} (h : Arr w g (List.replicate n ztF)) (k : Nat) : ArZ w g (List.replicate n 0) k := by
 refine ⟨_,h,by simp,fun j p z hp hz => ?_⟩;rw [List.eq_of_mem_replicate (List.mem_of_getElem? hp),List.eq_of_mem_replicate (List.mem_of_getElem? hz)];exact zmD w k
theorem ArZ.step {w w' : World} {g : Nat} {zs : List Int} {k : Nat} (h : ArZ w g zs k) (hb : Below w.heap.size w w') : ArZ w' g zs k := by
 obtain ⟨ps,h1,h2⟩ := h;exact ⟨ps,h1.step hb,h2.now hb⟩
theorem ArZ.ty12 {w : World} {g t : Nat} {zs : List Int} {k : Nat} (h : ArZ w g zs k) (x y : Value) : Ty 44 w ((w.setCell ⟨g,t * 2,none⟩ x).setCell ⟨g,t * 2 + 1,none⟩ y) := by
 obtain ⟨ps,h1,h2⟩ := h;exact h1.ty12 x y
theorem ArZ.put {w : World} {g t : Nat} {zs : List Int} {k : Nat} {x y : Value} {z : Int} (h : ArZ w g zs k) (ht : t < zs.length) (hz : Zm 0 w (.agg #[x,y]) z k) : ArZ ((w.setCell ⟨g,t * 2,none⟩ x).setCell ⟨g,t * 2 + 1,none⟩ y) g (zs.set t z) k := by
 have hty := h.ty12 (t := t) x y;obtain ⟨ps,h1,h2⟩ := h;refine ⟨ps.set t (x,y),h1.put (by rw [h2.1];exact ht) hz.zi.isI,by simp [h2.1],fun j p q hp hq => ?_⟩
 by_cases e : j = t
 ·subst e
  rw [List.getElem?_set_self (by rw [h2.1];exact ht),Option.some.injEq] at hp;rw [List.getElem?_set_self ht,Option.some.injEq] at hq;subst hp;subst hq;exact hz.ty hty (by decide)
 ·rw [List.getElem?_set_ne (by omega)] at hp hq
  exact (h2.2 j p q hp hq).ty hty (by decide)
theorem ArZ.cells {w : World} {g j : Nat} {zs : List Int} {k : Nat} (h : ArZ w g zs k) (hj : j < zs.length) : ∃ m a l c,w.cell? ⟨g,j * 2,none⟩ = some (.bool m) ∧ w.cell? ⟨g,j * 2 + 1,none⟩ = some (.slice a l c) ∧ w.frozen? ⟨g,j * 2,none⟩ = false ∧ w.frozen? ⟨g,j * 2 + 1,none⟩ = false ∧ Zm 0 w (.agg #[.bool m,.slice a l c]) (zs.getD j 0) k := by
 obtain ⟨ps,h1,h2⟩ := h;have hl := h2.1;have hp : ps[j]? = some (ps[j]'(by omega)) := List.getElem?_eq_getElem (by omega);have hq : zs[j]? = some (zs[j]) := List.getElem?_eq_getElem hj;obtain ⟨m,a,l,c,e⟩ := h1.2 _ (List.getElem_mem (l := ps) (n := j) (by omega));have q := h1.at hp;have z := h2.2 j _ _ hp hq;rw [e] at q z;have : zs.getD j 0 = zs[j] := by simp [hj]
 rw [this];exact ⟨m,a,l,c,q.1,q.2,h1.1.fz _,h1.1.fz _,z⟩
theorem ArZ.done {w : World} {g : Nat} {zs : List Int} {k : Nat} (h : ArZ w g zs k) (hn : zs.length ≤ 1048576) : ∃ ps,PrsT w (.slice (some ⟨g,0,none⟩) zs.length zs.length) ps ∧ Zms w ps zs k := by
 obtain ⟨ps,h1,h2⟩ := h;refine ⟨ps,?_,h2⟩;rw [← h2.1];exact h1.prsT (by rw [h2.1];exact hn)
def MB1 (w wx : World) (bm : Nat) (A0 M0 : List Value) : Prop := Cel wx w.heap.size 24 A0 ∧ Cel wx (w.heap.size + 1) 24 [.int .i64 0,.int .i64 0,.slice none 0 0] ∧ Cel wx bm 24 M0 ∧ Below w.heap.size w wx
section
variable {p : Nat} [NeZero p]
omit [NeZero p] in
theorem zqH {m : List (List Int)} {n r c : Nat} (hp : 2 ≤ p) (hw : WidE n m) (hr : ResM p m) (hl : m.length = r) : ∀ k,cntB (zXA p m (c + k)).pv c = (zXA p m c).pv.length
 | 0 => by
  have h := (Ok12.red hp hw hr hl c).pvc;unfold cntB;rw [Nat.add_zero,List.countP_eq_length];exact fun a ha => by simpa using h a ha
 | k + 1 => by
  rw [← zqH hp hw hr hl k]
  show cntB (zZB p (c + k) (zXA p m (c + k))).pv c = _
  unfold zZB
  split
  ·rfl
  ·show cntB ((zXA p m (c + k)).pv ++ [c + k]) c = _
   unfold cntB;rw [List.countP_append]
   simp
theorem zRG (hp : IsPr p) {r c : Nat} {zs : List Int} (hl : zs.length = r * c) : wkR p r c zs = (zXA p (zLA p r c zs) c).pv.length := by
 have hp2 := hp.1;have hwd := zVC (r := r) (zWA (p := p) hl) (zPA _ _ _ _);have hrs := zlB (r := r) hp2 (zhA (p := p) (r := r) (c := c) (zs := zs) (by omega));unfold wkR wkS;rw [zqH hp2 hwd hrs (zCB _ _) r];obtain ⟨h1,h2⟩ := zyC hp hwd hrs (zCB _ _) c (by omega);obtain ⟨g1,g2⟩ := znH hp hl;have wl : ∀ k j,k < r → j < c → (mt (zDB r (zLA p r c zs)) k j : Fin p) = mz c zs k j := fun k j hk hj => by
  rw [← zgD hl hk hj];unfold mt ent
  congr 1
  have e : rowE (zDB r (zLA p r c zs)) k = rowE (zLA p r c zs) k ++ uniR r k := by unfold rowE;rw [List.getD_eq_getElem?_getD,zeD hk];rfl
  rw [e];have hlen := (zWA (p := p) hl).at (i := k) (by rw [zPA];exact hk);simp [List.getElem?_append_left (show j < (rowE (zLA p r c zs) k).length by omega)]
 have h3 : Eqv c r (mt (p := p) (zXA p (zDB r (zLA p r c zs)) c).m) (mz c zs) := by
  obtain ⟨⟨X,hX⟩,⟨Y,hY⟩⟩ := h2;refine ⟨⟨X,fun i j hi hj => ?_⟩,⟨Y,fun i j hi hj => ?_⟩⟩
  ·rw [hX i j hi (by omega)]
   exact zKB (fun _ _ => rfl) fun k hk => wl k j hk hj
  ·rw [← wl i j hi hj,hY i j hi (by omega)]
 rw [(h1.unique (zuG hp) g1 (h3.trans g2.symm)).1]
end
end Go.Proofs.YtkklldokdnfkgaaGreat
namespace Go.Proofs.YtkklldokdnfkgaaGreat
structure Rz12 (r c : Nat) (ms : List (List Int)) (pv : List Nat) : Prop where
 len : pv.length ≤ r
 inc : ∀ s t,s < t → t < pv.length → pv.getD s 0 < pv.getD t 0
 lt : ∀ t,t < pv.length → pv.getD t 0 < c
 one : ∀ t i,t < pv.length → i < r → ent ms i (pv.getD t 0) = if i = t then 1 else 0
 low : ∀ t j,t < pv.length → j < pv.getD t 0 → ent ms t j = 0
 zer : ∀ i j,pv.length ≤ i → i < r → j < c → ent ms i j = 0
theorem zZH {p : Nat} {ms : List (List Int)} (hp : 0 < p) (h : ResM p ms) (i j : Nat) : IsR p (ent ms i j) := (h.at i).getD hp j
section
variable {p : Nat} [NeZero p]
theorem Rref.rz12 (hp : IsPr p) {r c : Nat} {ms : List (List Int)} {pv : List Nat} (hr : ResM p ms) (h : Rref r c (mt (p := p) ms) pv) : Rz12 r c ms pv := by
 have hp2 := hp.1;have at_ : ∀ t,t < pv.length → pv[t]? = some (pv.getD t 0) := fun t ht => by simp [ht]
 have z0 : ∀ i j,(mt (p := p) ms i j) = 0 → ent ms i j = 0 := fun i j e => (zYC (zZH (by omega) hr i j)).1 e
 refine ⟨h.len,fun s t hst ht => h.inc s t _ _ hst (at_ s (by omega)) (at_ t ht),fun t ht => h.lt t _ (at_ t ht),fun t i ht hi => ?_,fun t j ht hj => z0 t j (h.low t _ j (at_ t ht) hj),fun i j h1 h2 h3 => z0 i j (h.zer i j h1 h2 h3)⟩;have e := h.one t _ i (at_ t ht) hi;unfold dlt at e
 by_cases q : i = t
 ·rw [if_pos q] at e ⊢
  refine fp_inj (p := p) (zZH (by omega) hr i _) ⟨by omega,by omega⟩ ?_;rw [ztG hp2];exact e
 ·rw [if_neg q] at e ⊢
  exact z0 _ _ e
theorem ech_rz12 (hp : IsPr p) {r c : Nat} {zs : List Int} (hl : zs.length = r * c) : Rz12 r c (zXA p (zLA p r c zs) c).m (zXA p (zLA p r c zs) c).pv := by
 have ho := Ok12.red (p := p) hp.1 (zWA (p := p) hl) (zhA (p := p) (r := r) (c := c) (zs := zs) (by have := hp.1;omega)) (zPA _ _ _ _) c;exact (znH hp hl).1.rz12 hp ho.res
theorem zHC (hp : IsPr p) {r c : Nat} {zs : List Int} (hl : zs.length = r * c) {k t : Nat} (hk : k < r) (ht : t < r) : (mt (zDB r (zLA p r c zs)) k (c + t) : Fin p) = dlt k t := by
 unfold mt ent;have e : rowE (zDB r (zLA p r c zs)) k = rowE (zLA p r c zs) k ++ uniR r k := by unfold rowE;rw [List.getD_eq_getElem?_getD,zeD hk];rfl
 have hlen := (zWA (p := p) hl).at (i := k) (by rw [zPA];exact hk);have e2 : (rowE (zLA p r c zs) k ++ uniR r k).getD (c + t) 0 = if k = t then 1 else 0 := by
  rw [List.getD_eq_getElem?_getD,List.getElem?_append_right (by omega),hlen,Nat.add_sub_cancel_left];simp [uniR,ht]
 rw [e,e2];unfold dlt
 split
 ·exact ztG hp.1
 ·exact zvB
theorem zNB (hp : IsPr p) {r c : Nat} {zs : List Int} (hl : zs.length = r * c) : Rref r (c + r) (mt (p := p) (wkS p r c zs).m) (wkS p r c zs).pv ∧ Eqv (c + r) r (mt (p := p) (wkS p r c zs).m) (mt (p := p) (zDB r (zLA p r c zs))) :=
 zyC hp (zVC (r := r) (zWA (p := p) hl) (zPA _ _ _ _)) (zlB (r := r) hp.1 (zhA (p := p) (r := r) (c := c) (zs := zs) (by have := hp.1;omega))) (zCB _ _) (c + r) (Nat.le_refl _)
theorem zOB (hp : IsPr p) {r c : Nat} {zs : List Int} (hl : zs.length = r * c) : (wkS p r c zs).pv.length = r := by
 obtain ⟨h1,h2⟩ := zNB hp hl;obtain ⟨U,hU⟩ := h2.2;refine Nat.le_antisymm h1.len (zoH (zuG hp) (Z := U) (Y := fun s t => mt (p := p) (wkS p r c zs).m s (c + t)) fun i j hi hj => ?_);rw [← zHC hp hl hi hj,hU i (c + j) hi (by omega)];unfold vm;exact zYE h1.len fun k hk1 hk2 => by rw [h1.zer k (c + j) hk1 hk2 (by omega)];grind
omit [NeZero p] in
theorem ker_ent12 (hp : IsPr p) {r c : Nat} {zs : List Int} (hl : zs.length = r * c) {i : Nat} (hi : i < r - wkR p r c zs) (j : Nat) : ent (kerL p r c zs) i j = ent (wkS p r c zs).m (wkR p r c zs + i) (c + j) := by
 have ho := zUE (p := p) (c := c) (r := r) hp.1 hl;unfold kerL zdD ent rowE;simp only [List.getD_eq_getElem?_getD,List.getElem?_map,List.getElem?_drop];have hb : wkR p r c zs + i < (wkS p r c zs).m.length := by rw [ho.len];omega
 rw [List.getElem?_eq_getElem hb];simp [List.getElem?_drop]
theorem ker_rz12 (hp : IsPr p) {r c : Nat} {zs : List Int} (hl : zs.length = r * c) : Rz12 (r - wkR p r c zs) r (kerL p r c zs) (((wkS p r c zs).pv.drop (wkR p r c zs)).map (· - c)) := by
 have ho := zUE (p := p) (c := c) (r := r) hp.1 hl;have h := (zNB hp hl).1.rz12 hp ho.res;have hf := zOB hp hl;have hst := zqC hp hl;obtain ⟨R,hR⟩ : ∃ R,wkR p r c zs = R := ⟨_,rfl⟩
 obtain ⟨pv,hpv⟩ : ∃ pv,(wkS p r c zs).pv = pv := ⟨_,rfl⟩
 have ke := fun i hi j => ker_ent12 hp hl (i := i) hi j
 have hc : ∀ t,R ≤ t → t < r → c ≤ pv.getD t 0 := fun t h1 h2 => by
  have e : (wkS p r c zs).pv[t]? = some (pv.getD t 0) := by rw [hpv];simp [show t < pv.length by rw [← hpv,hf];exact h2]
  exact zPD (x := c) hst e (by show wkR p r c zs ≤ t;omega)
 rw [hR] at ke ⊢;rw [hpv] at h hf ⊢;have ln : ((pv.drop R).map (· - c)).length = r - R := by simp [hf]
 have gd : ∀ t,t < r - R → ((pv.drop R).map (· - c)).getD t 0 = pv.getD (R + t) 0 - c := fun t ht => by
  simp [List.getD_eq_getElem?_getD,List.getElem?_drop,show R + t < pv.length by omega]
 refine ⟨by rw [ln];exact Nat.le_refl _,fun s t hst ht => ?_,fun t ht => ?_,fun t i ht hi => ?_,fun t j ht hj => ?_,fun i j h1 h2 _ => by omega⟩
 ·rw [ln] at ht
  rw [gd s (by omega),gd t ht];have := h.inc (R + s) (R + t) (by omega) (by omega);have := hc (R + s) (by omega) (by omega);omega
 ·rw [ln] at ht
  rw [gd t ht];have := h.lt (R + t) (by omega);have := hc (R + t) (by omega) (by omega);omega
 ·rw [ln] at ht
  rw [gd t ht,ke i hi];have h1 := hc (R + t) (by omega) (by omega);rw [show c + (pv.getD (R + t) 0 - c) = pv.getD (R + t) 0 by omega,h.one (R + t) (R + i) (by omega) (by omega)]
  by_cases q : i = t
  ·rw [if_pos q,if_pos (by omega)]
  ·rw [if_neg q,if_neg (by omega)]
 ·rw [ln] at ht
  rw [gd t ht] at hj;rw [ke t ht];exact h.low (R + t) (c + j) (by omega) (by omega)
end
open Go.RowKit
def okV (md : Region.Mode) (ops : Array Oper) (n : Nat) : Array Bool → List (Nat × Value) → Bool
 | _,[] => true
 | l,(i,_) :: r => (Region.noSelect ops && Region.free md ops l i && (Region.ready md ops l).contains i && Region.sinkB md ops n && Region.chainB md ops n && decide (n < ops.size) && decide (i < n) && zDI md ops n l) && okV md ops n (l.setIfInBounds i true) r
def lisV : Array Bool → List (Nat × Value) → Array Bool
 | l,[] => l
 | l,(i,_) :: r => lisV (l.setIfInBounds i true) r
def actV (ops : Array Oper) : Act → List (Nat × Value) → Act
 | a,[] => a
 | a,(i,v) :: r => match ops[i]? with
  | some o => actV ops (a.put o.dst v) r
  | none => a
def zpB (P : Program) (ops : Array Oper) (S : World → Prop) : Act → List (Nat × Value) → Prop
 | _,[] => True
 | a,(i,v) :: r => match ops[i]? with
  | some o => YieldsIf P ops S o v a ∧ zpB P ops S (a.put o.dst v) r
  | none => False
section
variable {P : Program} {ops : Array Oper} {Q : Exit → Act → World → Prop} {md : Region.Mode} {S : World → Prop} {n : Nat}
theorem zSD (hQ : ∀ c d v a w,Q (.panic c) (a.put d v) w → Q (.panic c) a w) : ∀ (vs : List (Nat × Value)) (fuel : Nat) (listed : Array Bool) (a : Act) (w : World),okV md ops n listed vs = true → zpB P ops S a vs → S w → zmA P md ops Q S n fuel (lisV listed vs) (actV ops a vs) w → zmA P md ops Q S n (fuel + vs.length) listed a w
 | [],fuel,listed,a,w,_,_,_,h => h
 | (i,v) :: r,fuel,listed,a,w,hok,hy,hS,h => by
  rw [okV,Bool.and_eq_true] at hok;cases e : ops[i]? with
  | none => simp only [zpB,e] at hy
  | some o =>
   simp only [zpB,e] at hy;simp only [actV,e,lisV] at h;exact zAA (fuel := fuel + r.length) e hok.1 (fun c a w hq => hQ c _ _ a w hq) hy.1 hS (zSD hQ r fuel _ _ w hok.2 hy.2 hS h)
theorem ziA {fuel : Nat} {listed : Array Bool} {a : Act} {w : World} (vs : List (Nat × Value)) (m : Nat) (hy : zpB P ops S a vs) (hS : S w)
  (h : zmA P md ops Q S n fuel (lisV listed vs) (actV ops a vs) w) (hm : vs.length = m := by rfl) (hok : okV md ops n listed vs = true := by kernel_rfl) (hQ : ∀ c d v a w,Q (.panic c) (a.put d v) w → Q (.panic c) a w := by (intro _ d _ _ _ h;cases d <;> exact h)) : zmA P md ops Q S n (fuel + m) listed a w := by
 subst hm;exact zSD hQ vs fuel listed a w hok hy hS h
end
theorem sI9 {α : Type _} (l : List α) (i : Nat) (a : α) : l.toArray.setIfInBounds i a = (l.set i a).toArray := List.setIfInBounds_toArray l i a
theorem s09 {α : Type _} {a b : α} {l : List α} : (a :: l).set 0 b = b :: l := List.set_cons_zero
theorem s19 {α : Type _} {a b : α} {n : Nat} {l : List α} : (a :: l).set (n + 1) b = a :: l.set n b := List.set_cons_succ
theorem g09 {α : Type _} {a : α} {l : List α} : (a :: l)[0]? = some a := List.getElem?_cons_zero
theorem g19 {α : Type _} {a : α} {n : Nat} {l : List α} : (a :: l)[n + 1]? = l[n]? := List.getElem?_cons_succ
theorem gA9 {α : Type _} {l : List α} {n : Nat} : l.toArray[n]? = l[n]? := List.getElem?_toArray
end Go.Proofs.YtkklldokdnfkgaaGreat
