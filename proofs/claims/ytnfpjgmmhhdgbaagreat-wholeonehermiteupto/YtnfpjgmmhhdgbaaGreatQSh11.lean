import Derived.Test.YtnfpjgmmhhdgbaaGreatQLm6ToTy9
import Derived.Laws.OwnMore
set_option maxRecDepth 100000
set_option maxHeartbeats 6400000
set_option linter.unusedVariables false
set_option linter.unusedSimpArgs false
namespace Go.Proofs.YtnfpjgmmhhdgbaaGreat
open Go.RowKit
def Kw (w w' : World) : Prop := w.heap.size ≤ w'.heap.size ∧ (∀ (b : Nat) (L : Array Value) (T : TypeId) (fr : Nat × Nat),w.heap[b]? = some (.cells L T fr) → T ≠ 51 → T ≠ 22 → w'.heap[b]? = some (.cells L T fr)) ∧ Wk w w'
theorem Kw.refl (w : World) : Kw w w := ⟨Nat.le_refl _,fun _ _ _ _ h _ _ => h,Wk.refl _⟩
theorem Kw.of {w w' : World} (h : Below w.heap.size w w') : Kw w w' := ⟨h.size,fun b L T fr e _ _ => (h.block b (Array.getElem?_eq_some_iff.1 e).1).trans e,Wk.of h⟩
theorem Kw.trans {a b c : World} (h : Kw a b) (h' : Kw b c) : Kw a c := ⟨Nat.le_trans h.1 h'.1,fun g L T fr e n1 n2 => h'.2.1 g L T fr (h.2.1 g L T fr e n1 n2) n1 n2,h.2.2.trans h'.2.2⟩
theorem Kw.cel {w w' : World} {b : Nat} {T : TypeId} {L : List Value} (h : Kw w w') (d : Cel w b T L) (h1 : T ≠ 51) (h2 : T ≠ 22) : Cel w' b T L := h.2.1 b _ T _ d h1 h2
theorem Kw.set {w : World} {g i : Nat} {L : Array Value} {T : TypeId} {fr : Nat × Nat} {u v : Value} (d : w.heap[g]? = some (.cells L T fr)) (hT : T = 51 ∨ T = 22) (hc : w.cell? ⟨g,i,none⟩ = some u) (hu : NoW u) : Kw w (w.setCell ⟨g,i,none⟩ v) := by
 refine ⟨by simp,fun b L' T' fr' e n1 n2 => ?_,Wk.set hc hu⟩;have hb : b ≠ g := fun q => by
  subst q;have := e.symm.trans d;simp at this;rcases hT with q | q
  ·exact n1 (this.2.1.trans q)
  ·exact n2 (this.2.1.trans q)
 exact (Below.heap_setCell w _ v b (fun q => hb (by simpa using q))).trans e
def rowv (c g : Nat) : Value := .slice (some ⟨g,0,none⟩) c c
def Ones (gs : List Nat) : Prop := ∀ (i j g : Nat),gs[i]? = some g → gs[j]? = some g → i = j
def Sht (B : Nat) (w : World) (lv : Value) (c : Nat) (gs : List Nat) (m : List (List Int)) (k : Nat) : Prop :=
 w.ownsRow B 22 1 lv gs.length (gs.map (rowv c)) ∧ Ones gs ∧ gs.length = m.length ∧ (∀ g ∈ gs,B ≤ g) ∧ Wide c m ∧
  ∀ (j g : Nat),gs[j]? = some g → ∃ ps,Arr w g ps ∧ Zcs w ps (zHA m j) k
theorem Sht.now {B c k : Nat} {w w' : World} {lv : Value} {gs : List Nat} {m : List (List Int)} (h : Sht B w lv c gs m k) (hb : Below w.heap.size w w') : Sht B w' lv c gs m k := by
 obtain ⟨h1,h2,h3,h4,h5,h6⟩ := h;refine ⟨zMC h1 (fun b _ hlt => hb.block b hlt),h2,h3,h4,h5,fun j g hg => ?_⟩;obtain ⟨ps,q1,q2⟩ := h6 j g hg;exact ⟨ps,q1.step hb,q2.now hb⟩
theorem Sht.more {B c k l : Nat} {w : World} {lv : Value} {gs : List Nat} {m : List (List Int)} (h : Sht B w lv c gs m k) (hl : k ≤ l) : Sht B w lv c gs m l := by
 obtain ⟨h1,h2,h3,h4,h5,h6⟩ := h;refine ⟨h1,h2,h3,h4,h5,fun j g hg => ?_⟩;obtain ⟨ps,q1,q2⟩ := h6 j g hg;exact ⟨ps,q1,q2.more hl⟩
theorem Sht.form {B c k : Nat} {w : World} {lv : Value} {gs : List Nat} {m : List (List Int)} (h : Sht B w lv c gs m k) : ∃ a cap,lv = .slice a m.length cap ∧ m.length ≤ cap ∧ (0 < m.length → ∃ L,a = some ⟨L,0,none⟩ ∧ B ≤ L ∧ L < w.heap.size) := by
 obtain ⟨⟨q1,⟨q2,q3⟩ | ⟨g,cap,cur,q2,q3,q4,q5,q6⟩⟩,h2,h3,h4,h5,h6⟩ := h
 ·exact ⟨none,0,by rw [q2,← h3,q3],by omega,fun q => by omega⟩
 ·exact ⟨_,cap,by rw [q2,← h3],by omega,fun _ => ⟨g,rfl,q3,(Array.getElem?_eq_some_iff.1 q4).1⟩⟩
theorem Sht.blk {B c k : Nat} {w : World} {lv : Value} {gs : List Nat} {m : List (List Int)} (h : Sht B w lv c gs m k) {i : Nat} (hi : i < m.length) : ∃ g,gs[i]? = some g ∧ B ≤ g ∧ g < w.heap.size ∧ ∃ ps,Arr w g ps ∧ ps.length = c ∧ Zcs w ps (zHA m i) k := by
 obtain ⟨h1,h2,h3,h4,h5,h6⟩ := h;have hg : gs[i]? = some (gs[i]'(by omega)) := List.getElem?_eq_getElem (by omega);obtain ⟨ps,q1,q2⟩ := h6 i _ hg;exact ⟨_,hg,h4 _ (List.getElem_mem _),q1.1.blk,ps,q1,by rw [q2.1];exact h5.at hi,q2⟩
theorem Sht.line {B c k L cap : Nat} {w : World} {gs : List Nat} {m : List (List Int)} (h : Sht B w (.slice (some ⟨L,0,none⟩) m.length cap) c gs m k) {i g : Nat} (hg : gs[i]? = some g) : w.cell? ⟨L,i,none⟩ = some (rowv c g) ∧ w.frozen? ⟨L,i,none⟩ = false := by
 obtain ⟨h1,h2,h3,h4,h5,h6⟩ := h;rw [← h3] at h1;have hi : i < gs.length := (List.getElem?_eq_some_iff.1 hg).1;refine ⟨?_,h1.frozenAt i⟩;rw [h1.cellAt i (by omega)];simp [hg]
theorem Sht.swap {B c k L cap : Nat} {w : World} {gs : List Nat} {m : List (List Int)} (h : Sht B w (.slice (some ⟨L,0,none⟩) m.length cap) c gs m k) {i j a b : Nat} (ha : gs[i]? = some a) (hb : gs[j]? = some b) :
  Sht B ((w.setCell ⟨L,i,none⟩ (rowv c b)).setCell ⟨L,j,none⟩ (rowv c a)) (.slice (some ⟨L,0,none⟩) m.length cap) c ((gs.set i b).set j a) ((m.set i (zHA m j)).set j (zHA m i)) k
   ∧ Below B w ((w.setCell ⟨L,i,none⟩ (rowv c b)).setCell ⟨L,j,none⟩ (rowv c a)) ∧ Kw w ((w.setCell ⟨L,i,none⟩ (rowv c b)).setCell ⟨L,j,none⟩ (rowv c a)) := by
 have l1 := h.line ha;have l2 := h.line hb;obtain ⟨h1,h2,h3,h4,h5,h6⟩ := h;have hi : i < gs.length := (List.getElem?_eq_some_iff.1 ha).1;have hj : j < gs.length := (List.getElem?_eq_some_iff.1 hb).1;rw [← h3] at h1 ⊢;obtain ⟨o1,g1⟩ := h1.stored i (rowv c b);obtain ⟨o2,g2⟩ := o1.stored j (rowv c a);obtain ⟨_,⟨q2,_⟩ | ⟨g,cap',cur,q2,q3,q4,q5,q6⟩⟩ := h1
 ·cases q2
 simp only [Value.slice.injEq,Option.some.injEq,Addr.mk.injEq,and_true,true_and] at q2;obtain ⟨rfl,rfl⟩ := q2;have k1 : Kw w (w.setCell ⟨L,i,none⟩ (rowv c b)) := Kw.set q4 (.inr rfl) l1.1 (noS _ _ _);have c2 : ∃ u,(w.setCell ⟨L,i,none⟩ (rowv c b)).cell? ⟨L,j,none⟩ = some u ∧ NoW u := by
  have e := o1.cellAt j (by omega)
  by_cases q : j = i
  ·subst q
   exact ⟨rowv c b,by rw [e];simp [hi],noS _ _ _⟩
  ·exact ⟨rowv c b,by rw [e,List.getElem?_set_ne (by omega)];simp [hb],noS _ _ _⟩
 obtain ⟨u,hu,hn⟩ := c2;have k2 : Kw (w.setCell ⟨L,i,none⟩ (rowv c b)) ((w.setCell ⟨L,i,none⟩ (rowv c b)).setCell ⟨L,j,none⟩ (rowv c a)) := by
  obtain ⟨_,⟨p2,_⟩ | ⟨g',cap2,cur2,p2,p3,p4,p5,p6⟩⟩ := o1
  ·cases p2
  simp only [Value.slice.injEq,Option.some.injEq,Addr.mk.injEq,and_true,true_and] at p2;obtain ⟨rfl,rfl⟩ := p2;exact Kw.set p4 (.inr rfl) hu hn
 have kk := k1.trans k2;refine ⟨⟨?_,?_,by simpa using h3,?_,?_,?_⟩,bset (bset (Below.refl _ _) q3) q3,kk⟩
 ·rw [List.length_set,List.length_set,List.map_set,List.map_set]
  exact o2
 ·have ea : gs[i] = a := (List.getElem?_eq_some_iff.1 ha).2
  have eb : gs[j] = b := (List.getElem?_eq_some_iff.1 hb).2;have key : ∀ s,s < gs.length → ((gs.set i b).set j a)[s]? = gs[if s = j then i else if s = i then j else s]? := fun s hs => by
   by_cases p : s = j
   ·subst p;rw [if_pos rfl,List.getElem?_set_self (by simpa using hj),ha]
   ·rw [if_neg p,List.getElem?_set_ne (by omega)]
    by_cases p2 : s = i
    ·subst p2;rw [if_pos rfl,List.getElem?_set_self hi,hb]
    ·rw [if_neg p2,List.getElem?_set_ne (by omega)]
  intro s t g hs ht;have s1 : s < gs.length := by simpa using (List.getElem?_eq_some_iff.1 hs).1
  have t1 : t < gs.length := by simpa using (List.getElem?_eq_some_iff.1 ht).1
  rw [key s s1] at hs;rw [key t t1] at ht;have := h2 _ _ _ hs ht
  split at this <;> split at this <;> (try split at this) <;> (try split at this) <;> omega
 ·intro g hg
  rcases List.mem_or_eq_of_mem_set hg with q | rfl
  ·rcases List.mem_or_eq_of_mem_set q with q | rfl
   ·exact h4 g q
   ·exact h4 _ (List.mem_of_getElem? hb)
  ·exact h4 _ (List.mem_of_getElem? ha)
 ·exact (h5.set (h5.at (by omega))).set (h5.at (by omega))
 ·have keep : ∀ (t g : Nat),gs[t]? = some g → ∃ ps,Arr ((w.setCell ⟨L,i,none⟩ (rowv c b)).setCell ⟨L,j,none⟩ (rowv c a)) g ps ∧ Zcs ((w.setCell ⟨L,i,none⟩ (rowv c b)).setCell ⟨L,j,none⟩ (rowv c a)) ps (zHA m t) k := fun t g hg => by
   obtain ⟨ps,p1,p2⟩ := h6 t g hg;have hne : L ≠ g := fun e => by
    subst e;have := q4.symm.trans (show w.heap[L]? = _ from p1.1);simp at this
   exact ⟨ps,⟨(p1.1.ne hne).ne hne,p1.2⟩,p2.wk kk.2.2⟩
  intro t g hg
  by_cases p : t = j
  ·subst p
   rw [List.getElem?_set_self (by simpa using hj),Option.some.injEq] at hg;subst hg;have e : zHA ((m.set i (zHA m t)).set t (zHA m i)) t = zHA m i := by simp [zHA,show t < m.length by omega]
   rw [e];exact keep i _ ha
  ·rw [List.getElem?_set_ne (by omega)] at hg
   have e : zHA ((m.set i (zHA m j)).set j (zHA m i)) t = zHA (m.set i (zHA m j)) t := by simp [zHA,List.getElem?_set_ne (show j ≠ t by omega)]
   rw [e]
   by_cases p2 : t = i
   ·subst p2
    rw [List.getElem?_set_self hi,Option.some.injEq] at hg;subst hg;have e : zHA (m.set t (zHA m j)) t = zHA m j := by
     have : t < m.length := by omega
     simp [zHA,this]
    rw [e];exact keep j _ hb
   ·rw [List.getElem?_set_ne (by omega)] at hg
    have e : zHA (m.set i (zHA m j)) t = zHA m t := by simp [zHA,List.getElem?_set_ne (show i ≠ t by omega)]
    rw [e];exact keep t _ hg
abbrev putp (w : World) (g t : Nat) (x y : Value) : World := (w.setCell ⟨g,t * 2,none⟩ x).setCell ⟨g,t * 2 + 1,none⟩ y
theorem Sht.put {B c k : Nat} {w : World} {lv : Value} {gs : List Nat} {m : List (List Int)} (h : Sht B w lv c gs m k) {i g t : Nat} (hg : gs[i]? = some g) (ht : t < c) {x y : Value} {z : Int} (hz : Zc w (.agg #[x,y]) z k) :
  Sht B (putp w g t x y) lv c gs (m.set i ((zHA m i).set t z)) k ∧ Below B w (putp w g t x y) ∧ Kw w (putp w g t x y) := by
 have hb := h;obtain ⟨h1,h2,h3,h4,h5,h6⟩ := h;have hi : i < gs.length := (List.getElem?_eq_some_iff.1 hg).1;have hBg : B ≤ g := h4 _ (List.mem_of_getElem? hg);obtain ⟨ps,p1,p2⟩ := h6 i g hg;have hpl : ps.length = c := by rw [p2.1];exact h5.at (by omega)
 have hwk := p1.wk (i := t) (by omega) x y;have e := zNB (List.getElem?_eq_getElem (show t < ps.length by omega));obtain ⟨n0,a0,l0,c0,eI⟩ := p1.2 _ (List.getElem_mem (show t < ps.length by omega));rw [eI] at e;have k1 : Kw w (w.setCell ⟨g,t * 2,none⟩ x) := Kw.set (show w.heap[g]? = _ from p1.1) (.inl rfl) (p1.1.at e.1) (noB _);have k2 : Kw (w.setCell ⟨g,t * 2,none⟩ x) (putp w g t x y) := by
  have d := p1.1.set (t * 2) x;refine Kw.set (show (w.setCell ⟨g,t * 2,none⟩ x).heap[g]? = _ from d) (.inl rfl) (d.at (i := t * 2 + 1) (v := .slice a0 l0 c0) ?_) (noS _ _ _);rw [List.getElem?_set_ne (by omega)];exact e.2
 have kk := k1.trans k2;refine ⟨⟨zMC h1 (fun b hb' hlt => ?_),h2,by simpa using h3,h4,h5.set (by rw [List.length_set];exact h5.at (by omega)),fun j g' hg' => ?_⟩,bset (bset (Below.refl _ _) hBg) hBg,kk⟩
 ·have hne : b ≠ g := fun q => by
   subst q;obtain ⟨_,⟨q2,_⟩ | ⟨g',cap',cur,q2,q3,q4,q5,q6⟩⟩ := h1
   ·rw [q2] at hb';cases hb'
   ·rw [q2] at hb'
    simp only [Value.ownBlock,Option.some.injEq] at hb';subst hb';have := q4.symm.trans (show w.heap[_]? = _ from p1.1);simp at this
  exact (Below.heap_setCell _ _ y b (fun q => hne (by simpa using q))).trans (Below.heap_setCell w _ x b (fun q => hne (by simpa using q)))
 ·by_cases q : j = i
  ·subst q
   rw [hg,Option.some.injEq] at hg';subst hg';have e : zHA (m.set j ((zHA m j).set t z)) j = (zHA m j).set t z := by
    have : j < m.length := by omega
    simp [zHA,this]
   rw [e];refine ⟨_,p1.put (by omega) hz.zi.isI,?_⟩;have hz' := hz.wk hwk;have p2' := p2.wk hwk;refine ⟨by simp [p2.1],fun s p z' hp hzz => ?_⟩
   by_cases r : s = t
   ·subst r
    rw [List.getElem?_set_self (by omega),Option.some.injEq] at hp;rw [List.getElem?_set_self (by rw [← p2.1];omega),Option.some.injEq] at hzz;subst hp hzz;exact hz'
   ·rw [List.getElem?_set_ne (by omega)] at hp hzz
    exact p2'.2 s p z' hp hzz
  ·have hne : g ≠ g' := fun e => by
    subst e;exact q (h2 j i g hg' hg)
   obtain ⟨qs,r1,r2⟩ := h6 j g' hg';have e : zHA (m.set i ((zHA m i).set t z)) j = zHA m j := by simp [zHA,List.getElem?_set_ne (show i ≠ j by omega)]
   rw [e];exact ⟨qs,⟨(r1.1.ne hne).ne hne,r1.2⟩,r2.wk hwk⟩
theorem Sht.prr {B c k : Nat} {w : World} {lv : Value} {gs : List Nat} {m : List (List Int)} (h : Sht B w lv c gs m k) (hr : m.length ≤ 64) (hc : c ≤ 64) : ∃ pss,Prr 0 w lv pss ∧ Zcss w pss m k := by
 have hb := h;obtain ⟨h1,h2,h3,h4,h5,h6⟩ := h;obtain ⟨q,hq⟩ := Deep.choose_lt (α := List (Value × Value)) (n := m.length) (p := fun j ps => ∀ g,gs[j]? = some g → Arr w g ps ∧ Zcs w ps (zHA m j) k) (fun j hj => by
  obtain ⟨g,hg,_,_,ps,p1,p2,p3⟩ := hb.blk hj;exact ⟨ps,fun g' hg' => by rw [hg,Option.some.injEq] at hg';subst hg';exact ⟨p1,p3⟩⟩)
 have hat : ∀ j ps,((List.range m.length).map q)[j]? = some ps → j < m.length ∧ ps = q j := fun j ps hp => by
  have hj : j < m.length := by simpa using (List.getElem?_eq_some_iff.1 hp).1
  rw [List.getElem?_map,List.getElem?_range hj] at hp;exact ⟨hj,by simpa using hp.symm⟩
 have hz : Zcss w ((List.range m.length).map q) m k := by
  refine ⟨by simp,fun j ps hp => ?_⟩;obtain ⟨hj,rfl⟩ := hat j ps hp;obtain ⟨g,hg,_⟩ := hb.blk hj;exact (hq j hj g hg).2
 refine ⟨_,?_,hz⟩;obtain ⟨a,cap,rfl,hcap,hL⟩ := hb.form;refine ⟨a,cap,by simp,by simpa using hcap,by simp;omega,?_⟩
 by_cases h0 : m.length = 0
 ·exact .inl (by simp [h0])
 ·obtain ⟨L,rfl,hBL,hLs⟩ := hL (by omega)
  refine .inr ⟨L,0,rfl,hLs,fun j ps hp => ?_⟩;obtain ⟨hj,rfl⟩ := hat j ps hp;obtain ⟨g,hg,_⟩ := hb.blk hj;refine ⟨rowv c g,by rw [Nat.zero_add];exact (hb.line hg).1,?_⟩;have hA := (hq j hj g hg).1;have hl : (q j).length = c := by rw [(hq j hj g hg).2.1];exact h5.at hj
  have := hA.prs (B := 0) (Nat.zero_le _) (by omega) (Nat.le_refl _);rw [hl] at this;exact this
end Go.Proofs.YtnfpjgmmhhdgbaaGreat
