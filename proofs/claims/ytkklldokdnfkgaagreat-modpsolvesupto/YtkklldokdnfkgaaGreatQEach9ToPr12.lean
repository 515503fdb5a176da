/-
 QEach9ToPr12: Each9, DotsA9, ColsP9, Cols9, Prod9, Mat9, Chk9, Mul9, Unit9, Add9, Law9, Wake9, OpenM9, Pr12, joined.
-/
import Derived.Test.YtkklldokdnfkgaaGreatQFil9ToCat9
import Derived.Test.YtkklldokdnfkgaaGreatQAlikeToShift
import Derived.Below

set_option maxRecDepth 100000
set_option maxHeartbeats 6400000
set_option linter.unusedVariables false
set_option linter.unusedSimpArgs false
namespace Go.Proofs.YtkklldokdnfkgaaGreat
open Go.RowKit
abbrev mbox : Obj := .cells #[.int .i64 0,.int .i64 0,.slice none 0 0] 24
theorem zCF {w W0 : World} (hW : w.alloc mbox = W0) : Cel W0 w.heap.size 24 [.int .i64 0,.int .i64 0,.slice none 0 0] := by rw [← hW];exact Cel.new w _ _




def Mx (w : World) (v : Value) (r c : Nat) (zs : List Int) (k : Nat) : Prop := ∃ at_ ps,v = matv r c at_ ∧ Prs 0 w at_ ps ∧ Zis w ps zs k ∧ zs.length = r * c ∧ r ≤ 64 ∧ c ≤ 64
def Mc (w : World) (v : Value) (r c : Nat) (zs : List Int) (k : Nat) : Prop := ∃ at_ ps,v = matv r c at_ ∧ Prs 0 w at_ ps ∧ Zcs w ps zs k ∧ zs.length = r * c ∧ r ≤ 64 ∧ c ≤ 64
theorem Mx.now {w w' : World} {v : Value} {r c : Nat} {zs : List Int} {k : Nat} (h : Mx w v r c zs k) (hb : Below w.heap.size w w') : Mx w' v r c zs k := by
 obtain ⟨a,ps,h1,h2,h3,h4⟩ := h;exact ⟨a,ps,h1,h2.now hb,h3.now hb,h4⟩
theorem Mc.now {w w' : World} {v : Value} {r c : Nat} {zs : List Int} {k : Nat} (h : Mc w v r c zs k) (hb : Below w.heap.size w w') : Mc w' v r c zs k := by
 obtain ⟨a,ps,h1,h2,h3,h4⟩ := h;exact ⟨a,ps,h1,h2.now hb,h3.now hb,h4⟩
theorem Mc.mx {w : World} {v : Value} {r c : Nat} {zs : List Int} {k : Nat} (h : Mc w v r c zs k) : Mx w v r c zs k := by
 obtain ⟨a,ps,h1,h2,h3,h4⟩ := h;exact ⟨a,ps,h1,h2,h3.zis,h4⟩
theorem Mx.form {w : World} {v : Value} {r c : Nat} {zs : List Int} {k : Nat} (h : Mx w v r c zs k) : ∃ a cap,v = matv r c (.slice a (r * c) cap) ∧ r ≤ 64 ∧ c ≤ 64 := by
 obtain ⟨a,ps,h1,h2,h3,h4,h5,h6⟩ := h;obtain ⟨a0,c0,rfl,-,-,-,-⟩ := h2.form;rw [h3.1,h4] at h1;exact ⟨a0,c0,h1,h5,h6⟩
def zVI (w : World) (r c : Nat) (zs : List Int) (k : Nat) (e : Ending) (w' : World) : Prop := ∃ v,e = .returned v ∧ Mc w' v r c zs k ∧ Below w.heap.size w w'
abbrev matO (r c : Nat) (at_ : Value) : Obj := .cells #[.int .i64 (r : Int),.int .i64 (c : Int),at_] 24
theorem isShape_yes {w : World} {r c : Nat} (hr : r ≤ 64) (hc : c ≤ 64) : Calls Tryz.prog 60 #[.int .i64 (r : Int),.int .i64 (c : Int)] w fun e w' => e = .returned (.bool true) ∧ w' = w := by
 have h1 : (0 : Int) ≤ (r : Int) := by omega
 have h2 : (0 : Int) ≤ (c : Int) := by omega
 have h3 : (r : Int) ≤ 64 := by omega
 have h4 : (c : Int) ≤ 64 := by omega
 have h5 : max (r : Int) (c : Int) ≤ 64 := by omega
 have h6 : 0 ≤ min (r : Int) (c : Int) := by omega
 go_enter Tryz.func60,Tryz.ntmps60;go_wp2;go_ret;exact ⟨rfl,rfl⟩
theorem check_yes {w : World} {v : Value} {r c : Nat} {zs : List Int} {k : Nat} (h : Mx w v r c zs k) : Calls Tryz.prog 39 #[v] w fun e w' => e = .returned (.int .i64 0) ∧ Below w.heap.size w w' := by
 obtain ⟨a,cap,rfl,hr,hc⟩ := h.form;have hm0 := zGC (i := r) (c := c) hr hc;obtain ⟨n,hn⟩ : ∃ n,r * c = n := ⟨_,rfl⟩
 rw [hn] at hm0;have hm2 := hm0;rw [IntKind.wrap_i64] at hm2;rw [hn];obtain ⟨W0,hW⟩ : ∃ W0,w.alloc (matO r c (.slice a n cap)) = W0 := ⟨_,rfl⟩
 obtain ⟨b0,sz0⟩ := alo1 w (matO r c (.slice a n cap));rw [hW] at b0 sz0;have P1 : Hid (Cel W0 w.heap.size 24 (matc r c (.slice a n cap))) := by unfold Hid;rw [← hW];exact Cel.new w _ _
 have x0 := P1.out.at (i := 0) rfl;have x1 := P1.out.at (i := 1) rfl;have x2 := P1.out.at (i := 2) rfl;rw [← hW] at x0 x1 x2;have HS := hid (isShape_yes (w := W0) hr hc);have G0 := hid b0;have EW := hid hW;have q0 : ((n : Int) != (n : Int)) = false := by simp
 clear b0 sz0 hW h hn P1;go_enter Tryz.func39,Tryz.ntmps39;go_wp2_with fail;rw [EW.out];refine HS.out.mono ?_;rintro e w1 ⟨rfl,rfl⟩;rw [EW.out] at x0 x1 x2;go_wp2;go_ret;exact ⟨rfl,G0.out⟩
def zRC (w : World) (r c : Nat) (zs : List Int) (k : Nat) (e : Ending) (w' : World) : Prop := ∃ v,e = .returned (.tuple #[v,.int .i64 0]) ∧ Mc w' v r c zs k ∧ Below w.heap.size w w'
theorem Mc.wk {w : World} {v : Value} {r c : Nat} {zs : List Int} {k b : Nat} (h : Mc w v r c zs k) {x0 x1 : Int} {a : Option Addr} {l n : Nat} (d : Cel w b 24 [.int .i64 x0,.int .i64 x1,.slice a l n]) (y0 y1 y2 : Value) : Mc (put3 w b y0 y1 y2) v r c zs k := by
 obtain ⟨at_,ps,h1,h2,h3,h4⟩ := h;refine ⟨at_,ps,h1,?_,h3.wk (d.wk3 _ _ _),h4⟩;obtain ⟨a',c',e1,e2,e3,e4,e5⟩ := h2;refine ⟨a',c',e1,e2,e3,e4,?_⟩;rcases e5 with e5 | ⟨b',off,e6,e7,e8,e9⟩
 ·exact .inl e5
 ·refine .inr ⟨b',off,e6,e7,by simpa using e8,fun j p hp => ?_⟩
  have hne : b ≠ b' := by
   intro e;subst e;have hz : zs[j]? = some (zs[j]'(by rw [← h3.1];exact (List.getElem?_eq_some_iff.1 hp).1)) := List.getElem?_eq_getElem _;obtain ⟨n1,a1,l1,c1,q⟩ := (h3.2 j p _ hp hz).zi.isI;have q1 := (e9 j p hp).1;rw [show p.1 = .bool n1 by rw [Prod.mk.injEq] at q;exact q.1] at q1;have q2 : w.heap[b]? = some (.cells #[.int .i64 x0,.int .i64 x1,.slice a l n] 24 (0,0)) := d;simp only [World.cell?,q2] at q1;simp at q1;generalize off + j * 2 = o at q1
   match o,q1 with
   | 0,q1 => simp at q1
   | 1,q1 => simp at q1
   | 2,q1 => simp at q1
   | o + 3,q1 => simp at q1
  have e : ∀ o,(put3 w b y0 y1 y2).cell? ⟨b',o,none⟩ = w.cell? ⟨b',o,none⟩ := fun o => by
   rw [World.cell?_setCell_other _ _ _ _ (by simp <;> omega),World.cell?_setCell_other _ _ _ _ (by simp <;> omega),World.cell?_setCell_other _ _ _ _ (by simp <;> omega)]
  rw [e,e];exact e9 j p hp
theorem Arr.ne {w : World} {g b i : Nat} {u : Value} {ps : List (Value × Value)} (h : Arr w g ps) (hne : b ≠ g) : Arr (w.setCell ⟨b,i,none⟩ u) g ps := ⟨h.1.ne hne,h.2⟩
theorem Arr.put3 {w : World} {g b : Nat} {ps : List (Value × Value)} (h : Arr w g ps) (hne : b ≠ g) (y0 y1 y2 : Value) : Arr (put3 w b y0 y1 y2) g ps := ((h.ne hne).ne hne).ne hne

theorem Zcs.at9 {B : Nat} {w : World} {b off l c : Nat} {ps : List (Value × Value)} {zs : List Int} {k : Nat} (h : Prs B w (.slice (some ⟨b,off,none⟩) l c) ps) (hz : Zcs w ps zs k) {i : Nat} (hi : i < zs.length) : ∃ n,∃ xs : List Int,∃ a c,w.cell? ⟨b,off + i * 2,none⟩ = some (.bool n) ∧ w.cell? ⟨b,off + i * 2 + 1,none⟩ = some (.slice a xs.length c) ∧ Zc w (.agg #[.bool n,.slice a xs.length c]) zs[i] k := by
 have hp : ps[i]? = some (ps[i]'(by rw [hz.1];exact hi)) := List.getElem?_eq_getElem _;have q := h.at hp;have z := hz.2 i _ _ hp (List.getElem?_eq_getElem hi);have z' := z;obtain ⟨n,xs,a,c,e,-⟩ := z;simp only [Value.agg.injEq,Array.mk.injEq,List.cons.injEq,and_true] at e;rw [e.1,e.2] at q;rw [e.1,e.2] at z';exact ⟨n,xs,a,c,q.1,q.2,z'⟩
def Snd (r c : Int) (l : Nat) : Prop := 0 ≤ r ∧ r ≤ 64 ∧ 0 ≤ c ∧ c ≤ 64 ∧ (l : Int) = r * c
def znC (w : World) (r c : Int) (l : Nat) (e : Ending) (w' : World) : Prop := ∃ b : Bool,e = .returned (.bool b) ∧ (b = true ↔ Snd r c l) ∧ Below w.heap.size w w'

open Go.ChangeShapes Go.WideShapes Go.ChangeAt Go.RowKit
theorem Tryz.cellsM9 : Tryz.prog.cellsOf 24 = 3 := by kernel_rfl
theorem Tryz.cellsI9 : Tryz.prog.cellsOf 3 = 1 := by kernel_rfl
theorem Tryz.cellsL9 : Tryz.prog.cellsOf 22 = 1 := by kernel_rfl
def Raw (w : World) (v : Value) (r c : Int) (l : Nat) (zs : List Int) : Prop := ∃ a cap ps,v = .agg #[.int .i64 r,.int .i64 c,.slice a l cap] ∧ Prs 0 w (.slice a l cap) ps ∧ Zis w ps zs 1048576 ∧ zs.length = l ∧ l ≤ 1048576
theorem Raw.mx {w : World} {v : Value} {r c l : Nat} {zs : List Int} (h : Raw w v (r : Int) (c : Int) l zs) (hs : Snd (r : Int) (c : Int) l) : Mx w v r c zs 1048576 := by
 obtain ⟨a,cap,ps,h1,h2,h3,h4,h5⟩ := h;obtain ⟨s1,s2,s3,s4,s5⟩ := hs;exact ⟨_,ps,h1,h2,h3,by rw [h4];exact Int.ofNat.inj (by simpa using s5),by omega,by omega⟩
theorem trod_struct3m {H : Type} {enc : TypeId × Value → H} {P : Program} {w : World} {base : Nat} {spare : Nat → Bool} {held : Bool} {t : TypeId} {f0 f1 f2 : Field} {fuel : Nat} {cs : List Value} {x : DataW H × List MemPlace} (ht : P.underlying t = some (.struct #[f0,f1,f2]))
  (h : DataW.trod enc P w base spare held fuel t cs = some x) :
  ∃ y0 y1 y2 n,x.1 = .agg [y0.1,y1.1,y2.1] ∧ cs.length = P.cellsOf t ∧ DataW.trod enc P w base spare held n f0.type ((cs.drop f0.offset).take (P.cellsOf f0.type)) = some y0 ∧ DataW.trod enc P w base spare held n f1.type ((cs.drop f1.offset).take (P.cellsOf f1.type)) = some y1 ∧ DataW.trod enc P w base spare held n f2.type ((cs.drop f2.offset).take (P.cellsOf f2.type)) = some y2 := by
 obtain ⟨xs,n,_,rfl,hl,hlen,hf⟩ := DataW.trod_struct ht h
 match xs,hlen with
 | [y0,y1,y2],_ => exact ⟨y0,y1,y2,n,by simp,hl,by simpa using hf 0 f0 rfl,by simpa using hf 1 f1 rfl,by simpa using hf 2 f2 rfl⟩
theorem open_list9 {H : Type} {enc : TypeId × Value → H} {W : World} {fuel : Nat} {v : Value} {y : DataW H × List MemPlace}
  (hf : DataW.trod enc Tryz.prog W 0 (fun _ => true) true fuel 22 [v] = some y) (hb : Rows.uptoBulk y.1 ≤ 1048576) :
  ∃ a l cap ps zs,v = .slice a l cap ∧ Prs 0 W (.slice a l cap) ps ∧ Zis W ps zs 1048576 ∧ zs.length = l ∧ l ≤ 1048576 := by
 have hn : ∀ c,v = .slice none 0 c → c = 0 := by
  rcases Deep.open_slice Tryz.underlying22 hf with ⟨hcs,_⟩ | ⟨x,len,cap,m,n,D,Pl,hcs,_⟩
  ·simp only [List.cons.injEq,and_true] at hcs
   intro c e;rw [hcs] at e
   simpa using e.symm
  ·simp only [List.cons.injEq,and_true] at hcs
   intro c e;rw [hcs] at e;simp at e
 obtain ⟨zs,ks,h1,h2⟩ := zfE hf hb;have hz := h1.zl (K := 1048576) (by omega);obtain ⟨ps,p1,p2⟩ := hz.prs hn;obtain ⟨a,c,e,-,hl,-⟩ := hz;subst e;exact ⟨a,zs.length,c,ps,zs,rfl,p1,p2,rfl,hl⟩
theorem open_mat9 {H : Type} {enc : TypeId × Value → H} {W : World} {r : Reach} {b0 : Nat} {v : Value} {d : DataW H} {p : List MemPlace}
  (hv : Value.okWide Tryz.prog W r b0 24 v) (h0 : DataW.Trod enc Tryz.prog W 0 (fun _ => true) true 24 v d p) (hb : Rows.uptoBulk d ≤ 1048576) :
  ∃ r c l zs,Raw W v r c l zs := by
 obtain ⟨cs,rfl,hsz⟩ := okWide_struct Tryz.underlying24 hv;obtain ⟨fuel,hf⟩ := h0;obtain ⟨y0,y1,y2,n,hx,hl,t0,t1,t2⟩ := trod_struct3m Tryz.underlying24 hf;obtain ⟨L,rfl⟩ : ∃ L : List Value,cs = L.toArray := ⟨cs.toList,by simp⟩
 simp only [Value.cells] at hl t0 t1 t2;rw [Tryz.cellsM9] at hl;have hx' : d = .agg [y0.1,y1.1,y2.1] := hx;subst hx';simp only [Rows.uptoBulk,Rows.uptoBulkAll] at hb
 match L,hl with
 | [e0,e1,e2],_ =>
  simp only [Tryz.cellsI9,Tryz.cellsL9,List.drop_zero,List.drop_succ_cons,List.take_succ_cons,List.take_zero] at t0 t1 t2;obtain ⟨k0,q0,_,_⟩ := DataW.trod_int Tryz.underlying3 t0;obtain ⟨k1,q1,_,_⟩ := DataW.trod_int Tryz.underlying3 t1;simp only [List.cons.injEq,and_true] at q0 q1;subst q0 q1;obtain ⟨a,l,cap,ps,zs,rfl,h1,h2,h3,h4⟩ := open_list9 t2 (by omega);exact ⟨_,_,l,zs,a,cap,ps,rfl,h1,h2,h3,h4⟩
end Go.Proofs.YtkklldokdnfkgaaGreat
namespace Go.Proofs.YtkklldokdnfkgaaGreat
def IsPr (n : Nat) : Prop := 2 ≤ n ∧ ∀ d,d ∣ n → d = 1 ∨ d = n
theorem ispr_odd {n d : Nat} (h1 : 1 < n) (h2 : n % 2 = 1) (hd : ∀ e,3 ≤ e → e % 2 = 1 → e < d → ¬ e ∣ n) (hn : n < d * d) : IsPr n := by
 refine ⟨h1,fun e he => ?_⟩;obtain ⟨f,rfl⟩ := he
 by_cases e1 : e = 1
 ·exact .inl e1
 ·by_cases f1 : f = 1
  ·right;subst f1;simp
  ·exfalso
   have eo : e % 2 = 1 := by
    rcases Nat.mod_two_eq_zero_or_one e with q | q
    ·rw [Nat.mul_mod,q] at h2;simp at h2
    ·exact q
   have fo : f % 2 = 1 := by
    rcases Nat.mod_two_eq_zero_or_one f with q | q
    ·rw [Nat.mul_mod,q] at h2;simp at h2
    ·exact q
   by_cases q : e < d
   ·exact hd e (by omega) eo q ⟨f,rfl⟩
   ·have : f < d := by
     apply Classical.byContradiction
     intro k;have := Nat.mul_le_mul (show d ≤ e by omega) (show d ≤ f by omega);omega
    exact hd f (by omega) fo this ⟨e,Nat.mul_comm _ _⟩
theorem zpG {n d : Nat} (h1 : 2 ≤ n) (hd : ∀ e,2 ≤ e → e < d → ¬ e ∣ n) (hn : n < d * d) : IsPr n := by
 refine ⟨h1,fun e he => ?_⟩;obtain ⟨f,rfl⟩ := he
 by_cases e1 : e = 1
 ·exact .inl e1
 ·by_cases f1 : f = 1
  ·right;subst f1;simp
  ·exfalso
   have e0 : e ≠ 0 := fun q => by subst q;simp at h1
   have f0 : f ≠ 0 := fun q => by subst q;simp at h1
   by_cases q : e < d
   ·exact hd e (by omega) q ⟨f,rfl⟩
   ·have : f < d := by
     apply Classical.byContradiction
     intro k;have := Nat.mul_le_mul (show d ≤ e by omega) (show d ≤ f by omega);omega
    exact hd f (by omega) this ⟨e,Nat.mul_comm _ _⟩
theorem zkG {n d : Nat} (h1 : 2 ≤ d) (h2 : d * d ≤ n) (h : d ∣ n) : ¬ IsPr n := fun hp => by
 rcases hp.2 d h with q | q
 ·omega
 ·subst q
  have := Nat.mul_le_mul (Nat.le_refl d) h1;omega
theorem zgF {n : Nat} (h : n % 2 = 0) : IsPr n ↔ n = 2 := by
 refine ⟨fun hp => ?_,fun e => ?_⟩
 ·rcases hp.2 2 (Nat.dvd_of_mod_eq_zero h) with q | q <;> omega
 ·subst e
  exact zpG (d := 2) (by omega) (fun e h1 h2 => by omega) (by omega)
theorem IsPr.euclid {p a b : Nat} (hp : IsPr p) (h : p ∣ a * b) : p ∣ a ∨ p ∣ b := by
 rcases hp.2 (Nat.gcd p a) (Nat.gcd_dvd_left p a) with q | q
 ·right
  exact Nat.Coprime.dvd_of_dvd_mul_left (k := p) (m := a) (n := b) q h
 ·left
  rw [← q];exact Nat.gcd_dvd_right p a
theorem prod_perm {l m : List Nat} (h : l.Perm m) : l.foldr (· * ·) 1 = m.foldr (· * ·) 1 := by
 induction h with
 | nil => rfl
 | cons x _ ih => simp [ih]
 | swap x y l => simp only [List.foldr_cons];rw [Nat.mul_left_comm]
 | trans _ _ i1 i2 => rw [i1,i2]
theorem zXD {α β : Type} {f : α → β} : ∀ {l : List α},l.Nodup → (∀ x ∈ l,∀ y ∈ l,f x = f y → x = y) → (l.map f).Nodup
 | [],_,_ => by simp
 | a :: l,h,hi => by
  rw [List.nodup_cons] at h;rw [List.map_cons,List.nodup_cons];refine ⟨fun hm => ?_,zXD h.2 (fun x hx y hy => hi x (by simp [hx]) y (by simp [hy]))⟩;obtain ⟨b,hb,e⟩ := List.mem_map.1 hm;have := hi b (by simp [hb]) a (by simp) e;exact h.1 (this ▸ hb)
theorem mem_of_full {l m : List Nat} (hl : l.Nodup) (hs : ∀ x ∈ l,x ∈ m) (hn : m.length ≤ l.length) : ∀ x ∈ m,x ∈ l := by
 intro x hx
 apply Classical.byContradiction
 intro hc;have h1 : (x :: l).Nodup := List.nodup_cons.2 ⟨hc,hl⟩;have := List.Nodup.length_le_of_subset h1 (fun y hy => by
  rcases List.mem_cons.1 hy with q | q
  ·subst q;exact hx
  ·exact hs y q)
 simp at this;omega
theorem zlG {p a : Nat} : ∀ l : List Nat,((l.map fun k => a * k % p).foldr (· * ·) 1) % p = (a ^ l.length * l.foldr (· * ·) 1) % p
 | [] => by simp
 | k :: l => by
  simp only [List.map_cons,List.foldr_cons,List.length_cons];rw [Nat.mul_mod,zlG l,Nat.mod_mod,← Nat.mul_mod]
  congr 1
  rw [Nat.pow_succ];simp only [Nat.mul_assoc,Nat.mul_left_comm,Nat.mul_comm]
theorem zwG {p : Nat} (hp : IsPr p) : ∀ l : List Nat,(∀ x ∈ l,1 ≤ x ∧ x < p) → ¬ p ∣ l.foldr (· * ·) 1
 | [],_,h => by
  have := Nat.le_of_dvd (by simp) h;have := hp.1;simp at *;omega
 | k :: l,hl,h => by
  rcases hp.euclid h with q | q
  ·have h1 := hl k (by simp)
   have := Nat.le_of_dvd h1.1 q;omega
  ·exact zwG hp l (fun x hx => hl x (by simp [hx])) q
theorem zcC {p x y : Nat} (h : x % p = y % p) (hxy : x ≤ y) : p ∣ y - x := by
 refine ⟨y / p - x / p,?_⟩;have h1 := Nat.div_add_mod x p;have h2 := Nat.div_add_mod y p;rw [Nat.mul_sub];omega
theorem mod_of_dvd_sub {p x y : Nat} (h : p ∣ y - x) (hxy : x ≤ y) : x % p = y % p := by
 obtain ⟨k,hk⟩ := h;have : y = x + p * k := by omega
 rw [this,Nat.add_mul_mod_self_left]
theorem fermat {p a : Nat} (hp : IsPr p) (ha : ¬ p ∣ a) : a ^ (p - 1) % p = 1 := by
 have h2 := hp.1;have hmem : ∀ x,x ∈ List.range' 1 (p - 1) ↔ 1 ≤ x ∧ x < p := fun x => by
  rw [List.mem_range'_1];omega
 have hinj : ∀ x ∈ List.range' 1 (p - 1),∀ y ∈ List.range' 1 (p - 1),a * x % p = a * y % p → x = y := by
  have key : ∀ x y,1 ≤ x → y < p → x ≤ y → a * x % p = a * y % p → x = y := fun x y hx hy hxy e => by
   have : p ∣ a * y - a * x := zcC e (Nat.mul_le_mul_left a hxy);rw [← Nat.mul_sub] at this;rcases hp.euclid this with q | q
   ·exact absurd q ha
   ·by_cases z : y - x = 0
    ·omega
    ·have := Nat.le_of_dvd (by omega) q
     omega
  intro x hx y hy e;rw [hmem] at hx hy;rcases Nat.le_total x y with q | q
  ·exact key x y hx.1 hy.2 q e
  ·exact (key y x hy.1 hx.2 q e.symm).symm
 have hperm : ((List.range' 1 (p - 1)).map fun k => a * k % p).Perm (List.range' 1 (p - 1)) := by
  have n1 : ((List.range' 1 (p - 1)).map fun k => a * k % p).Nodup := zXD List.nodup_range' hinj;have hs : ∀ x ∈ ((List.range' 1 (p - 1)).map fun k => a * k % p),x ∈ List.range' 1 (p - 1) := fun x hx => by
   obtain ⟨k,hk,rfl⟩ := List.mem_map.1 hx;rw [hmem] at hk ⊢;refine ⟨?_,Nat.mod_lt _ (by omega)⟩
   apply Nat.pos_of_ne_zero
   intro e;rcases hp.euclid (Nat.dvd_of_mod_eq_zero e) with q | q
   ·exact ha q
   ·have := Nat.le_of_dvd (by omega) q
    omega
  exact (List.perm_ext_iff_of_nodup n1 List.nodup_range').2 fun x => ⟨hs x,mem_of_full n1 hs (by simp) x⟩
 have e1 := zlG (p := p) (a := a) (List.range' 1 (p - 1));rw [prod_perm hperm] at e1;have hc := zwG hp (List.range' 1 (p - 1)) (fun x hx => (hmem x).1 hx);rw [List.length_range'] at e1;generalize (List.range' 1 (p - 1)).foldr (· * ·) 1 = F at *;have hpos : 1 ≤ a ^ (p - 1) := Nat.pos_of_ne_zero fun e => by
  have : a = 0 := (Nat.pow_eq_zero.1 e).1;exact ha (this ▸ Nat.dvd_zero p)
 have : p ∣ a ^ (p - 1) * F - F := zcC e1 (by have := Nat.mul_le_mul_right F hpos;omega);rw [show a ^ (p - 1) * F - F = (a ^ (p - 1) - 1) * F by rw [Nat.sub_mul,Nat.one_mul]] at this;rcases hp.euclid this with q | q
 ·have := mod_of_dvd_sub q hpos
  have e : 1 % p = 1 := Nat.mod_eq_of_lt (by omega);exact this.symm.trans e
 ·exact absurd q hc
theorem zmE {p a : Nat} (hp : IsPr p) (ha : ¬ p ∣ a) : a * (a ^ (p - 2) % p) % p = 1 := by
 have h2 := hp.1;rw [Nat.mul_mod,Nat.mod_mod,← Nat.mul_mod,Nat.mul_comm,← Nat.pow_succ,show (p - 2).succ = p - 1 by omega];exact fermat hp ha
end Go.Proofs.YtkklldokdnfkgaaGreat
