import Derived.Test.YtffkmeocmjohmaaGreatQFb17ToLk17
import Derived.Test.YtffkmeocmjohmaaGreatQEm17ToOv17
import Derived.Test.YtffkmeocmjohmaaGreatQCat9
set_option maxRecDepth 100000
set_option maxHeartbeats 6400000
set_option linter.unusedVariables false
set_option linter.unusedSimpArgs false
namespace Go.Proofs.YtffkmeocmjohmaaGreat
open Go.RowKit
open Q17 (Rref Eqv Comb)
attribute [local go_sem] zjC
theorem zAI {f : Func} {s1 s2 s3 : Nat} (hr : f.results = #[ResultVar.cell s1 24,ResultVar.tmp s2,ResultVar.tmp s3]) {W : World} {b : Nat} {x0 x1 x2 u e : Value} (h : Cel W b 24 [x0,x1,x2]) (tmps : Array Value) (ht : tmps[s1]? = some (.pointer (some ⟨b,0,none⟩))) (hu : tmps[s2]? = some u) (he : tmps[s3]? = some e) :
  (results f tmps).run Tryz.prog W = .ok (.tuple #[.agg #[x0,x1,x2],u,e]) W := by
 simp [results,hr,go_sem,ht,hu,he,h.at (i := 0) rfl,h.at (i := 1) rfl,h.at (i := 2) rfl]
abbrev qm0 : Value := .agg #[.int .i64 0,.int .i64 0,.slice none 0 0]
def qfr (c : Nat) (P Q : Nat → Int) (i j : Nat) : Rat := Rat.divInt (P (i * c + j)) (Q (i * c + j))
def MetE (A : Nat → Nat → Int) (W : World) (m n c k : Nat) (s : Value) (wx : World) : Prop :=
 ∃ b6 nx ax lx cx lv nd ad ld cd vv gs L d pv,s = .pointer (some ⟨b6,0,none⟩) ∧ W.heap.size ≤ b6 ∧ Cel wx b6 64 [.bool nx,.slice ax lx cx,zhA,zAB,zGB,zHB,lv,.bool nd,.slice ad ld cd,vv] ∧ Zm 0 wx (.agg #[.bool nd,.slice ad ld cd]) d k ∧ Ivs W.heap.size wx vv pv ∧ Sh17 W.heap.size wx lv m n gs L k ∧ Els A m n c L d pv ∧ Below W.heap.size W wx
theorem Eld.form {A : Nat → Nat → Int} {B : Nat} {w w' : World} {m n c k : Nat} {e : Ending} (h : Eld A B w m n c k e w') : ∃ nx ax lx cx la lc nd ad ld cd va pl vc gs L d pv,e = .returned (.agg #[.bool nx,.slice ax lx cx,zhA,zAB,zGB,zHB,.slice la m lc,.bool nd,.slice ad ld cd,.slice va pl vc]) ∧ pv.length = pl ∧ Zm 0 w' (.agg #[.bool nd,.slice ad ld cd]) d k ∧ Ivs B w' (.slice va pl vc) pv ∧ Sh17 B w' (.slice la m lc) m n gs L k ∧ Els A m n c L d pv ∧ Below B w w' := by
 obtain ⟨nx,ax,lx,cx,lv,nd,ad,ld,cd,vv,gs,L,d,pv,rfl,z1,z2,z3,z4,b3⟩ := h;obtain ⟨va,vc,rfl,-,-⟩ := z2.form;obtain ⟨la,lc,rfl⟩ : ∃ la lc,lv = .slice la m lc := by
  rcases z3.1 with ⟨rfl,h⟩ | ⟨h,Lb,cap,r,e,_⟩
  ·exact ⟨_,_,h⟩
  ·exact ⟨_,_,e⟩
 exact ⟨nx,ax,lx,cx,la,lc,nd,ad,ld,cd,va,_,vc,gs,L,d,pv,rfl,rfl,z1,z2,z3,z4,b3⟩
theorem Sh17.prr {B m n k : Nat} {w : World} {lv : Value} {gs : Nat → Nat} {L : Nat → Nat → Int} (h : Sh17 B w lv m n gs L k) (hm : m ≤ 64) (hn : n ≤ 128) : ∃ pss,Prr 0 w lv pss ∧ zpI n pss ∧ pss.length = m ∧ Zms w pss.flatten ((List.range m).map fun i => (List.range n).map (L i)).flatten k := by
 obtain ⟨h1,h2,h3⟩ := h;obtain ⟨q,hq⟩ := Deep.choose_lt (α := List (Value × Value)) (n := m) (p := fun i ps => Arr w (gs i) ps ∧ Zms w ps ((List.range n).map (L i)) k) (fun i hi => by
  obtain ⟨ps,p1,p2⟩ := (h3 i hi).2;exact ⟨ps,p1,p2⟩)
 have hat : ∀ j ps,((List.range m).map q)[j]? = some ps → j < m ∧ ps = q j := fun j ps hp => by
  have hj : j < m := by simpa using (List.getElem?_eq_some_iff.1 hp).1
  rw [List.getElem?_map,List.getElem?_range hj] at hp;exact ⟨hj,by simpa using hp.symm⟩
 have hl : ∀ j,j < m → (q j).length = n := fun j hj => by rw [(hq j hj).2.1];simp
 refine ⟨(List.range m).map q,?_,fun ps hps => ?_,by simp,Zmss.flat ⟨by simp,fun j ps hp => ?_⟩⟩
 ·rcases h1 with ⟨h0,rfl⟩ | ⟨h0,Lb,cap,r,rfl,e0,e1,e2⟩
  ·subst h0
   exact ⟨none,0,by simp,by simp,by simp,.inl rfl⟩
  ·refine ⟨_,cap,by simp,by simpa using e0,by simp;omega,.inr ⟨Lb,0,rfl,e2.blk,fun j ps hp => ?_⟩⟩
   obtain ⟨hj,rfl⟩ := hat j ps hp;refine ⟨rowv n (gs j),by rw [Nat.zero_add];exact e2.at (zfF hj),?_⟩;have := (hq j hj).1.prs (B := 0) (Nat.zero_le _) (by rw [hl j hj];omega) (Nat.le_refl _);rw [hl j hj] at this;exact this
 ·obtain ⟨j,hj⟩ := List.mem_iff_getElem?.1 hps
  obtain ⟨hj',rfl⟩ := hat j ps hj;exact ⟨hl j hj',(hq j hj').1.2⟩
 ·obtain ⟨hj,rfl⟩ := hat j ps hp
  have e : (((List.range m).map fun i => (List.range n).map (L i)).getD j []) = (List.range n).map (L j) := by simp [hj]
  rw [e];exact (hq j hj).2
theorem zjB (m n : Nat) (L : Nat → Nat → Int) : (((List.range m).map fun i => (List.range n).map (L i)).flatten).length = m * n := by
 induction m with
 | zero => simp
 | succ m ih => rw [List.range_succ,List.map_append,List.flatten_append,List.length_append,ih,Nat.succ_mul];simp
theorem zGF {m n t : Nat} {L : Nat → Nat → Int} (ht : t < m * n) : (((List.range m).map fun i => (List.range n).map (L i)).flatten).getD t 0 = L (t / n) (t % n) := by
 have hn : 0 < n := Nat.pos_of_ne_zero fun e => by subst e;simp at ht
 induction m with
 | zero => simp at ht
 | succ m ih =>
  rw [List.range_succ,List.map_append,List.flatten_append,List.getD_eq_getElem?_getD];have el := zjB m n L
  by_cases q : t < m * n
  ·rw [List.getElem?_append_left (by rw [el];exact q),← List.getD_eq_getElem?_getD]
   exact ih q
  ·rw [List.getElem?_append_right (by rw [el];omega),el]
   have h1 : t - m * n < n := by rw [Nat.succ_mul] at ht;omega
   have e1 : t / n = m := by
    rw [show t = n * m + (t - m * n) by rw [Nat.mul_comm n m];omega,Nat.mul_add_div hn,Nat.div_eq_of_lt h1];rfl
   have e2 : t % n = t - m * n := by
    conv => lhs;rw [show t = n * m + (t - m * n) by rw [Nat.mul_comm n m];omega]
    rw [Nat.mul_add_mod,Nat.mod_eq_of_lt h1]
   simp [h1,e1,e2]
theorem zeA {m n i j : Nat} (hi : i < m) (hj : j < n) : i * n + j < m * n := by
 have h := Nat.mul_le_mul_right n (show i + 1 ≤ m from hi);rw [Nat.succ_mul] at h;omega
theorem form_bad {w : World} {r c : Int} {a : Option Addr} {l cap k : Nat} {P Q : Nat → Int} (hv : Qs w (.slice a l cap) l P Q k) (hb : ¬ Snd r c l ∨ ∃ t,t < l ∧ Q t = 0) :
  Calls Tryz.prog 6 #[.agg #[.int .i64 r,.int .i64 c,.slice a l cap]] w fun e w' => ∃ code : Int,e = .returned (.tuple #[qm0,.slice none 0 0,.int .i64 code]) ∧ ((code = 1 ∧ ¬ Snd r c l) ∨ (code = 4 ∧ Snd r c l)) ∧ Below w.heap.size w w' := by
 obtain ⟨W1,hW⟩ : ∃ W1,((w.alloc (.cells #[.int .i64 r,.int .i64 c,.slice a l cap] 24)).alloc (.cells #[.int .i64 0,.int .i64 0,.slice none 0 0] 24)).alloc (.cells #[.int .i64 r,.int .i64 c,.slice a l cap] 24) = W1 := ⟨_,rfl⟩
 obtain ⟨b0,sz0⟩ := ztA w (.cells #[.int .i64 r,.int .i64 c,.slice a l cap] 24) (.cells #[.int .i64 0,.int .i64 0,.slice none 0 0] 24) (.cells #[.int .i64 r,.int .i64 c,.slice a l cap] 24);rw [hW] at b0 sz0;have CQ : Hid (Cel W1 w.heap.size 24 [.int .i64 r,.int .i64 c,.slice a l cap]) := by
  unfold Hid;rw [← hW];exact ((Cel.new w 24 [.int .i64 r,.int .i64 c,.slice a l cap]).step (alo1 _ _).1).step (alo1 _ _).1
 have C0 : Hid (Cel W1 (w.heap.size + 1) 24 [.int .i64 0,.int .i64 0,.slice none 0 0]) := by
  unfold Hid;rw [← hW];have := (Cel.new (w.alloc (.cells #[.int .i64 r,.int .i64 c,.slice a l cap] 24)) 24 [.int .i64 0,.int .i64 0,.slice none 0 0]).step (alo1 _ (.cells #[.int .i64 r,.int .i64 c,.slice a l cap] 24)).1
  simpa using this
 have CA : Cel W1 (w.heap.size + 1 + 1) 24 [.int .i64 r,.int .i64 c,.slice a l cap] := by
  rw [← hW];have := Cel.new ((w.alloc (.cells #[.int .i64 r,.int .i64 c,.slice a l cap] 24)).alloc (.cells #[.int .i64 0,.int .i64 0,.slice none 0 0] 24)) 24 [.int .i64 r,.int .i64 c,.slice a l cap]
  simpa using this
 have HF := hid (zhF (w := W1) (w0 := W1) (g := w.heap.size + 1 + 1) (n := 1) (k := k) (q := fun _ => ⟨r,c,a,l,cap⟩) (P := fun _ => P) (Q := fun _ => Q) (fits := true) (by omega) (fun j hj => by
  obtain rfl : j = 0 := by omega
  exact ⟨CA.at (i := 0) rfl,CA.at (i := 1) rfl,CA.at (i := 2) rfl⟩) (fun j hj => hv.now b0))
 have B0 := hid b0;have EW := hid hW;have x0 := CQ.out.at (i := 0) rfl;have x1 := CQ.out.at (i := 1) rfl;have x2 := CQ.out.at (i := 2) rfl;rw [← hW] at x0 x1 x2;clear b0 sz0 hW CA;go_enter Tryz.func6,Tryz.ntmps6;go_wp2_with fail;rw [EW.out];refine HF.out.mono ?_;rintro e w1 ⟨code,rfl,hcode,b1⟩;have hc0 : code ≠ 0 ∧ ((code = 1 ∧ ¬ Snd r c l) ∨ (code = 4 ∧ Snd r c l)) := by
  rcases hcode with ⟨h1,h2⟩ | ⟨h1,h2,h3⟩ | ⟨h1,h2,h3,h4⟩ | ⟨h1,h2,h3,h4⟩
  ·obtain ⟨j,hj,h⟩ := h2
   exact ⟨by omega,.inl ⟨h1,h⟩⟩
  ·cases h3
  ·exact ⟨by omega,.inr ⟨h1,Classical.byContradiction fun q => h2 ⟨0,by omega,q⟩⟩⟩
  ·rcases hb with q | ⟨t,ht,q⟩
   ·exact absurd ⟨0,by omega,q⟩ h2
   ·exact absurd ⟨0,by omega,t,ht,q⟩ h4
 have C2 := C0.out.step b1;have c0 := C2.at (i := 0) rfl;have c1 := C2.at (i := 1) rfl;have c2 := C2.at (i := 2) rfl;have f0 := C2.fz 0;have f1 := C2.fz 1;have f2 := C2.fz 2;have hne : (code != 0) = true := by simp [hc0.1]
 have hne2 : ¬ code = 0 := hc0.1;obtain ⟨V,hV⟩ : ∃ V,((w1.setCell ⟨w.heap.size + 1,0,none⟩ (.int .i64 0)).setCell ⟨w.heap.size + 1,1,none⟩ (.int .i64 0)).setCell ⟨w.heap.size + 1,2,none⟩ (.slice none 0 0) = V := ⟨_,rfl⟩
 have DR : Hid (Cel V (w.heap.size + 1) 24 [.int .i64 0,.int .i64 0,.slice none 0 0]) := by unfold Hid;rw [← hV];exact ((C2.set 0 _).set 1 _).set 2 _
 have FF : Hid (∃ code' : Int,(Ending.returned (.tuple #[qm0,.slice none 0 0,.int .i64 code])) = .returned (.tuple #[qm0,.slice none 0 0,.int .i64 code']) ∧ ((code' = 1 ∧ ¬ Snd r c l) ∨ (code' = 4 ∧ Snd r c l)) ∧ Below w.heap.size w V) := by
  refine ⟨code,rfl,hc0.2,?_⟩;rw [← hV];have h : w.heap.size ≤ w.heap.size + 1 := by omega
  exact bset (bset (bset (zAA B0.out b1) h) h) h
 have EV := hid hV;clear HF hcode b1 hc0 hb C2 hV EW B0 C0;go_wp2;rw [EV.out];exact bodyPost_ret (zAI Tryz.results6 DR.out _ (by rfl) (by rfl) (by rfl)) rfl FF.out
def zqF (w : World) (r c : Nat) (P Q : Nat → Int) (k : Nat) (e : Ending) (w' : World) : Prop :=
 ∃ g va pl vc E pv,e = .returned (.tuple #[qmv r c (.slice (some ⟨g,0,none⟩) (r * c) (r * c)),.slice va pl vc,.int .i64 0]) ∧ pv.length = pl ∧ FilQ w' g (r * c) (r * c) (fun t => E (t / c) (t % c)) k ∧ Ivs w.heap.size w' (.slice va pl vc) pv ∧ Rref r c E pv ∧ Eqv c r E (qfr c P Q) ∧ Below w.heap.size w w'
theorem rq_divInt (L : Nat → Nat → Int) (d : Int) (i j : Nat) : Rat.divInt (L i j) d = rq L d i j := by
 unfold rq;rw [Rat.divInt_eq_div,Rat.div_def]
theorem zlG {c r : Nat} {P Q : Nat → Int} : Eqv c r (qm (wha c (rwP c P) (rwP c Q))) (qfr c P Q) := by
 refine Q17.eqv_scale (d := fun i => ((lcn (fun j => qfr c P Q i j) c : Int) : Rat)) (fun i hi => zpC (by have := zRE (fun j => qfr c P Q i j) c;omega)) fun i j hi hj => ?_
 have h := whl_rat (fun j => qfr c P Q i j) hj;unfold qm wha
 show ((whl (fun j => qfr c P Q i j) c j : Int) : Rat) = _
 rw [h]
 grind
theorem zND {w : World} {rn cn : Nat} {a : Option Addr} {l cap k KW : Nat} {P Q : Nat → Int} (hv : Qs w (.slice a l cap) l P Q k) (hl : l = rn * cn) (hr : rn ≤ 64) (hc : cn ≤ 64) (hQ : ∀ t,t < l → Q t ≠ 0) (hk : k ≤ 400000000) (hk1 : 1 ≤ k)
  (hK : ∀ f,((dcl (wha cn (rwP cn P) (rwP cn Q)) rn cn f).natAbs : Int) < pw KW) (h1 : 1 ≤ KW) (hkw : KW ≤ 68719476736) :
  Calls Tryz.prog 6 #[qmv rn cn (.slice a l cap)] w (zqF w rn cn P Q KW) := by
 have hS : Snd (rn : Int) (cn : Int) l := ⟨by omega,by omega,by omega,by omega,by rw [hl];exact Int.natCast_mul _ _⟩
 obtain ⟨r,hr'⟩ : ∃ r : Int,(rn : Int) = r := ⟨_,rfl⟩
 obtain ⟨c,hc'⟩ : ∃ c : Int,(cn : Int) = c := ⟨_,rfl⟩
 have ER := hid hr';have EC := hid hc';rw [hr',hc'] at hS
 show Calls Tryz.prog 6 #[.agg #[.int .i64 (rn : Int),.int .i64 (cn : Int),.slice a l cap]] w _
 rw [hr',hc'];clear hr' hc';obtain ⟨W1,hW⟩ : ∃ W1,((w.alloc (.cells #[.int .i64 r,.int .i64 c,.slice a l cap] 24)).alloc (.cells #[.int .i64 0,.int .i64 0,.slice none 0 0] 24)).alloc (.cells #[.int .i64 r,.int .i64 c,.slice a l cap] 24) = W1 := ⟨_,rfl⟩
 obtain ⟨b0,sz0⟩ := ztA w (.cells #[.int .i64 r,.int .i64 c,.slice a l cap] 24) (.cells #[.int .i64 0,.int .i64 0,.slice none 0 0] 24) (.cells #[.int .i64 r,.int .i64 c,.slice a l cap] 24);rw [hW] at b0 sz0;have CQ : Hid (Cel W1 w.heap.size 24 [.int .i64 r,.int .i64 c,.slice a l cap]) := by
  unfold Hid;rw [← hW];exact ((Cel.new w 24 [.int .i64 r,.int .i64 c,.slice a l cap]).step (alo1 _ _).1).step (alo1 _ _).1
 have C0 : Hid (Cel W1 (w.heap.size + 1) 24 [.int .i64 0,.int .i64 0,.slice none 0 0]) := by
  unfold Hid;rw [← hW];have := (Cel.new (w.alloc (.cells #[.int .i64 r,.int .i64 c,.slice a l cap] 24)) 24 [.int .i64 0,.int .i64 0,.slice none 0 0]).step (alo1 _ (.cells #[.int .i64 r,.int .i64 c,.slice a l cap] 24)).1
  simpa using this
 have CA : Cel W1 (w.heap.size + 1 + 1) 24 [.int .i64 r,.int .i64 c,.slice a l cap] := by
  rw [← hW];have := Cel.new ((w.alloc (.cells #[.int .i64 r,.int .i64 c,.slice a l cap] 24)).alloc (.cells #[.int .i64 0,.int .i64 0,.slice none 0 0] 24)) 24 [.int .i64 r,.int .i64 c,.slice a l cap]
  simpa using this
 have HF := hid (zhF (w := W1) (w0 := W1) (g := w.heap.size + 1 + 1) (n := 1) (k := k) (q := fun _ => ⟨r,c,a,l,cap⟩) (P := fun _ => P) (Q := fun _ => Q) (fits := true) (by omega) (fun j hj => by
  obtain rfl : j = 0 := by omega
  exact ⟨CA.at (i := 0) rfl,CA.at (i := 1) rfl,CA.at (i := 2) rfl⟩) (fun j hj => hv.now b0))
 have B0 := hid b0;have EW := hid hW;have x0 := CQ.out.at (i := 0) rfl;have x1 := CQ.out.at (i := 1) rfl;have x2 := CQ.out.at (i := 2) rfl;rw [← hW] at x0 x1 x2;clear b0 sz0 hW CA;have HRO : Hid (∀ {w' : World},Below w.heap.size w w' → Calls Tryz.prog 23 #[.agg #[.int .i64 r,.int .i64 c,.slice a l cap]] w' (Rod w w' rn cn P Q k)) := fun _ => by
  rw [← ER.out,← EC.out];exact zFG hv hl hr hc
 have HQ2 : Hid (∀ i j,i < rn → j < cn → rwP cn Q i j ≠ 0) := fun i j hi hj => hQ _ (by rw [hl];exact zeA hi hj)
 have HEL : Hid (∀ {w' : World} {v : Value},QLs w' v rn cn (rwP cn P) (rwP cn Q) k → Calls Tryz.prog 22 #[v,.int .i64 c] w' (Eld (wha cn (rwP cn P) (rwP cn Q)) w'.heap.size w' rn cn cn KW)) := fun h => by
  rw [← EC.out];exact eliminated_any h HQ2.out hr (by omega) hk hk1 (Nat.le_refl _) hK h1 (by omega)
 have HL := hid hl;have HKW := hid hkw;have HQQ := hid hQ;clear hv hl hQ hk hk1 hK h1 hkw;go_enter Tryz.func6,Tryz.ntmps6;go_wp2_with fail;rw [EW.out];refine HF.out.mono ?_;rintro e w1 ⟨code,rfl,hcode,b1⟩;obtain rfl : code = 0 := by
  rcases hcode with ⟨h1,j,hj,h2⟩ | ⟨h1,h2,h3⟩ | ⟨h1,h2,h3,j,hj,t,ht,h4⟩ | ⟨h1,h2,h3,h4⟩
  ·exact absurd hS h2
  ·cases h3
  ·exact absurd h4 (HQQ.out t ht)
  ·exact h1
 have CQ1 := hid (CQ.out.step b1);have C1 := hid (C0.out.step b1);have G1 := hid (zAA B0.out b1);have HBQ : Hid (w.heap.size + 1 < w1.heap.size) := C1.out.blk;have y0 := CQ1.out.at (i := 0) rfl;have y1 := CQ1.out.at (i := 1) rfl;have y2 := CQ1.out.at (i := 2) rfl;clear HF hcode b1 CQ C0 B0 EW x0 x1 x2 hS HQQ HQ2;go_wp2_with fail
 go_cut [6] from 7 (fun s1 wx => MetE (wha cn (rwP cn P) (rwP cn Q)) w1 rn cn cn KW s1 wx)
 case first =>
  have KB : Hid (∀ w',Below w1.heap.size w1 w' → w'.cell? ⟨w.heap.size,0,none⟩ = some (.int .i64 r) ∧ w'.cell? ⟨w.heap.size,1,none⟩ = some (.int .i64 c) ∧ w'.cell? ⟨w.heap.size,2,none⟩ = some (.slice a l cap)) := fun w' h => ⟨cnow h y0,cnow h y1,cnow h y2⟩
  refine zFA (fun w' => w'.cell? ⟨w.heap.size,0,none⟩ = some (.int .i64 r) ∧ w'.cell? ⟨w.heap.size,1,none⟩ = some (.int .i64 c) ∧ w'.cell? ⟨w.heap.size,2,none⟩ = some (.slice a l cap)) 6 (by kernel_rfl) ?_;obtain ⟨D1,hD⟩ : ∃ D1,w1.drew = D1 := ⟨_,rfl⟩
  have GB : Hid (Below w1.heap.size w1 D1) := by unfold Hid;rw [← hD];exact (Below.refl _ _).drew
  rw [hD];clear hD;have GZ : Hid (w1.heap.size ≤ D1.heap.size) := GB.out.size;refine zDA [(0,(.agg #[.int .i64 r,.int .i64 c,.slice a l cap])),(2,(.pointer (some ⟨w.heap.size,1,none⟩))),(3,(.int .i64 c))] 3 ?_ (KB.out _ GB.out) ?_
  ·simp only [zJA,gA9,g09,g19,Act.put,sI9,s09,s19]
   (repeat' (first | exact trivial | refine And.intro (Or.inl ⟨by rfl,?_⟩) ?_)) <;> (intro w hSw;(try dsimp only at hSw);go_simp)
  simp only [actV,gA9,g09,g19,Act.put,sI9,s09,s19];refine zRA (i := 1) (j := 5) (oi := ⟨some 16,.call { callee := .value (.func 23),args := #[.tmp 15],argTypes := #[24] },66, "rref.go:51",#[⟨0,.data⟩],none⟩) (oj := ⟨some 6,.alloc 64,0, "rref.go:51",#[],none⟩) (by kernel_rfl) rfl rfl (fun K hK => ?_) (fun K hK => ?_)
  ·skip
   go_simp;go_at_call 23;refine (HRO.out (zAA G1.out GB.out)).mono ?_;rintro e w2 ⟨gr,rfl,hgr,hfil,b⟩;have lz2 := (show Below _ _ _ from b).size;replace GB := hid (zAA GB.out b);have QL := hid (hfil.qls (zAA G1.out GB.out));clear hfil;replace GZ : Hid (w1.heap.size ≤ w2.heap.size) := GB.out.size;clear b;refine hK.out _ _ (fun _ => KB.out _ GB.out) ?_;clear hK;refine zRA (i := 4) (j := 5) (oi := ⟨some 19,.call { callee := .value (.func 22),args := #[.tmp 16,.tmp 18],argTypes := #[66,3] },64, "rref.go:51",#[⟨1,.data⟩,⟨3,.data⟩,⟨1,.chain⟩],none⟩) (oj := ⟨some 6,.alloc 64,0, "rref.go:51",#[],none⟩) (by kernel_rfl) rfl rfl (fun K hK => ?_) (fun K hK => ?_)
   ·skip
    go_simp;go_at_call 22;refine (HEL.out QL.out).mono ?_;rintro e w3 hE;obtain ⟨nx,ax,lx,cx,la,lc,nd,ad,ld,cd,va,pl,vc,gs,L,d,pv,rfl,hpl,t1,t2,t3,t4,b⟩ := hE.form;clear hE QL;have EE : Hid (Ivs w1.heap.size w3 (.slice va pl vc) pv ∧ Sh17 w1.heap.size w3 (.slice la rn lc) rn cn gs L KW ∧ Zm 0 w3 (.agg #[.bool nd,.slice ad ld cd]) d KW) := ⟨znA t2 GZ.out,t3.mono GZ.out,t1⟩
    have ELS := hid t4;replace GB := hid (zAA GB.out b);replace GZ : Hid (w1.heap.size ≤ w3.heap.size) := GB.out.size;clear t1 t2 t3 t4 hpl b;refine hK.out _ _ (fun _ => KB.out _ GB.out) ?_;clear hK;refine zBA (i := 5) (o := ⟨some 6,.alloc 64,0, "rref.go:51",#[],none⟩) (by kernel_rfl) rfl (fun K hK => ?_);go_simp;obtain ⟨V4,hW⟩ : ∃ V4,w3.alloc (.cells #[.bool false,.slice none 0 0,.nilFunc,.nilFunc,.nilFunc,.nilFunc,.slice none 0 0,.bool false,.slice none 0 0,.slice none 0 0] 64) = V4 := ⟨_,rfl⟩
    obtain ⟨b,sz4⟩ := alo1 w3 (.cells #[.bool false,.slice none 0 0,.nilFunc,.nilFunc,.nilFunc,.nilFunc,.slice none 0 0,.bool false,.slice none 0 0,.slice none 0 0] 64);rw [hW] at b sz4;replace GB := hid (zAA GB.out b);have DX : Hid (Cel V4 w3.heap.size 64 [.bool false,.slice none 0 0,.nilFunc,.nilFunc,.nilFunc,.nilFunc,.slice none 0 0,.bool false,.slice none 0 0,.slice none 0 0]) := by unfold Hid;rw [← hW];exact Cel.new w3 _ _
    have SX := hid (show w1.heap.size ≤ w3.heap.size from GZ.out);replace GZ : Hid (w1.heap.size ≤ V4.heap.size) := GB.out.size;replace EE := hid (⟨EE.out.1.now b,EE.out.2.1.now b,EE.out.2.2.now b⟩ : _ ∧ _ ∧ _);clear sz4;rw [hW];clear hW b;refine hK.out _ _ (fun _ => KB.out _ GB.out) ?_;clear hK
    try simp only [Act.put]
    refine zBA (i := 6) (o := ⟨none,.store 64 (.tmp 6) (.tmp 19),0, "rref.go:51",#[⟨5,.data⟩,⟨4,.data⟩,⟨4,.chain⟩,⟨0,.phase⟩,⟨1,.phase⟩,⟨2,.phase⟩,⟨3,.phase⟩,⟨4,.phase⟩,⟨5,.phase⟩],none⟩) (by kernel_rfl) rfl (fun K hK => ?_);have h0 := DX.out.at (i := 0) rfl;have j0 := DX.out.fz 0;have h1 := DX.out.at (i := 1) rfl;have j1 := DX.out.fz 1;have h2 := DX.out.at (i := 2) rfl;have j2 := DX.out.fz 2;have h3 := DX.out.at (i := 3) rfl;have j3 := DX.out.fz 3;have h4 := DX.out.at (i := 4) rfl;have j4 := DX.out.fz 4;have h5 := DX.out.at (i := 5) rfl;have j5 := DX.out.fz 5;have h6 := DX.out.at (i := 6) rfl;have j6 := DX.out.fz 6;have h7 := DX.out.at (i := 7) rfl;have j7 := DX.out.fz 7;have h8 := DX.out.at (i := 8) rfl;have j8 := DX.out.fz 8;have h9 := DX.out.at (i := 9) rfl;have j9 := DX.out.fz 9;go_simp;clear h0 h1 h2 h3 h4 h5 h6 h7 h8 h9 j0 j1 j2 j3 j4 j5 j6 j7 j8 j9;obtain ⟨V5,hW⟩ : ∃ V5,((((((((((V4.setCell ⟨w3.heap.size,0,none⟩ (.bool nx)).setCell ⟨w3.heap.size,1,none⟩ (.slice ax lx cx)).setCell ⟨w3.heap.size,2,none⟩ zhA).setCell ⟨w3.heap.size,3,none⟩ zAB).setCell ⟨w3.heap.size,4,none⟩ zGB).setCell ⟨w3.heap.size,5,none⟩ zHB).setCell ⟨w3.heap.size,6,none⟩ (.slice la rn lc)).setCell ⟨w3.heap.size,7,none⟩ (.bool nd)).setCell ⟨w3.heap.size,8,none⟩ (.slice ad ld cd)).setCell ⟨w3.heap.size,9,none⟩ (.slice va pl vc)) = V5 := ⟨_,rfl⟩
    obtain ⟨t1,t2,t3⟩ := zVD DX.out SX.out _ _ _ _ _ _ _ _ _ _ V5 hW;have FN4 : Hid (MetE (wha cn (rwP cn P) (rwP cn Q)) w1 rn cn cn KW (.pointer (some ⟨w3.heap.size,0,none⟩)) V5) := ⟨_,nx,ax,lx,cx,_,nd,ad,ld,cd,_,gs,L,d,pv,rfl,SX.out,t1,EE.out.2.2.ty t2 (by decide),EE.out.1.keep fun b L _ e => t2.2 b _ _ _ e (by decide),EE.out.2.1.ty t2 (by decide) (by decide) (by decide),ELS.out,GB.out.trans t3⟩
    clear t1 t2 t3;rw [hW];clear hW;refine hK.out _ _ (fun h => absurd h (by decide)) ?_;clear hK
    try simp only [Act.put]
    refine zEA (by kernel_rfl) ?_ _;clear GB GZ DX SX EE ELS;go_wp2_with fail;go_meet;exact FN4.out
   ·skip
    go_simp;obtain ⟨V6,hW⟩ : ∃ V6,w2.alloc (.cells #[.bool false,.slice none 0 0,.nilFunc,.nilFunc,.nilFunc,.nilFunc,.slice none 0 0,.bool false,.slice none 0 0,.slice none 0 0] 64) = V6 := ⟨_,rfl⟩
    obtain ⟨b,sz6⟩ := alo1 w2 (.cells #[.bool false,.slice none 0 0,.nilFunc,.nilFunc,.nilFunc,.nilFunc,.slice none 0 0,.bool false,.slice none 0 0,.slice none 0 0] 64);rw [hW] at b sz6;replace GB := hid (zAA GB.out b);have DX : Hid (Cel V6 w2.heap.size 64 [.bool false,.slice none 0 0,.nilFunc,.nilFunc,.nilFunc,.nilFunc,.slice none 0 0,.bool false,.slice none 0 0,.slice none 0 0]) := by unfold Hid;rw [← hW];exact Cel.new w2 _ _
    have SX := hid (show w1.heap.size ≤ w2.heap.size from GZ.out);replace GZ : Hid (w1.heap.size ≤ V6.heap.size) := GB.out.size
    try replace QL := hid (QL.out.now b)
    clear sz6;rw [hW];clear hW b;refine hK.out _ _ (fun _ => KB.out _ GB.out) ?_;clear hK
    try simp only [Act.put]
    refine zBA (i := 4) (o := ⟨some 19,.call { callee := .value (.func 22),args := #[.tmp 16,.tmp 18],argTypes := #[66,3] },64, "rref.go:51",#[⟨1,.data⟩,⟨3,.data⟩,⟨1,.chain⟩],none⟩) (by kernel_rfl) rfl (fun K hK => ?_);go_simp;go_at_call 22;refine (HEL.out QL.out).mono ?_;rintro e w7 hE;obtain ⟨nx,ax,lx,cx,la,lc,nd,ad,ld,cd,va,pl,vc,gs,L,d,pv,rfl,hpl,t1,t2,t3,t4,b⟩ := hE.form;clear hE QL;have EE : Hid (Ivs w1.heap.size w7 (.slice va pl vc) pv ∧ Sh17 w1.heap.size w7 (.slice la rn lc) rn cn gs L KW ∧ Zm 0 w7 (.agg #[.bool nd,.slice ad ld cd]) d KW) := ⟨znA t2 GZ.out,t3.mono GZ.out,t1⟩
    have ELS := hid t4;replace GB := hid (zAA GB.out b);replace DX := hid (DX.out.step b);replace GZ : Hid (w1.heap.size ≤ w7.heap.size) := GB.out.size;clear t1 t2 t3 t4 hpl b;refine hK.out _ _ (fun _ => KB.out _ GB.out) ?_;clear hK;refine zBA (i := 6) (o := ⟨none,.store 64 (.tmp 6) (.tmp 19),0, "rref.go:51",#[⟨5,.data⟩,⟨4,.data⟩,⟨4,.chain⟩,⟨0,.phase⟩,⟨1,.phase⟩,⟨2,.phase⟩,⟨3,.phase⟩,⟨4,.phase⟩,⟨5,.phase⟩],none⟩) (by kernel_rfl) rfl (fun K hK => ?_);have h0 := DX.out.at (i := 0) rfl;have j0 := DX.out.fz 0;have h1 := DX.out.at (i := 1) rfl;have j1 := DX.out.fz 1;have h2 := DX.out.at (i := 2) rfl;have j2 := DX.out.fz 2;have h3 := DX.out.at (i := 3) rfl;have j3 := DX.out.fz 3;have h4 := DX.out.at (i := 4) rfl;have j4 := DX.out.fz 4;have h5 := DX.out.at (i := 5) rfl;have j5 := DX.out.fz 5;have h6 := DX.out.at (i := 6) rfl;have j6 := DX.out.fz 6;have h7 := DX.out.at (i := 7) rfl;have j7 := DX.out.fz 7;have h8 := DX.out.at (i := 8) rfl;have j8 := DX.out.fz 8;have h9 := DX.out.at (i := 9) rfl;have j9 := DX.out.fz 9;go_simp;clear h0 h1 h2 h3 h4 h5 h6 h7 h8 h9 j0 j1 j2 j3 j4 j5 j6 j7 j8 j9;obtain ⟨V8,hW⟩ : ∃ V8,((((((((((w7.setCell ⟨w2.heap.size,0,none⟩ (.bool nx)).setCell ⟨w2.heap.size,1,none⟩ (.slice ax lx cx)).setCell ⟨w2.heap.size,2,none⟩ zhA).setCell ⟨w2.heap.size,3,none⟩ zAB).setCell ⟨w2.heap.size,4,none⟩ zGB).setCell ⟨w2.heap.size,5,none⟩ zHB).setCell ⟨w2.heap.size,6,none⟩ (.slice la rn lc)).setCell ⟨w2.heap.size,7,none⟩ (.bool nd)).setCell ⟨w2.heap.size,8,none⟩ (.slice ad ld cd)).setCell ⟨w2.heap.size,9,none⟩ (.slice va pl vc)) = V8 := ⟨_,rfl⟩
    obtain ⟨t1,t2,t3⟩ := zVD DX.out SX.out _ _ _ _ _ _ _ _ _ _ V8 hW;have FN4 : Hid (MetE (wha cn (rwP cn P) (rwP cn Q)) w1 rn cn cn KW (.pointer (some ⟨w2.heap.size,0,none⟩)) V8) := ⟨_,nx,ax,lx,cx,_,nd,ad,ld,cd,_,gs,L,d,pv,rfl,SX.out,t1,EE.out.2.2.ty t2 (by decide),EE.out.1.keep fun b L _ e => t2.2 b _ _ _ e (by decide),EE.out.2.1.ty t2 (by decide) (by decide) (by decide),ELS.out,GB.out.trans t3⟩
    clear t1 t2 t3;rw [hW];clear hW;refine hK.out _ _ (fun h => absurd h (by decide)) ?_;clear hK
    try simp only [Act.put]
    refine zEA (by kernel_rfl) ?_ _;clear GB GZ DX SX EE ELS;go_wp2_with fail;go_meet;exact FN4.out
  ·skip
   go_simp;obtain ⟨V9,hW⟩ : ∃ V9,D1.alloc (.cells #[.bool false,.slice none 0 0,.nilFunc,.nilFunc,.nilFunc,.nilFunc,.slice none 0 0,.bool false,.slice none 0 0,.slice none 0 0] 64) = V9 := ⟨_,rfl⟩
   obtain ⟨b,sz9⟩ := alo1 D1 (.cells #[.bool false,.slice none 0 0,.nilFunc,.nilFunc,.nilFunc,.nilFunc,.slice none 0 0,.bool false,.slice none 0 0,.slice none 0 0] 64);rw [hW] at b sz9;replace GB := hid (zAA GB.out b);have DX : Hid (Cel V9 D1.heap.size 64 [.bool false,.slice none 0 0,.nilFunc,.nilFunc,.nilFunc,.nilFunc,.slice none 0 0,.bool false,.slice none 0 0,.slice none 0 0]) := by unfold Hid;rw [← hW];exact Cel.new D1 _ _
   have SX := hid (show w1.heap.size ≤ D1.heap.size from GZ.out);replace GZ : Hid (w1.heap.size ≤ V9.heap.size) := GB.out.size;clear sz9;rw [hW];clear hW b;refine hK.out _ _ (fun _ => KB.out _ GB.out) ?_;clear hK
   try simp only [Act.put]
   refine zBA (i := 1) (o := ⟨some 16,.call { callee := .value (.func 23),args := #[.tmp 15],argTypes := #[24] },66, "rref.go:51",#[⟨0,.data⟩],none⟩) (by kernel_rfl) rfl (fun K hK => ?_);go_simp;go_at_call 23;refine (HRO.out (zAA G1.out GB.out)).mono ?_;rintro e w10 ⟨gr,rfl,hgr,hfil,b⟩;have lz10 := (show Below _ _ _ from b).size;replace GB := hid (zAA GB.out b);have QL := hid (hfil.qls (zAA G1.out GB.out));clear hfil;replace DX := hid (DX.out.step b);replace GZ : Hid (w1.heap.size ≤ w10.heap.size) := GB.out.size;clear b;refine hK.out _ _ (fun _ => KB.out _ GB.out) ?_;clear hK;refine zBA (i := 4) (o := ⟨some 19,.call { callee := .value (.func 22),args := #[.tmp 16,.tmp 18],argTypes := #[66,3] },64, "rref.go:51",#[⟨1,.data⟩,⟨3,.data⟩,⟨1,.chain⟩],none⟩) (by kernel_rfl) rfl (fun K hK => ?_);go_simp;go_at_call 22;refine (HEL.out QL.out).mono ?_;rintro e w11 hE;obtain ⟨nx,ax,lx,cx,la,lc,nd,ad,ld,cd,va,pl,vc,gs,L,d,pv,rfl,hpl,t1,t2,t3,t4,b⟩ := hE.form;clear hE QL;have EE : Hid (Ivs w1.heap.size w11 (.slice va pl vc) pv ∧ Sh17 w1.heap.size w11 (.slice la rn lc) rn cn gs L KW ∧ Zm 0 w11 (.agg #[.bool nd,.slice ad ld cd]) d KW) := ⟨znA t2 GZ.out,t3.mono GZ.out,t1⟩
   have ELS := hid t4;replace GB := hid (zAA GB.out b);replace DX := hid (DX.out.step b);replace GZ : Hid (w1.heap.size ≤ w11.heap.size) := GB.out.size;clear t1 t2 t3 t4 hpl b;refine hK.out _ _ (fun _ => KB.out _ GB.out) ?_;clear hK;refine zBA (i := 6) (o := ⟨none,.store 64 (.tmp 6) (.tmp 19),0, "rref.go:51",#[⟨5,.data⟩,⟨4,.data⟩,⟨4,.chain⟩,⟨0,.phase⟩,⟨1,.phase⟩,⟨2,.phase⟩,⟨3,.phase⟩,⟨4,.phase⟩,⟨5,.phase⟩],none⟩) (by kernel_rfl) rfl (fun K hK => ?_);have h0 := DX.out.at (i := 0) rfl;have j0 := DX.out.fz 0;have h1 := DX.out.at (i := 1) rfl;have j1 := DX.out.fz 1;have h2 := DX.out.at (i := 2) rfl;have j2 := DX.out.fz 2;have h3 := DX.out.at (i := 3) rfl;have j3 := DX.out.fz 3;have h4 := DX.out.at (i := 4) rfl;have j4 := DX.out.fz 4;have h5 := DX.out.at (i := 5) rfl;have j5 := DX.out.fz 5;have h6 := DX.out.at (i := 6) rfl;have j6 := DX.out.fz 6;have h7 := DX.out.at (i := 7) rfl;have j7 := DX.out.fz 7;have h8 := DX.out.at (i := 8) rfl;have j8 := DX.out.fz 8;have h9 := DX.out.at (i := 9) rfl;have j9 := DX.out.fz 9;go_simp;clear h0 h1 h2 h3 h4 h5 h6 h7 h8 h9 j0 j1 j2 j3 j4 j5 j6 j7 j8 j9;obtain ⟨V12,hW⟩ : ∃ V12,((((((((((w11.setCell ⟨D1.heap.size,0,none⟩ (.bool nx)).setCell ⟨D1.heap.size,1,none⟩ (.slice ax lx cx)).setCell ⟨D1.heap.size,2,none⟩ zhA).setCell ⟨D1.heap.size,3,none⟩ zAB).setCell ⟨D1.heap.size,4,none⟩ zGB).setCell ⟨D1.heap.size,5,none⟩ zHB).setCell ⟨D1.heap.size,6,none⟩ (.slice la rn lc)).setCell ⟨D1.heap.size,7,none⟩ (.bool nd)).setCell ⟨D1.heap.size,8,none⟩ (.slice ad ld cd)).setCell ⟨D1.heap.size,9,none⟩ (.slice va pl vc)) = V12 := ⟨_,rfl⟩
   obtain ⟨t1,t2,t3⟩ := zVD DX.out SX.out _ _ _ _ _ _ _ _ _ _ V12 hW;have FN4 : Hid (MetE (wha cn (rwP cn P) (rwP cn Q)) w1 rn cn cn KW (.pointer (some ⟨D1.heap.size,0,none⟩)) V12) := ⟨_,nx,ax,lx,cx,_,nd,ad,ld,cd,_,gs,L,d,pv,rfl,SX.out,t1,EE.out.2.2.ty t2 (by decide),EE.out.1.keep fun b L _ e => t2.2 b _ _ _ e (by decide),EE.out.2.1.ty t2 (by decide) (by decide) (by decide),ELS.out,GB.out.trans t3⟩
   clear t1 t2 t3;rw [hW];clear hW;refine hK.out _ _ (fun h => absurd h (by decide)) ?_;clear hK
   try simp only [Act.put]
   refine zEA (by kernel_rfl) ?_ _;clear GB GZ DX SX EE ELS;go_wp2_with fail;go_meet;exact FN4.out
 case rest =>
 rename World => W2
 obtain ⟨b6,nx,ax,lx,cx,lv,nd,ad,ld,cd,vv,gs,L,d,pv,rfl,hb6,e1,e3,e4,e5,es,bb⟩ := hcut;have CE := hid e1;have ZD := hid e3;have IV := hid e4;have ES := hid es;have B2 := hid bb;obtain ⟨pss,pr1,pr2,pr3,pr4⟩ := e5.prr hr (by omega);have HCN : Hid (∀ {w' : World},Below W2.heap.size W2 w' → Calls Tryz.prog 25 #[lv] w' (zhG w' pss.flatten)) := fun hb => zFE (pr1.now hb) pr2 (by rw [pr3];exact Nat.le_trans (Nat.mul_le_mul hr hc) (by omega)) (by omega)
 have ZM := hid pr4;obtain ⟨la,lc,rfl⟩ : ∃ la lc,lv = .slice la rn lc := by
  rcases e5.1 with ⟨rfl,h⟩ | ⟨h,Lb,cap,r,e,_⟩
  ·exact ⟨_,_,h⟩
  ·exact ⟨_,_,e⟩
 obtain ⟨va,vc,rfl,-,-⟩ := e4.form;obtain ⟨pl,hpl⟩ : ∃ pl,pv.length = pl := ⟨_,rfl⟩
 have HPL := hid hpl;rw [hpl] at CE IV;have z6 := CE.out.at (i := 6) rfl;have z7 := CE.out.at (i := 7) rfl;have z8 := CE.out.at (i := 8) rfl;clear e1 e3 e4 e5 es bb pr1 pr2 pr3 pr4 hpl y0 y1 y2;go_wp2_with fail;have KB : Hid (∀ w',Below W2.heap.size W2 w' → w'.cell? ⟨b6,6,none⟩ = some (.slice la rn lc) ∧ w'.cell? ⟨b6,7,none⟩ = some (.bool nd) ∧ w'.cell? ⟨b6,8,none⟩ = some (.slice ad ld cd)) := fun w' h => ⟨cnow h z6,cnow h z7,cnow h z8⟩
 refine zFA (fun w' => w'.cell? ⟨b6,6,none⟩ = some (.slice la rn lc) ∧ w'.cell? ⟨b6,7,none⟩ = some (.bool nd) ∧ w'.cell? ⟨b6,8,none⟩ = some (.slice ad ld cd)) 6 (by kernel_rfl) ?_;obtain ⟨D61,hD⟩ : ∃ D61,W2.drew = D61 := ⟨_,rfl⟩
 have GB : Hid (Below W2.heap.size W2 D61) := by unfold Hid;rw [← hD];exact (Below.refl _ _).drew
 rw [hD];clear hD;refine zDA [(0,(.pointer (some ⟨b6,6,none⟩))),(1,(.slice la rn lc)),(3,(.pointer (some ⟨b6,7,none⟩))),(4,(.agg #[.bool nd,.slice ad ld cd]))] 4 ?_ (KB.out _ GB.out) ?_
 ·simp only [zJA,gA9,g09,g19,Act.put,sI9,s09,s19]
  (repeat' (first | exact trivial | refine And.intro (Or.inl ⟨by rfl,?_⟩) ?_)) <;> (intro w hSw;(try dsimp only at hSw);go_simp)
 simp only [actV,gA9,g09,g19,Act.put,sI9,s09,s19];refine zBA (i := 2) (o := ⟨some 22,.call { callee := .value (.func 25),args := #[.tmp 21],argTypes := #[62] },33, "rref.go:52",#[⟨1,.data⟩],none⟩) (by kernel_rfl) rfl (fun K hK => ?_);go_simp;go_at_call 25;refine (HCN.out GB.out).mono ?_;rintro e w62 ⟨cv,rfl,pC,b⟩;have lz62 := (show Below _ _ _ from b).size;replace GB := hid (zAA GB.out b);have ZL := hid (zVI pC (ZM.out.now GB.out).zcs.zis);obtain ⟨ca,cc,hcv,-⟩ := pC;have hfl : pss.flatten.length = rn * cn := by rw [ZM.out.1,zjB]
 rw [hfl] at hcv;subst hcv;clear hfl;clear b;refine hK.out _ _ (fun _ => KB.out _ GB.out) ?_;clear hK;refine zBA (i := 5) (o := ⟨some 25,.call { callee := .value (.func 24),args := #[.tmp 22,.tmp 24],argTypes := #[33,45] },22, "rref.go:52",#[⟨2,.data⟩,⟨4,.data⟩,⟨2,.chain⟩],none⟩) (by kernel_rfl) rfl (fun K hK => ?_);go_simp;go_at_call 24;refine (over_any (n := rn * cn) ZL.out (ZD.out.now GB.out).zi ES.out.nz HKW.out (zjB rn cn L) (Nat.le_trans (Nat.mul_le_mul hr hc) (by omega))).mono ?_;rintro e w63 ⟨go,rfl,hgn,hfq,b⟩;have lz63 := (show Below _ _ _ from b).size;replace GB := hid (zAA GB.out b);have FQ := hid hfq;have HGN := hid hgn;clear hfq hgn;clear b;refine hK.out _ _ (fun _ => KB.out _ GB.out) ?_;clear hK;refine zBA (i := 6) (o := ⟨some 7,.assign (.tmp 25),22, "rref.go:52",#[⟨5,.data⟩,⟨5,.chain⟩,⟨0,.phase⟩,⟨1,.phase⟩,⟨2,.phase⟩,⟨3,.phase⟩,⟨4,.phase⟩,⟨5,.phase⟩],none⟩) (by kernel_rfl) rfl (fun K hK => ?_);go_simp;refine hK.out _ _ (fun h => absurd h (by decide)) ?_;clear hK
 try simp only [Act.put]
 refine zEA (by kernel_rfl) ?_ _;obtain ⟨W3,hW3⟩ : ∃ W3,w63 = W3 := ⟨_,rfl⟩
 rw [hW3] at GB FQ ⊢;have BC := GB;clear hW3 GB KB ZL HCN ZM ZD z6 z7 z8;have CE3 := hid (CE.out.step BC.out);have CQ3 := hid (CQ1.out.step (zAA B2.out BC.out));have C3 := hid (C1.out.step (zAA B2.out BC.out));have z0 := CQ3.out.at (i := 0) rfl;have z1 := CQ3.out.at (i := 1) rfl;have z9 := CE3.out.at (i := 9) rfl;have IV3 := hid (IV.out.now BC.out);have G3 := hid (zAA (zAA G1.out B2.out) BC.out);clear CE CQ1 C1 G1;go_wp2_with fail;have KB : Hid (∀ w',Below W3.heap.size W3 w' → w'.cell? ⟨w.heap.size,0,none⟩ = some (.int .i64 r) ∧ w'.cell? ⟨w.heap.size,1,none⟩ = some (.int .i64 c) ∧ w'.cell? ⟨b6,9,none⟩ = some (.slice va pl vc)) := fun w' h => ⟨cnow h z0,cnow h z1,cnow h z9⟩
 refine zFA (fun w' => w'.cell? ⟨w.heap.size,0,none⟩ = some (.int .i64 r) ∧ w'.cell? ⟨w.heap.size,1,none⟩ = some (.int .i64 c) ∧ w'.cell? ⟨b6,9,none⟩ = some (.slice va pl vc)) 9 (by kernel_rfl) ?_;obtain ⟨D91,hD⟩ : ∃ D91,W3.drew = D91 := ⟨_,rfl⟩
 have GB : Hid (Below W3.heap.size W3 D91) := by unfold Hid;rw [← hD];exact (Below.refl _ _).drew
 rw [hD];clear hD;have KC := hid (KB.out _ GB.out);refine zDA [(0,(.pointer (some ⟨w.heap.size,0,none⟩))),(1,(.int .i64 r)),(2,(.pointer (some ⟨w.heap.size,1,none⟩))),(3,(.int .i64 c)),(4,(.slice (some ⟨go,0,none⟩) (rn * cn) (rn * cn))),(5,(.agg #[.int .i64 r,.int .i64 c,.slice (some ⟨go,0,none⟩) (rn * cn) (rn * cn)])),(6,(.pointer (some ⟨b6,9,none⟩))),(7,(.slice va pl vc))] 8 ?_ (KC.out) ?_
 ·simp only [zJA,gA9,g09,g19,Act.put,sI9,s09,s19]
  (repeat' (first | exact trivial | refine And.intro (Or.inl ⟨by rfl,?_⟩) ?_)) <;> (intro w hSw;(try dsimp only at hSw);go_simp)
 simp only [actV,gA9,g09,g19,Act.put,sI9,s09,s19];refine zBA (i := 8) (o := ⟨none,.store 24 (.tmp 2) (.tmp 31),0, "rref.go:53",#[⟨5,.data⟩,⟨0,.phase⟩,⟨1,.phase⟩,⟨2,.phase⟩,⟨3,.phase⟩,⟨4,.phase⟩,⟨5,.phase⟩,⟨6,.textOnly .lateStores⟩,⟨7,.textOnly .lateStores⟩],none⟩) (by kernel_rfl) rfl (fun K hK => ?_);have CD := hid (C3.out.step GB.out);have h0 := CD.out.at (i := 0) rfl;have h1 := CD.out.at (i := 1) rfl;have h2 := CD.out.at (i := 2) rfl;have j0 := CD.out.fz 0;have j1 := CD.out.fz 1;have j2 := CD.out.fz 2;go_simp;clear h0 h1 h2 j0 j1 j2;obtain ⟨V92,hW⟩ : ∃ V92,(((D91.setCell ⟨w.heap.size + 1,0,none⟩ (.int .i64 r)).setCell ⟨w.heap.size + 1,1,none⟩ (.int .i64 c)).setCell ⟨w.heap.size + 1,2,none⟩ (.slice (some ⟨go,0,none⟩) (rn * cn) (rn * cn))) = V92 := ⟨_,rfl⟩
 have DR : Hid (Cel V92 (w.heap.size + 1) 24 [.int .i64 r,.int .i64 c,.slice (some ⟨go,0,none⟩) (rn * cn) (rn * cn)]) := by unfold Hid;rw [← hW];exact ((CD.out.set 0 _).set 1 _).set 2 _
 have FF : Hid (zqF w rn cn P Q KW (.returned (.tuple #[.agg #[.int .i64 r,.int .i64 c,.slice (some ⟨go,0,none⟩) (rn * cn) (rn * cn)],.slice va pl vc,.int .i64 0])) V92) := by
  have t : Ty 24 D91 V92 := by rw [← hW];exact ((Ty.set CD.out).trans (Ty.set (CD.out.set 0 _))).trans (Ty.set ((CD.out.set 0 _).set 1 _))
  unfold Hid;rw [← ER.out,← EC.out];have hle : w.heap.size ≤ w1.heap.size := by have := HBQ.out;omega
  refine ⟨go,va,pl,vc,rq L d,pv,rfl,HPL.out,((FQ.out.step GB.out).ty t (by decide) (by decide)).congr fun t ht => ?_,(show Ivs w.heap.size D91 _ pv from znA (IV3.out.now GB.out) hle).keep fun b L _ e => t.2 b _ _ _ e (by decide),ES.out.form.1,ES.out.form.2.trans zlG,?_⟩
  ·rw [zGF ht];exact rq_divInt L d _ _
  ·rw [← hW]
   have h : w.heap.size ≤ w.heap.size + 1 := by omega
   exact bset (bset (bset (zAA G3.out GB.out) h) h) h
 replace KC := by
  have t : Ty 24 D91 V92 := by rw [← hW];exact ((Ty.set CD.out).trans (Ty.set (CD.out.set 0 _))).trans (Ty.set ((CD.out.set 0 _).set 1 _))
  have q1 := (CE3.out.step GB.out).ty13 t (by decide);have q2 : Cel V92 w.heap.size 24 [.int .i64 r,.int .i64 c,.slice a l cap] := by rw [← hW];exact (((CQ3.out.step GB.out).ne (by omega)).ne (by omega)).ne (by omega)
  exact hid (⟨q2.at (i := 0) rfl,q2.at (i := 1) rfl,q1.at (i := 9) rfl⟩ : _ ∧ _ ∧ _)
 clear CD;rw [hW];clear hW;refine hK.out _ _ (fun _ => KC.out) ?_;clear hK
 try simp only [Act.put]
 refine zBA (i := 9) (o := ⟨some 3,.assign (.tmp 33),26, "rref.go:53",#[⟨7,.data⟩,⟨8,.chain⟩,⟨0,.phase⟩,⟨1,.phase⟩,⟨2,.phase⟩,⟨3,.phase⟩,⟨4,.phase⟩,⟨5,.phase⟩,⟨6,.phase⟩,⟨7,.phase⟩,⟨8,.phase⟩],none⟩) (by kernel_rfl) rfl (fun K hK => ?_);go_simp;refine hK.out _ _ (fun h => absurd h (by decide)) ?_;clear hK
 try simp only [Act.put]
 refine zBA (i := 10) (o := ⟨some 4,.assign (.const (.int .i64 0)),27, "rref.go:53",#[⟨9,.chain⟩,⟨0,.phase⟩,⟨1,.phase⟩,⟨2,.phase⟩,⟨3,.phase⟩,⟨4,.phase⟩,⟨5,.phase⟩,⟨6,.phase⟩,⟨7,.phase⟩,⟨8,.phase⟩,⟨9,.phase⟩],none⟩) (by kernel_rfl) rfl (fun K hK => ?_);go_simp;refine hK.out _ _ (fun h => absurd h (by decide)) ?_;clear hK
 try simp only [Act.put]
 refine zEA (by kernel_rfl) ?_ _;clear GB KB KC CE3 CQ3 FQ IV3 G3 C3 z0 z1 z9;go_wp2;exact bodyPost_ret (zAI Tryz.results6 DR.out _ (by rfl) (by rfl) (by rfl)) rfl FF.out
end Go.Proofs.YtffkmeocmjohmaaGreat
