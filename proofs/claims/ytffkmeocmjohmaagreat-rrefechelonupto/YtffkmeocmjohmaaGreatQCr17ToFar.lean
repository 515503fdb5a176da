/-
 QCr17ToFar: Cr17, Fresh, Far, joined.
-/
import Derived.Test.YtffkmeocmjohmaaGreatQFo17
import Derived.Test.YtffkmeocmjohmaaGreatQProdToByWord
import Derived.Laws.AppendOwn
import Derived.Laws.AppendOwnNone
import Derived.Test.YtffkmeocmjohmaaGreatQWordsToCarry
import Derived.Deep.RegionLaw
import Derived.Deep.RegionHeldLaw

set_option maxRecDepth 100000
set_option maxHeartbeats 6400000
set_option linter.unusedVariables false
set_option linter.unusedSimpArgs false
namespace Go.Proofs.YtffkmeocmjohmaaGreat
open Go.RowKit
theorem mback3 {f : Func} {s1 s2 s3 : Nat} (hr : f.results = #[ResultVar.cell s1 35,ResultVar.tmp s2,ResultVar.tmp s3]) {W : World} {b : Nat} {x0 x1 x2 u e : Value} (h : Cel W b 35 [x0,x1,x2]) (tmps : Array Value) (ht : tmps[s1]? = some (.pointer (some ⟨b,0,none⟩))) (hu : tmps[s2]? = some u) (he : tmps[s3]? = some e) :
  (results f tmps).run Tryz.prog W = .ok (.tuple #[.agg #[x0,x1,x2],u,e]) W := by
 simp [results,hr,go_sem,ht,hu,he,h.at (i := 0) rfl,h.at (i := 1) rfl,h.at (i := 2) rfl]
theorem Prs.off17 {B b i : Nat} {w : World} {v u : Value} {ps : List (Value × Value)} (h : Prs B w v ps) (hb : b < B) : Prs B (w.setCell ⟨b,i,none⟩ u) v ps := by
 obtain ⟨a,c,h1,h2,h3,hx,h4⟩ := h;refine ⟨a,c,h1,h2,h3,hx,?_⟩;rcases h4 with h4 | ⟨b',off,h5,h6,h7,h8⟩
 ·exact .inl h4
 ·have hc : ∀ j,(w.setCell ⟨b,i,none⟩ u).cell? ⟨b',j,none⟩ = w.cell? ⟨b',j,none⟩ := fun j => World.cell?_of_block (a := ⟨b',j,none⟩) (Below.heap_setCell w _ u b' (fun q => by have h9 : b' = b := (by simpa using q);omega))
  refine .inr ⟨b',off,h5,h6,by simpa using h7,fun j p hp => ?_⟩;rw [hc,hc];exact h8 j p hp
theorem Prs.low17 {B : Nat} {w : World} {v : Value} {ps : List (Value × Value)} (h : Prs B w v ps) : Prs 0 w v ps := by
 obtain ⟨a,c,h1,h2,h3,hx,h4⟩ := h;refine ⟨a,c,h1,h2,h3,hx,?_⟩;rcases h4 with h4 | ⟨b',off,h5,h6,h7,h8⟩
 ·exact .inl h4
 ·exact .inr ⟨b',off,h5,Nat.zero_le _,h7,h8⟩
def whF (r c : Nat) (P Q : Nat → Int) : List Int := ((List.range r).map fun i => (List.range c).map (wha c (rwP c P) (rwP c Q) i)).flatten
def Clrd (w : World) (r c : Nat) (P Q : Nat → Int) (k : Nat) (e : Ending) (w' : World) : Prop := ∃ aa qa ab lb cb,e = .returned (.tuple #[.agg #[.int .i64 (r : Int),.int .i64 (c : Int),.slice aa (r * c) qa],.slice ab lb cb,.int .i64 0]) ∧ Mx w' (.agg #[.int .i64 (r : Int),.int .i64 (c : Int),.slice aa (r * c) qa]) r c (whF r c P Q) k ∧ Below w.heap.size w w'
theorem clear_yes {w : World} {rn cn : Nat} {a : Option Addr} {l cap k : Nat} {P Q : Nat → Int} (hv : Qs w (.slice a l cap) l P Q k) (hl : l = rn * cn) (hr : rn ≤ 64) (hc : cn ≤ 64) (hQ : ∀ t,t < l → Q t ≠ 0) (hk : k ≤ 400000000) (hk1 : 1 ≤ k) :
  Calls Tryz.prog 10 #[qmv rn cn (.slice a l cap)] w (Clrd w rn cn P Q (129 * k + 2)) := by
 have hS : Snd (rn : Int) (cn : Int) l := ⟨by omega,by omega,by omega,by omega,by rw [hl];exact Int.natCast_mul _ _⟩
 show Calls Tryz.prog 10 #[.agg #[.int .i64 (rn : Int),.int .i64 (cn : Int),.slice a l cap]] w _
 obtain ⟨W1,hW⟩ : ∃ W1,((w.alloc (.cells #[.int .i64 (rn : Int),.int .i64 (cn : Int),.slice a l cap] 24)).alloc (.cells #[.int .i64 0,.int .i64 0,.slice none 0 0] 35)).alloc (.cells #[.int .i64 (rn : Int),.int .i64 (cn : Int),.slice a l cap] 24) = W1 := ⟨_,rfl⟩
 obtain ⟨b0,sz0⟩ := ztA w (.cells #[.int .i64 (rn : Int),.int .i64 (cn : Int),.slice a l cap] 24) (.cells #[.int .i64 0,.int .i64 0,.slice none 0 0] 35) (.cells #[.int .i64 (rn : Int),.int .i64 (cn : Int),.slice a l cap] 24);rw [hW] at b0 sz0;have CQ : Hid (Cel W1 w.heap.size 24 [.int .i64 (rn : Int),.int .i64 (cn : Int),.slice a l cap]) := by
  unfold Hid;rw [← hW];exact ((Cel.new w 24 [.int .i64 (rn : Int),.int .i64 (cn : Int),.slice a l cap]).step (alo1 _ _).1).step (alo1 _ _).1
 have C0 : Hid (Cel W1 (w.heap.size + 1) 35 [.int .i64 0,.int .i64 0,.slice none 0 0]) := by
  unfold Hid;rw [← hW];have := (Cel.new (w.alloc (.cells #[.int .i64 (rn : Int),.int .i64 (cn : Int),.slice a l cap] 24)) 35 [.int .i64 0,.int .i64 0,.slice none 0 0]).step (alo1 _ (.cells #[.int .i64 (rn : Int),.int .i64 (cn : Int),.slice a l cap] 24)).1
  simpa using this
 have CA : Cel W1 (w.heap.size + 1 + 1) 24 [.int .i64 (rn : Int),.int .i64 (cn : Int),.slice a l cap] := by
  rw [← hW];have := Cel.new ((w.alloc (.cells #[.int .i64 (rn : Int),.int .i64 (cn : Int),.slice a l cap] 24)).alloc (.cells #[.int .i64 0,.int .i64 0,.slice none 0 0] 35)) 24 [.int .i64 (rn : Int),.int .i64 (cn : Int),.slice a l cap]
  simpa using this
 have HF := hid (zhF (w := W1) (w0 := W1) (g := w.heap.size + 1 + 1) (n := 1) (k := k) (q := fun _ => ⟨(rn : Int),(cn : Int),a,l,cap⟩) (P := fun _ => P) (Q := fun _ => Q) (fits := true) (by omega) (fun j hj => by
  obtain rfl : j = 0 := by omega
  exact ⟨CA.at (i := 0) rfl,CA.at (i := 1) rfl,CA.at (i := 2) rfl⟩) (fun j hj => hv.now b0))
 have B0 := hid b0;have EW := hid hW;have x0 := CQ.out.at (i := 0) rfl;have x1 := CQ.out.at (i := 1) rfl;have x2 := CQ.out.at (i := 2) rfl;rw [← hW] at x0 x1 x2;clear b0 sz0 hW CA;have HRO : Hid (∀ {w' : World},Calls Tryz.prog 23 #[.agg #[.int .i64 (rn : Int),.int .i64 (cn : Int),.slice a l cap]] w' (Rod w w' rn cn P Q k)) := fun {_} => zFG hv hl hr hc
 have HQ2 : Hid (∀ i j,i < rn → j < cn → rwP cn Q i j ≠ 0) := fun i j hi hj => hQ _ (by rw [hl];exact zeA hi hj)
 have HWL : Hid (∀ {w' : World} {v : Value},QLs w' v rn cn (rwP cn P) (rwP cn Q) k → Calls Tryz.prog 35 #[v] w' (WzD w' rn cn (fun i j => Rat.divInt (rwP cn P i j) (rwP cn Q i j)) (129 * k + 2))) := fun h => zFC h HQ2.out hr (by omega) hk hk1
 have HQQ := hid hQ;clear hv hl hQ hk hk1;go_enter Tryz.func10,Tryz.ntmps10;go_wp2_with fail;rw [EW.out];refine HF.out.mono ?_;rintro e w1 ⟨code,rfl,hcode,b1⟩;obtain rfl : code = 0 := by
  rcases hcode with ⟨h1,j,hj,h2⟩ | ⟨h1,h2,h3⟩ | ⟨h1,h2,h3,j,hj,t,ht,h4⟩ | ⟨h1,h2,h3,h4⟩
  ·exact absurd hS h2
  ·cases h3
  ·exact absurd h4 (HQQ.out t ht)
  ·exact h1
 have CQ1 := hid (CQ.out.step b1);have C1 := hid (C0.out.step b1);have G1 := hid (zAA B0.out b1);have y0 := CQ1.out.at (i := 0) rfl;have y1 := CQ1.out.at (i := 1) rfl;have y2 := CQ1.out.at (i := 2) rfl;clear HF hcode b1 CQ C0 B0 EW x0 x1 x2 hS HQQ HQ2;go_wp2_with fail;refine HRO.out.mono ?_;rintro e w2 ⟨gr,rfl,hgr,hfil,b2⟩;have QL := hid (hfil.qls (zAA G1.out b2));have HW2 := hid (HWL.out QL.out);replace CQ1 := hid (CQ1.out.step b2);replace C1 := hid (C1.out.step b2);replace G1 := hid (zAA G1.out b2);clear hgr hfil b2 HRO HWL y0 y1 y2;go_wp2_with fail;refine HW2.out.mono ?_;rintro e w3 ⟨lv,bv,gs,rfl,hsh,hbv,hl0,b3⟩;have SH := hsh.sh17 hl0;obtain ⟨pss,pr1,pr2,pr3,pr4⟩ := SH.prr hr (by omega);have HCN : Hid (∀ {w' : World},Below w3.heap.size w3 w' → Calls Tryz.prog 25 #[lv] w' (zhG w' pss.flatten)) := fun hb => zFE (pr1.now hb) pr2 (by rw [pr3];exact Nat.le_trans (Nat.mul_le_mul hr hc) (by omega)) (by omega)
 have ZM := hid pr4;obtain ⟨la,lc,rfl⟩ : ∃ la lc,lv = .slice la rn lc := by
  rcases SH.1 with ⟨rfl,h⟩ | ⟨h,Lb,cap,r,e,_⟩
  ·exact ⟨_,_,h⟩
  ·exact ⟨_,_,e⟩
 obtain ⟨ab,lb,cb,rfl⟩ : ∃ ab lb cb,bv = .slice ab lb cb := by
  obtain ⟨cs,⟨q1,⟨q2,q3⟩ | ⟨g,cap,cur,q2,_⟩⟩,_⟩ := hbv
  ·exact ⟨_,_,_,q2⟩
  ·exact ⟨_,_,_,q2⟩
 replace CQ1 := hid (CQ1.out.step b3);replace C1 := hid (C1.out.step b3);replace G1 := hid (zAA G1.out b3);have y0 := CQ1.out.at (i := 0) rfl;have y1 := CQ1.out.at (i := 1) rfl;clear SH hsh hbv hl0 b3 HW2 QL pr1 pr2 pr3 pr4;go_wp2_with fail;have KB : Hid (∀ w',Below w3.heap.size w3 w' → w'.cell? ⟨w.heap.size,0,none⟩ = some (.int .i64 (rn : Int)) ∧ w'.cell? ⟨w.heap.size,1,none⟩ = some (.int .i64 (cn : Int))) := fun w' h => ⟨cnow h y0,cnow h y1⟩
 refine zFA (fun w' => w'.cell? ⟨w.heap.size,0,none⟩ = some (.int .i64 (rn : Int)) ∧ w'.cell? ⟨w.heap.size,1,none⟩ = some (.int .i64 (cn : Int))) 9 (by kernel_rfl) ?_;obtain ⟨D41,hD⟩ : ∃ D41,w3.drew = D41 := ⟨_,rfl⟩
 have GB : Hid (Below w3.heap.size w3 D41) := by unfold Hid;rw [← hD];exact (Below.refl _ _).drew
 rw [hD];clear hD;have KC := hid (KB.out _ GB.out);have GZ : Hid (w3.heap.size ≤ D41.heap.size) := GB.out.size;refine zDA [(0,(.pointer (some ⟨w.heap.size,0,none⟩))),(1,(.int .i64 (rn : Int))),(2,(.pointer (some ⟨w.heap.size,1,none⟩))),(3,(.int .i64 (cn : Int))),(4,(.slice la rn lc)),(7,(.slice ab lb cb))] 6 ?_ (KC.out) ?_
 ·simp only [zJA,gA9,g09,g19,Act.put,sI9,s09,s19]
  (repeat' (first | exact trivial | refine And.intro (Or.inl ⟨by rfl,?_⟩) ?_)) <;> (intro w hSw;(try dsimp only at hSw);go_simp)
 simp only [actV,gA9,g09,g19,Act.put,sI9,s09,s19];refine zBA (i := 5) (o := ⟨some 26,.call { callee := .value (.func 25),args := #[.tmp 25],argTypes := #[62] },33, "rref.go:122",#[⟨4,.data⟩],none⟩) (by kernel_rfl) rfl (fun K hK => ?_);have SZB : Hid (w3.heap.size ≤ D41.heap.size) := GB.out.size;go_simp;go_at_call 25;refine (HCN.out GB.out).mono ?_;rintro e w42 ⟨vc,rfl,hpr,b⟩;have lz42 := (show Below _ _ _ from b).size;replace GB := hid (zAA GB.out b);have PR := hid hpr;replace KC := hid (KB.out _ GB.out);replace GZ : Hid (w3.heap.size ≤ D41.heap.size) := SZB.out;obtain ⟨aa,qa,rfl⟩ : ∃ aa qa,vc = .slice aa (rn * cn) qa := by
  obtain ⟨aa,qa,e,_⟩ := hpr;have hlen : pss.flatten.length = rn * cn := by rw [ZM.out.1,zjB]
  rw [hlen] at e;exact ⟨aa,qa,e⟩
 have ZM2 := hid (ZM.out.now GB.out);clear hpr ZM SZB;clear b;refine hK.out _ _ (fun _ => KC.out) ?_;clear hK
 skip
 refine zDA [(6,(.agg #[.int .i64 (rn : Int),.int .i64 (cn : Int),.slice aa (rn * cn) qa]))] 1 ?_ (KC.out) ?_
 ·simp only [zJA,gA9,g09,g19,Act.put,sI9,s09,s19]
  (repeat' (first | exact trivial | refine And.intro (Or.inl ⟨by rfl,?_⟩) ?_)) <;> (intro w hSw;(try dsimp only at hSw);go_simp)
 simp only [actV,gA9,g09,g19,Act.put,sI9,s09,s19];refine zBA (i := 8) (o := ⟨none,.store 35 (.tmp 2) (.tmp 27),0, "rref.go:122",#[⟨6,.data⟩,⟨5,.chain⟩,⟨0,.phase⟩,⟨1,.phase⟩,⟨2,.phase⟩,⟨3,.phase⟩,⟨4,.phase⟩,⟨5,.phase⟩,⟨6,.phase⟩,⟨7,.textOnly .lateStores⟩],none⟩) (by kernel_rfl) rfl (fun K hK => ?_);have CD := hid (C1.out.step GB.out);have h0 := CD.out.at (i := 0) rfl;have h1 := CD.out.at (i := 1) rfl;have h2 := CD.out.at (i := 2) rfl;have j0 := CD.out.fz 0;have j1 := CD.out.fz 1;have j2 := CD.out.fz 2;go_simp;clear h0 h1 h2 j0 j1 j2;obtain ⟨V43,hW⟩ : ∃ V43,(((w42.setCell ⟨w.heap.size + 1,0,none⟩ (.int .i64 (rn : Int))).setCell ⟨w.heap.size + 1,1,none⟩ (.int .i64 (cn : Int))).setCell ⟨w.heap.size + 1,2,none⟩ (.slice aa (rn * cn) qa)) = V43 := ⟨_,rfl⟩
 have DR : Hid (Cel V43 (w.heap.size + 1) 35 [.int .i64 (rn : Int),.int .i64 (cn : Int),.slice aa (rn * cn) qa]) := by unfold Hid;rw [← hW];exact ((CD.out.set 0 _).set 1 _).set 2 _
 have FF : Hid (Clrd w rn cn P Q (129 * k + 2) (.returned (.tuple #[.agg #[.int .i64 (rn : Int),.int .i64 (cn : Int),.slice aa (rn * cn) qa],.slice ab lb cb,.int .i64 0])) V43) := by
  have t : Ty 35 w42 V43 := by rw [← hW];exact ((Ty.set CD.out).trans (Ty.set (CD.out.set 0 _))).trans (Ty.set ((CD.out.set 0 _).set 1 _))
  have hle : w.heap.size + 1 < D41.heap.size := by have := C1.out.blk;have := GZ.out;omega
  refine ⟨aa,qa,ab,lb,cb,rfl,⟨_,pss.flatten,rfl,?_,?_,zjB rn cn _,hr,hc⟩,?_⟩
  ·rw [← hW]
   exact (((PR.out.off17 hle).off17 hle).off17 hle).low17
  ·exact ⟨ZM2.out.1,fun j p z hp hz => ((ZM2.out.2 j p z hp hz).ty t (by decide)).zi⟩
  ·rw [← hW]
   have h : w.heap.size ≤ w.heap.size + 1 := by omega
   exact bset (bset (bset (zAA G1.out GB.out) h) h) h
 replace KC := by
  have q2 : Cel V43 w.heap.size 24 [.int .i64 (rn : Int),.int .i64 (cn : Int),.slice a l cap] := by rw [← hW];exact (((CQ1.out.step GB.out).ne (by omega)).ne (by omega)).ne (by omega)
  exact hid (⟨q2.at (i := 0) rfl,q2.at (i := 1) rfl⟩ : _ ∧ _)
 clear CD;rw [hW];clear hW;refine hK.out _ _ (fun _ => KC.out) ?_;clear hK
 try simp only [Act.put]
 refine zBA (i := 9) (o := ⟨some 3,.assign (.tmp 28),33, "rref.go:122",#[⟨7,.data⟩,⟨8,.chain⟩,⟨0,.phase⟩,⟨1,.phase⟩,⟨2,.phase⟩,⟨3,.phase⟩,⟨4,.phase⟩,⟨5,.phase⟩,⟨6,.phase⟩,⟨7,.phase⟩,⟨8,.phase⟩],none⟩) (by kernel_rfl) rfl (fun K hK => ?_);go_simp;refine hK.out _ _ (fun h => absurd h (by decide)) ?_;clear hK
 try simp only [Act.put]
 refine zBA (i := 10) (o := ⟨some 4,.assign (.const (.int .i64 0)),27, "rref.go:122",#[⟨9,.chain⟩,⟨0,.phase⟩,⟨1,.phase⟩,⟨2,.phase⟩,⟨3,.phase⟩,⟨4,.phase⟩,⟨5,.phase⟩,⟨6,.phase⟩,⟨7,.phase⟩,⟨8,.phase⟩,⟨9,.phase⟩],none⟩) (by kernel_rfl) rfl (fun K hK => ?_);go_simp;refine hK.out _ _ (fun h => absurd h (by decide)) ?_;clear hK
 try simp only [Act.put]
 refine zEA (by kernel_rfl) ?_ _;clear GB KB KC CQ1 C1 PR ZM2 G1 GZ y0 y1;go_wp2;exact bodyPost_ret (mback3 Tryz.results10 DR.out _ (by rfl) (by rfl) (by rfl)) rfl FF.out

def Far (B : Nat) (w : World) (v : Value) (zs : List Int) : Prop :=
 WF zs ∧ zjH v ∧ ∃ a cap,v = .slice a zs.length cap ∧ zs.length ≤ cap ∧ zs.length ≤ 35184372088832 ∧ (zs = [] ∨ ∃ g r,B ≤ g ∧ a = some ⟨g,0,none⟩ ∧ Row w g (ws zs ++ r))
theorem Far.sl {B : Nat} {w : World} {v : Value} {zs : List Int} (h : Far B w v zs) : Sl w.heap.size w v zs := by
 obtain ⟨hw,_,a,cap,h1,h2,h3,h4⟩ := h;refine ⟨hw,a,cap,h1,h2,h3,?_⟩;rcases h4 with e | ⟨g,r,_,h5,h6⟩
 ·exact .inl e
 ·exact .inr ⟨g,0,h5,h6.lt,fun j hj => by rw [Nat.zero_add];exact h6.word hj⟩
theorem Far.form {B : Nat} {w : World} {v : Value} {zs : List Int} (h : Far B w v zs) : ∃ a cap,v = .slice a zs.length cap := by obtain ⟨_,_,a,cap,h1,_⟩ := h;exact ⟨a,cap,h1⟩
theorem run_append_empty (w : World) (ty : TypeId) (g : Nat) {B : Nat} {v : Value} {xs : List Int} (hsl : Sl B w v xs) (hf : zjH v) (hmx : xs.length ≤ 17592186044416) :
  ∃ v' w',(Builtin.append_ #[43,43] ty #[.slice (some ⟨g,0,none⟩) 0 0,v]).run Tryz.prog w = .ok v' w' ∧ Far w.heap.size w' v' xs ∧ Below w.heap.size w w' := by
 obtain ⟨i,hi,hz,hsz,hb⟩ := info_parts Tryz.infoW;have ht := Tryz.underlying43;obtain ⟨hw,ad,cap,rfl,hlc,hcm,hm⟩ := hsl;rcases hf with e | ⟨ad',n',c',e⟩
 ·simp only [Value.slice.injEq] at e
  obtain ⟨rfl,e2,rfl⟩ := e;obtain rfl : xs = [] := List.eq_nil_of_length_eq_zero e2;refine ⟨.slice (some ⟨g,0,none⟩) 0 0,w,?_,⟨WF.nil,.inr ⟨_,_,_,rfl⟩,_,0,rfl,Nat.le_refl _,Nat.zero_le _,.inl rfl⟩,Below.refl _ _⟩;simp [Builtin.append_,run_underlying ht,sizeOf,typeInfo,hi,Builtin.lenOf,Builtin.firstCells,storeCells]
 ·simp only [Value.slice.injEq] at e
  obtain ⟨rfl,_,_⟩ := e
  by_cases h0 : xs = []
  ·subst h0
   refine ⟨.slice (some ⟨g,0,none⟩) 0 0,w,?_,⟨WF.nil,.inr ⟨_,_,_,rfl⟩,_,0,rfl,Nat.le_refl _,Nat.zero_le _,.inl rfl⟩,Below.refl _ _⟩;simp [Builtin.append_,run_underlying ht,sizeOf,typeInfo,hi,Builtin.lenOf,Builtin.firstCells,loadCells,loadCellsFrom,storeCells]
  ·have hpos : 0 < xs.length := by cases xs with
    | nil => exact absurd rfl h0
    | cons x r => simp
   have hnews : ∀ j u,(ws xs)[j]? = some u → w.cell? (ad'.add j) = some u := fun j u hj => by
    have hj' : j < xs.length := by
     have := (List.getElem?_eq_some_iff.1 hj).1
     simpa [zPA] using this
    rcases hm with e | ⟨b,off,h1,h2,h3⟩
    ·exact absurd e h0
    ·simp only [Option.some.injEq] at h1
     subst h1;have e : (⟨b,off,none⟩ : Addr).add j = ⟨b,off + j,none⟩ := by unfold Addr.add;split <;> simp_all
     rw [e,h3 j hj',← hj];simp [ws,hj']
   have hfit : Builtin.nextslicecap (0 + xs.length) 0 * i.bytes ≤ 281474976710656 := by
    unfold Builtin.nextslicecap;rw [if_pos (by omega),hb];omega
   have hr := run_append_grow (P := Tryz.prog) w 43 ty 120 i (.int .u64 0) ht hi hz ⟨g,0,none⟩ 0 0 [] (by simp) (fun j v hj => by simp at hj) ad' xs.length cap (ws xs) (by rw [zPA,hsz];omega) hnews (by omega) (by omega) hfit;have hge := grownCap_ge w (0 + xs.length) 0 120;refine ⟨_,_,hr,⟨hw,.inr ⟨_,_,_,rfl⟩,_,grownCap w (0 + xs.length) 0 120,by rw [Nat.zero_add],by omega,hcm,.inr ⟨w.heap.size,(Builtin.zeroCells (Value.int .u64 0).cells (grownCap w (0 + xs.length) 0 120 - (0 + xs.length))).toList,Nat.le_refl _,rfl,?_⟩⟩,?_⟩
   ·have := heap_alloc_new w.drew (.cells (([] : List Value).toArray ++ (ws xs).toArray ++ Builtin.zeroCells (Value.int .u64 0).cells (grownCap w (0 + xs.length) 0 120 - (0 + xs.length))) 120)
    unfold Row;refine Eq.trans this ?_
    simp
   ·exact ((Below.refl w.heap.size w).drew).alloc (Nat.le_refl _) _
end Go.Proofs.YtffkmeocmjohmaaGreat
