/-
 QPickB9ToPl19: PickB9, Wf14, Pl19, joined.
-/
import Derived.Test.YtfeofdpnhhiclaaGreatQBm19ToPickA9
import Derived.Test.YtfeofdpnhhiclaaGreatQSr13ToRl17

set_option maxRecDepth 100000
set_option maxHeartbeats 6400000
set_option linter.unusedVariables false
set_option linter.unusedSimpArgs false
namespace Go.Proofs.YtfeofdpnhhiclaaGreat
open Go.RowKit
abbrev fnPick1 (cb pb : Nat) : Value := .func (.func 117) #[] #[.pointer (some ⟨cb,0,none⟩),.pointer (some ⟨pb,0,none⟩)]
abbrev natv (js : List Nat) : List Int := js.map (fun n : Nat => (n : Int))
def pickR (zss : List (List Int)) (is js : List Nat) : List (List Int) := is.map fun i => js.map (ent9 zss i)
theorem eachPick1_any {w : World} {B pb cb k : Nat} {v iv jv : Value} {pss : List (List (Value × Value))} {zss : List (List Int)} {is js : List Nat} (hi : In9 w iv (natv is)) (hc : w.cell? ⟨cb,0,none⟩ = some jv) (hj : In9 w jv (natv js)) (hp : w.cell? ⟨pb,0,none⟩ = some v) (hv : Prr B w v pss) (hz : Ziss w pss zss k) (hil : ∀ i ∈ is,i < pss.length) (hjl : ∀ i ∈ is,∀ j ∈ js,j < (zss.getD i []).length) :
  Calls Tryz.prog 116 #[iv,fnPick1 cb pb] w (zxG w (pickR zss is js) k) := by
 have I0 := hid hi;have J0 := hid hj;have C0 := hid hc;have V0 := hid hv;have Z0 := hid hz;have P0 := hid hp;have HIL : Hid (∀ t (h : t < is.length),is[t] < pss.length) := fun t h => hil _ (List.getElem_mem h)
 have HJL : Hid (∀ t (h : t < is.length),∀ j ∈ js,j < (zss.getD is[t] []).length) := fun t h => hjl _ (List.getElem_mem h)
 obtain ⟨RS,hRS⟩ : ∃ RS,pickR zss is js = RS := ⟨_,rfl⟩
 have HR : Hid (∀ t (h : t < is.length),RS.getD t [] = js.map (ent9 zss is[t])) := fun t h => by rw [← hRS];unfold pickR;simp [h]
 have HRL : Hid (RS.length = is.length) := by unfold Hid;rw [← hRS];unfold pickR;simp
 rw [hRS];obtain ⟨a0,c0,rfl,hc0,hn0,hf0⟩ := hi.form;obtain ⟨n,hn⟩ : ∃ n,is.length = n := ⟨_,rfl⟩
 rw [List.length_map,hn] at I0 hc0 hn0 ⊢;rw [hn] at HRL;have HN := hid hn;have F0 := hid hf0;clear hi hc hj hp hv hz hil hjl hf0 hn hRS;go_enter Tryz.func116,Tryz.ntmps116;go_wp2_with (at_make;refine zsB _ rfl _ _ rfl _ _ n n rfl rfl rfl rfl (Nat.le_refl _) (by omega) ?_)
 intro w1 hrow hb1 hsz1;have H0 : Hid (zyH w w.heap.size n k RS n (.int .i64 0) w1) := ⟨0,rfl,Nat.zero_le _,by omega,FilR.start hrow _,hb1⟩
 clear hrow hb1 hsz1;go_wp2_with fail
 go_loopg [13] n (fun gk s13 wx => zyH w w.heap.size n k RS gk s13 wx)
 case atStart => exact H0.out
 case round =>
  clear H0;obtain ⟨t,rfl,hin,hg,hfil,hG⟩ := hrel;have FI := hid hfil;have G := hid hG;have HG := hid hg;clear hfil hG hg
  by_cases hlt : t < n
  ·have hlt' : (t : Int) < (n : Int) := by omega
   obtain ⟨b1,o1,rfl⟩ := F0.out (fun e => by have := HN.out;simp at e;rw [e] at this;simp at this;omega);have ht : t < is.length := by rw [HN.out];exact hlt
   have k0 := (I0.out.now G.out).at (i := t) (by rw [List.length_map];exact ht);rw [List.getElem_map] at k0;have HS := hid (pick1_any (cnow G.out C0.out) (J0.out.now G.out) (cnow G.out P0.out) (V0.out.now G.out) (Z0.out.now G.out) (HIL.out t ht) (HJL.out t ht));rw [← HR.out t ht] at HS;have hw := zjA (i := t) (by omega);generalize is[t] = it at *;clear ht;go_wp2_with fail;refine HS.out.mono ?_;rintro e w1 ⟨r,ps,rfl,p1,p2,b⟩;have FI1 : Hid (FilR w1 w.heap.size n t (fun j u => ∃ ps,Prs (w.heap.size + 1) w1 u ps ∧ Zcs w1 ps (RS.getD j []) k)) := FI.out.step b (fun j u _ ⟨ps,q1,q2⟩ => ⟨ps,q1.now b,q2.now b⟩);have G1 := hid (below_step G.out b);have M1 := hid (p1.mono (show w.heap.size + 1 ≤ wr.heap.size by have := FI.out.blk;omega));have M2 := hid p2;obtain ⟨ar,cr,rfl,-,-,-,-⟩ := p1.form;obtain ⟨u0,e0,e1⟩ := FI1.out.cells hlt;have HN1 : Hid (zyH w w.heap.size n k RS (n - (t + 1)) (.int .i64 ((t + 1 : Nat) : Int)) (w1.setCell ⟨w.heap.size,t,none⟩ (.slice ar ps.length cr))) :=
    ⟨t + 1,rfl,by omega,rfl,FI1.out.put hlt (fun j u _ ⟨qs,q1,q2⟩ => ⟨qs,q1.off (Nat.lt_succ_self _),q2.wk (FI1.out.wk hlt _)⟩) ⟨ps,M1.out.off (Nat.lt_succ_self _),M2.out.wk (FI1.out.wk hlt _)⟩ (noS _ _ _),bset G1.out (Nat.le_refl _)⟩
   have HMM : Hid (n - (t + 1) < gk) := by unfold Hid;rw [HG.out];omega
   clear HS FI G HG FI1 G1 M1 M2 p1 p2 b k0;go_wp2_with fail;go_roundg (n - (t + 1))
   case rel => exact HN1.out
   case measure => exact HMM.out
  ·have hlt' : ¬ (t : Int) < (n : Int) := by omega
   obtain rfl : t = n := by omega
   obtain ⟨qs,q1,q2⟩ := filR_grid FI.out HRL.out (by omega);have FIN : Hid (zxG w RS k (.returned (.slice (some ⟨w.heap.size,0,none⟩) t t)) wr) := ⟨_,qs,rfl,q1.mono (Nat.le_succ _),q2,G.out⟩
   clear FI G HG q1 q2;go_wp2;go_ret;exact FIN.out
theorem pick_boxes {w W0 : World} {o1 : List Value} {jv : Value} (hW : ((w.alloc (.cells o1.toArray 24)).alloc (.cells #[jv] 67)).alloc mbox = W0) :
  Cel W0 w.heap.size 24 o1 ∧ Cel W0 (w.heap.size + 1) 67 [jv] ∧ Cel W0 (w.heap.size + 1 + 1) 24 [.int .i64 0,.int .i64 0,.slice none 0 0] := by
 refine ⟨?_,?_,?_⟩
 ·rw [← hW]
  exact (((Cel.new w 24 o1).step ((Below.refl _ _).alloc (Nat.le_refl _) _)).step ((Below.refl _ _).alloc (Nat.le_refl _) _))
 ·rw [← hW]
  have := ((Cel.new (w.alloc (.cells o1.toArray 24)) 67 [jv]).step ((Below.refl _ _).alloc (Nat.le_refl _) mbox))
  simpa using this
 ·rw [← hW]
  have := Cel.new ((w.alloc (.cells o1.toArray 24)).alloc (.cells #[jv] 67)) 24 [.int .i64 0,.int .i64 0,.slice none 0 0]
  simpa using this
def zKB (r c : Nat) (zs : List Int) (is js : List Nat) : List Int := (pickR (rowsL r c zs) is js).flatten
theorem pickR_len {zss : List (List Int)} {is js : List Nat} : (pickR zss is js).flatten.length = is.length * js.length := by
 induction is with
 | nil => simp [pickR]
 | cons i t ih =>
  unfold pickR at ih ⊢;rw [List.map_cons,List.flatten_cons,List.length_append,ih,List.length_map,List.length_cons,Nat.add_mul,Nat.one_mul,Nat.add_comm]
theorem pick_yes {w : World} {va iv jv : Value} {r c k : Nat} {zs : List Int} {is js : List Nat} (ha : Mx w va r c zs k) (hi : In9 w iv (natv is)) (hj : In9 w jv (natv js)) (hil : ∀ i ∈ is,i < r) (hjl : ∀ j ∈ js,j < c) (his : is.length ≤ 64) (hjs : js.length ≤ 64) :
  Calls Tryz.prog 90 #[va,iv,jv] w (zrE w is.length js.length (zKB r c zs is js) k) := by
 have M0 := ha;obtain ⟨at_,pa,rfl,pa1,pa2,pa3,hr,hcc⟩ := ha;obtain ⟨aa,ca,rfl,-,-,-,-⟩ := pa1.form;generalize hla : pa.length = la at *;have I0 := hid hi;have J0 := hid hj;obtain ⟨ai,ci,rfl,hci,-,-⟩ := hi.form;obtain ⟨aj,cj,rfl,hcj,-,-⟩ := hj.form;rw [List.length_map] at I0 J0 hci hcj ⊢;rw [List.length_map];obtain ⟨W0,hW⟩ : ∃ W0,((w.alloc (matO r c (.slice aa la ca))).alloc (.cells #[.slice aj js.length cj] 67)).alloc mbox = W0 := ⟨_,rfl⟩
 obtain ⟨b0,sz0⟩ := zvB w (matO r c (.slice aa la ca)) (.cells #[.slice aj js.length cj] 67) mbox;rw [hW] at b0 sz0;obtain ⟨cpa,cpj,cpr⟩ := pick_boxes (o1 := matc r c (.slice aa la ca)) hW;have HCK := hid (zqC (M0.now b0));have HB1 : Hid (∀ x ∈ natv is,(0 : Int) ≤ x ∧ x < (r : Int)) := fun x hx => by
  obtain ⟨i,hi,rfl⟩ := List.mem_map.1 hx;have := hil i hi;omega
 have HB2 : Hid (∀ x ∈ natv js,(0 : Int) ≤ x ∧ x < (c : Int)) := fun x hx => by
  obtain ⟨i,hi,rfl⟩ := List.mem_map.1 hx;have := hjl i hi;omega
 have HRL : Hid ((rowsL r c pa).length = r) := by unfold Hid;simp [rowsL]
 have HZR := hid ((ziss_rows (r := r) (m := c) pa2).now b0);have HRW : Hid (∀ i ∈ is,∀ j ∈ js,j < ((rowsL r c zs).getD i []).length) := fun i hi j hj => by
  have h1 : i < (rowsL r c zs).length := by simp [rowsL];exact hil i hi
  have h2 : (rowsL r c zs).getD i [] = (rowsL r c zs)[i] := by simp [h1]
  rw [h2,rows_len pa3 _ (List.getElem_mem h1)];exact hjl j hj
 have HIL := hid hil;have A1 := hid (pa1.now b0);have HLA : Hid (pa.length = r * c) := by unfold Hid;rw [pa2.1,pa3]
 have PA := hid cpa;have PJ := hid cpj;have PR := hid cpr;have x0 := cpa.at (i := 0) rfl;have x1 := cpa.at (i := 1) rfl;have x2 := cpa.at (i := 2) rfl;have y0 := cpj.at (i := 0) rfl;rw [← hW] at x0 x1 x2 y0;have I1 := hid (I0.out.now b0);have J1 := hid (J0.out.now b0);have G0 := hid b0;have SZ := hid sz0;have EW := hid hW;clear M0 pa1 pa2 pa3 hi hj hil hjl b0 sz0 hW cpa cpj cpr I0 J0 hla;go_enter Tryz.func90,Tryz.ntmps90;go_wp2_with fail;rw [EW.out];refine HCK.out.mono ?_;rintro e w1 ⟨rfl,b⟩;have G := hid b;clear HCK b EW x0 x1 x2 y0;have x0 := (PA.out.step G.out).at (i := 0) rfl;have x1 := (PA.out.step G.out).at (i := 1) rfl;have x2 := (PA.out.step G.out).at (i := 2) rfl;have y0 := (PJ.out.step G.out).at (i := 0) rfl;go_wp2_with fail;refine (zOD (I1.out.now G.out) HB1.out).mono ?_;rintro e w2 ⟨rfl,b⟩;replace G := hid (below_step G.out b);clear b x0 x1 x2 y0;have x0 := (PA.out.step G.out).at (i := 0) rfl;have x1 := (PA.out.step G.out).at (i := 1) rfl;have x2 := (PA.out.step G.out).at (i := 2) rfl;have y0 := (PJ.out.step G.out).at (i := 0) rfl;go_wp2_with fail;refine (zOD (J1.out.now G.out) HB2.out).mono ?_;rintro e w3 ⟨rfl,b⟩;replace G := hid (below_step G.out b);clear b x0 x1 x2 y0;have x0 := (PA.out.step G.out).at (i := 0) rfl;have x1 := (PA.out.step G.out).at (i := 1) rfl;have x2 := (PA.out.step G.out).at (i := 2) rfl;have y0 := (PJ.out.step G.out).at (i := 0) rfl;go_wp2_with fail;refine (zpB his hjs).mono ?_;rintro e w4 ⟨rfl,b⟩;rw [b];clear b;go_wp2_with fail;refine (rowsOf_any (A1.out.now G.out) HLA.out hr hcc).mono ?_;rintro e w5 ⟨u,rfl,q1,b⟩;obtain ⟨au,cu,rfl,-,-,-⟩ := q1.form;rw [HRL.out] at q1 ⊢;obtain ⟨V1,hV⟩ : ∃ V1,w5.alloc (.cells #[.slice au r cu] 90) = V1 := ⟨_,rfl⟩
 obtain ⟨b1,sz1⟩ := alo1 w5 (.cells #[.slice au r cu] 90);rw [hV] at b1 sz1;replace G := hid (below_step G.out (below_step b b1));have hcol : V1.cell? ⟨w5.heap.size,0,none⟩ = some (.slice au r cu) := by rw [← hV];exact (Cel.new w5 90 [.slice au r cu]).at (i := 0) rfl
 have HER := hid (eachPick1_any (I1.out.now G.out) ((PJ.out.step G.out).at (i := 0) rfl) (J1.out.now G.out) hcol (q1.now b1) (HZR.out.now G.out) (by rw [HRL.out];exact HIL.out) HRW.out);have EV := hid hV;clear b b1 sz1 hV hcol q1 x0 x1 x2 y0;go_wp2_with fail;rw [EV.out];refine HER.out.mono ?_;rintro e w6 ⟨u3,p3,rfl,q3,z3,b⟩;replace G := hid (below_step G.out b);have Z3 := hid z3;have HP3 : Hid (p3.length = is.length) := by unfold Hid;rw [z3.1];simp [pickR]
 have hsm : ztG js.length p3 := same_of z3 (by intro z hz;unfold pickR at hz;simp only [List.mem_map] at hz;obtain ⟨row,_,rfl⟩ := hz;simp);have hrc : is.length * js.length ≤ 64 * 64 := Nat.mul_le_mul his hjs;have HOF := hid (ofRows_any (C := js.length) q3 hsm (by rw [HP3.out];omega) (by omega) HP3.out);obtain ⟨a3,c3,rfl,-,-,-⟩ := q3.form;have y0 := (PJ.out.step G.out).at (i := 0) rfl;clear HER q3 z3 b hsm hrc EV;go_wp2_with fail;refine HOF.out.mono ?_;rintro e w7 ⟨at4,rfl,q4,b⟩;have HB6 : Hid (w.heap.size + 1 + 1 < w6.heap.size) := by unfold Hid;have h1 := SZ.out;have h2 := G.out.size;omega
 replace G := hid (below_step G.out b);have PR4 := hid (PR.out.step G.out);obtain ⟨a4,c4,rfl,-,-,-,-⟩ := q4.form;have FIN : Hid (zrE w is.length js.length (zKB r c zs is js) k (.returned (.tuple #[.agg #[.int .i64 (is.length : Int),.int .i64 (js.length : Int),.slice a4 p3.flatten.length c4],.int .i64 0])) (put3 w7 (w.heap.size + 1 + 1) (.int .i64 (is.length : Int)) (.int .i64 (js.length : Int)) (.slice a4 p3.flatten.length c4))) :=
  ⟨_,rfl,⟨_,p3.flatten,rfl,(q4.put3 HB6.out _ _ _).mono (Nat.zero_le _),((Zcss.flat Z3.out).now b).wk (PR4.out.wk3 _ _ _),pickR_len,his,hjs⟩,zNA (below_step G0.out G.out) (by omega) _ _ _⟩
 have PF := hid (PR4.out.put3 (.int .i64 (is.length : Int)) (.int .i64 (js.length : Int)) (.slice a4 p3.flatten.length c4));have r0 := PR4.out.at (i := 0) rfl;have r1 := PR4.out.at (i := 1) rfl;have r2 := PR4.out.at (i := 2) rfl;have f0 := PR4.out.fz 0;have f1 := PR4.out.fz 1;have f2 := PR4.out.fz 2;obtain ⟨L4,hL4⟩ : ∃ L4,p3.flatten.length = L4 := ⟨_,rfl⟩
 rw [hL4] at FIN PF ⊢;clear HOF q4 b hL4 y0;go_wp2;exact bodyPost_ret (zHE Tryz.results90 PF.out _ (by rfl) (by rfl)) rfl FIN.out
def wf (k : Nat) (F : Nat → Int) : List Value := (List.range k).map fun t => .int .i64 (F t)
def upF (F : Nat → Int) (i : Nat) (z : Int) : Nat → Int := fun t => if t = i then z else F t
theorem zVF {k i : Nat} {F : Nat → Int} (hi : i < k) : (wf k F)[i]? = some (.int .i64 (F i)) := by simp [wf,hi]
theorem zZE {k : Nat} {F G : Nat → Int} (h : ∀ t,t < k → F t = G t) : wf k F = wf k G := List.map_congr_left fun t ht => by rw [h t (by simpa using ht)]
theorem wf_set {k i : Nat} {F : Nat → Int} (hi : i < k) (z : Int) : (wf k F).set i (.int .i64 z) = wf k (upF F i z) := by
 apply List.ext_getElem?
 intro t
 by_cases q : t < k
 ·by_cases e : t = i
  ·subst e
   rw [List.getElem?_set_self (by simpa [wf] using hi),zVF q];simp [upF]
  ·rw [List.getElem?_set_ne (by omega),zVF q,zVF q];simp [upF,e]
 ·rw [List.getElem?_eq_none (by simp [wf];omega),List.getElem?_eq_none (by simp [wf];omega)]
theorem Cel.nf {w : World} {g k i : Nat} {F : Nat → Int} (h : Cel w g 3 (wf k F)) (hi : i < k) : w.cell? ⟨g,i,none⟩ = some (.int .i64 (F i)) := h.at (zVF hi)
theorem Cel.nfset {w : World} {g k i : Nat} {F : Nat → Int} (h : Cel w g 3 (wf k F)) (hi : i < k) (z : Int) : Cel (w.setCell ⟨g,i,none⟩ (.int .i64 z)) g 3 (wf k (upF F i z)) := by
 rw [← wf_set hi z];exact h.set i _
theorem Cel.in14 {w : World} {g k : Nat} {F : Nat → Int} {l : List Nat} (h : Cel w g 3 (wf k F)) (hl : l.length = k) (hk : k ≤ 1048576) (hF : ∀ t,t < k → F t = (l.getD t 0 : Nat)) : In9 w (.slice (some ⟨g,0,none⟩) k k) (natv l) := by
 have e : (natv l).length = k := by simp [natv,hl]
 refine ⟨_,_,by rw [e],by omega,by omega,.inr ⟨g,0,rfl,h.blk,fun j hj => ?_⟩⟩;have hj' : j < k := by omega
 rw [Nat.zero_add,h.nf hj',hF j hj'];have : j < l.length := by omega
 simp [natv,this]
theorem madeCells_nf (m : Nat) : madeCells (Value.int .i64 0).cells m = (wf m fun _ => 0).toArray := by
 apply Array.ext
 ·simp [size_madeCells,wf]
 ·intro i h1 h2
  simp [madeCells,wf,Value.cells,Nat.mod_one]
theorem wpList_make_nf (w : World) {ops : Array Oper} {rest : List Oper} {o : Oper} {a : Act} {Q : Exit → Act → World → Prop}
  (hg : o.guard = none) (l c : Operand) (hop : o.op = Op.makeSlice 67 l c)
  (L C : Int) (n m : Nat) (hl : a.eval l = .int .i64 L) (hc : a.eval c = .int .i64 C) (hL : L = (n : Int)) (hC : C = (m : Int)) (hnm : n ≤ m) (hm : m ≤ 2000000)
  (hK : ∀ w',Hid (Cel w' w.heap.size 3 (wf m fun _ => 0)) → Hid (Below w.heap.size w w') → Hid (w'.heap.size = w.heap.size + 1) → wpList Tryz.prog ops Q rest (a.put o.dst (.slice (some ⟨w.heap.size,0,none⟩) n m)) w') :
  wpList Tryz.prog ops Q (o :: rest) a w := by
 refine wpList_plain hg fun K hK' => ?_
 obtain ⟨i,hi,hz,hs,hb⟩ := info_parts Tryz.infoI13;have hrun := run_make (P := Tryz.prog) w 67 3 i (.int .i64 0) Tryz.underlying67 hi hz .i64 .i64 n m (by omega) (by omega) (by rw [hb];omega) (by omega);subst hL;subst hC;rw [hs,Nat.mul_one,Int.toNat_natCast,Int.toNat_natCast,madeCells_nf] at hrun;unfold Oper.wp;simp [execOp,hop,hl,hc,hrun,Result.andThen];refine hK' _ _ (hK _ ?_ ((Below.refl _ _).alloc (Nat.le_refl _) _) ?_)
 ·unfold Hid Cel;exact heap_alloc_new w _
 ·unfold Hid;simp
def zpH (w : World) (k gk : Nat) (s : Value) (wx : World) : Prop := ∃ i : Nat,s = .int .i64 (i : Int) ∧ i ≤ k ∧ gk = k - i ∧ Cel wx w.heap.size 3 (wf k fun t => if t < i then (t : Int) else 0) ∧ Below w.heap.size w wx
theorem zqF {w : World} {k : Nat} (hk : k ≤ 4096) : Calls Tryz.prog 65 #[.int .i64 (k : Int)] w fun e w' => e = .returned (.slice (some ⟨w.heap.size,0,none⟩) k k) ∧ Cel w' w.heap.size 3 (wf k fun t => (t : Int)) ∧ Below w.heap.size w w' := by
 go_enter Tryz.func65,Tryz.ntmps65;go_wp2_with (at_make;refine wpList_make_nf _ rfl _ _ rfl _ _ k k rfl rfl rfl rfl (Nat.le_refl _) (by omega) ?_)
 intro w1 hrow hb1 hsz1;have H0 : Hid (zpH w k k (.int .i64 0) w1) := ⟨0,rfl,Nat.zero_le _,rfl,by rw [zZE (G := fun _ => 0) fun t _ => if_neg (Nat.not_lt_zero _)];exact hrow.out,hb1.out⟩
 clear hrow hb1 hsz1;go_wp2_with fail
 go_loopg [9] k (fun gk s9 wx => zpH w k gk s9 wx)
 case atStart => exact H0.out
 case round =>
  clear H0;obtain ⟨i,rfl,hik,hg,hc,hb⟩ := hrel;have C := hid hc;have G := hid hb;have HG := hid hg;clear hc hb hg
  by_cases hlt : i < k
  ·have hlt' : (i : Int) < (k : Int) := by omega
   have hw := zjA (i := i) (by omega);have e0 := C.out.nf hlt;have e1 := C.out.fz i;have HN1 : Hid (zpH w k (k - (i + 1)) (.int .i64 ((i + 1 : Nat) : Int)) (wr.setCell ⟨w.heap.size,i,none⟩ (.int .i64 (i : Int)))) :=
    ⟨i + 1,rfl,by omega,rfl,by
     have := C.out.nfset hlt (i : Int);rw [zZE (G := fun t => if t < i + 1 then (t : Int) else 0) fun t ht => ?_] at this
     ·exact this
     ·show (if t = i then (i : Int) else if t < i then (t : Int) else 0) = if t < i + 1 then (t : Int) else 0
      by_cases q : t = i
      ·rw [if_pos q,if_pos (by omega),q]
      ·rw [if_neg q]
       by_cases q2 : t < i
       ·rw [if_pos q2,if_pos (by omega)]
       ·rw [if_neg q2,if_neg (by omega)],bset G.out (Nat.le_refl _)⟩
   have HMM : Hid (k - (i + 1) < gk) := by unfold Hid;rw [HG.out];omega
   clear C G HG;go_wp2_with fail;go_roundg (k - (i + 1))
   case rel => exact HN1.out
   case measure => exact HMM.out
  ·have hlt' : ¬ (i : Int) < (k : Int) := by omega
   obtain rfl : i = k := by omega
   have CF : Hid (Cel wr w.heap.size 3 (wf i fun t => (t : Int))) := by
    unfold Hid;rw [zZE (G := fun t => if t < i then (t : Int) else 0) fun t ht => (if_pos ht).symm];exact C.out
   clear C HG;go_wp2;go_ret;exact ⟨rfl,CF.out,G.out⟩
end Go.Proofs.YtfeofdpnhhiclaaGreat
