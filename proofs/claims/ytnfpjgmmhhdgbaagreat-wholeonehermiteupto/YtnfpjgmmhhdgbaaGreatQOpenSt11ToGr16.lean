/-
 QOpenSt11ToGr16: OpenSt11, Rows11, Gr16, joined.
-/
import Derived.Test.YtnfpjgmmhhdgbaaGreatQCk11
import Derived.Test.YtnfpjgmmhhdgbaaGreatRows
import Derived.Test.YtnfpjgmmhhdgbaaGreatQAlikeToShift
import Derived.Test.YtnfpjgmmhhdgbaaGreatQWordsToBulk
import Derived.Lib.SmallJoins
import Derived.Test.YtnfpjgmmhhdgbaaGreatQCat9ToOpenM9

set_option maxRecDepth 100000
set_option maxHeartbeats 6400000
set_option linter.unusedVariables false
set_option linter.unusedSimpArgs false
namespace Go.Proofs.YtnfpjgmmhhdgbaaGreat
open Go.ChangeShapes Go.WideShapes Go.ChangeAt Go.RowKit
instance rsInh : Inhabited Rs := ⟨⟨0,0,0,0⟩⟩
theorem Tryz.cellsSt11 : Tryz.prog.cellsOf 127 = 5 := by kernel_rfl
theorem Tryz.cellsInt11 : Tryz.prog.cellsOf 3 = 1 := by kernel_rfl
theorem Zi.parts11 {w : World} {x y : Value} {z : Int} {k : Nat} (h : Zi w (.agg #[x,y]) z k) : ∃ nv av lv cv,x = .bool nv ∧ y = .slice av lv cv := by
 obtain ⟨n,a,l,c,e⟩ := h.isI;rw [Prod.mk.injEq] at e;exact ⟨n,a,l,c,e.1,e.2⟩
theorem open_st11 {H : Type} {enc : TypeId × Value → H} {W : World} {fuel : Nat} {cs : List Value} {x : DataW H × List MemPlace}
  (hf : DataW.trod enc Tryz.prog W 0 (fun _ => true) true fuel 127 cs = some x) (hb : Rows.uptoBulk x.1 ≤ 1048576) :
  ∃ (kind I J : Int) (nv : Bool) (av : Option Addr) (lv cv : Nat) (z : Int),cs = [.int .i64 kind,.int .i64 I,.int .i64 J,.bool nv,.slice av lv cv] ∧ Zi W (.agg #[.bool nv,.slice av lv cv]) z 1048576 := by
 obtain ⟨y0,y1,y2,y3,n,rfl,hl,t0,t1,t2,t3⟩ := Joins.trod_struct4 Tryz.underlying127 hf;rw [Tryz.cellsSt11] at hl;simp only [Rows.uptoBulk,Rows.uptoBulkAll] at hb
 match cs,hl with
 | [c0,c1,c2,c3,c4],_ =>
  simp only [Tryz.cellsInt11,Tryz.cellsZ,List.drop_zero,List.drop_succ_cons,List.take_succ_cons,List.take_zero] at t0 t1 t2 t3;obtain ⟨k,e0,_,_⟩ := DataW.trod_int Tryz.underlying3 t0;obtain ⟨i,e1,_,_⟩ := DataW.trod_int Tryz.underlying3 t1;obtain ⟨j,e2,_,_⟩ := DataW.trod_int Tryz.underlying3 t2;obtain ⟨x0,x1,z,kz,e3,hz,hkz⟩ := zFD t3 (by omega);simp only [List.cons.injEq,and_true] at e0 e1 e2 e3;obtain ⟨nv,av,lv,cv,q1,q2⟩ := hz.parts11;obtain ⟨e3,e4⟩ := e3;subst e0 e1 e2 e3 e4 q1 q2;exact ⟨k,i,j,nv,av,lv,cv,z,rfl,hz.more (by omega)⟩
end Go.Proofs.YtnfpjgmmhhdgbaaGreat
namespace Go.Proofs.YtnfpjgmmhhdgbaaGreat
open Go.RowKit
def sts (rs : List Rs) : List St := rs.map Rs.st
theorem sts_take {rs : List Rs} {i : Nat} {s : Rs} (hs : rs[i]? = some s) : sts (rs.take (i + 1)) = sts (rs.take i) ++ [s.st] := by
 obtain ⟨q1,q2⟩ := List.getElem?_eq_some_iff.1 hs;rw [List.take_succ_eq_append_getElem q1,q2];simp [sts]
def RwH (W1 V : World) (lv : Value) (c : Nat) (rs : List Rs) (m : List (List Int)) (k l : Nat) (gk : Nat) (s : Value) (wx : World) : Prop :=
 ∃ (i : Nat) (gs : List Nat),s = .int .i64 (i : Int) ∧ i ≤ rs.length ∧ gk = rs.length - i ∧ Sht W1.heap.size wx lv c gs (runs (sts (rs.take i)) m) (k + i * (l + 1)) ∧ Below W1.heap.size W1 wx ∧ Kw V wx
def zMG (w : World) (r c : Nat) (rs : List Rs) (zs : List Int) (k : Nat) (e : Ending) (w' : World) : Prop :=
 ((∀ s ∈ rs,s.fit r) ∧ zIF w r c (zWE (sts rs) r c zs) k e w') ∨ (¬ (∀ s ∈ rs,s.fit r) ∧ zJF w 3 e w')
theorem Sht.okay {B c k : Nat} {w : World} {lv : Value} {gs : List Nat} {m m' : List (List Int)} {k' : Nat} (h : Sht B w lv c gs m k) (e : m = m') (hk : k ≤ k') : Sht B w lv c gs m' k' := by subst e;exact h.more hk
theorem rows_yes {w : World} {v sv : Value} {r c k l : Nat} {zs : List Int} {rs : List Rs} (h : Mx w v r c zs k) (hs : Raws w sv rs l) (hk : k + rs.length * (l + 1) < 35184372088832) :
  Calls Tryz.prog 14 #[v,sv] w (zMG w r c rs zs (k + rs.length * (l + 1))) := by
 have M0 := hid h;obtain ⟨aa,ca,rfl,hr,hc⟩ := h.form;have HZL : Hid (zs.length = r * c) := by obtain ⟨_,_,_,_,_,h,_⟩ := h;exact h
 obtain ⟨la,hla⟩ : ∃ la,r * c = la := ⟨_,rfl⟩
 rw [hla] at M0 ⊢;obtain ⟨W0,hW⟩ : ∃ W0,(w.alloc (matO r c (.slice aa la ca))).alloc mbox = W0 := ⟨_,rfl⟩
 obtain ⟨b0,sz0⟩ := zVA w (matO r c (.slice aa la ca)) mbox;rw [hW] at b0 sz0;obtain ⟨pa,pr⟩ := zdB (o1 := matc r c (.slice aa la ca)) hW;have HCK := hid (zUD (M0.out.now b0));have x0 := pa.at (i := 0) rfl;have x1 := pa.at (i := 1) rfl;have x2 := pa.at (i := 2) rfl;rw [← hW] at x0 x1 x2;have PA := hid pa;have PR := hid pr;have G0 := hid b0;have EW := hid hW;have SZ := hid sz0;replace M0 := hid (M0.out.now b0);have RS := hid (hs.now b0);obtain ⟨asv,csv,rfl,hsl,-⟩ := hs.form;have HK := hid hk;obtain ⟨L,hL⟩ : ∃ L,rs.length = L := ⟨_,rfl⟩
 have HL := hid hL;rw [hL] at RS HK hsl ⊢;clear h hs hla b0 sz0 hW pa pr hk hL;go_enter Tryz.func14,Tryz.ntmps14;go_wp2_with fail;rw [EW.out];refine HCK.out.mono ?_;rintro e w1 ⟨rfl,b⟩;have HIN := hid (inner_any (RS.out.now b) hr);replace PA := hid (PA.out.step b);replace PR := hid (PR.out.step b);replace G0 := hid (below_step G0.out b);replace M0 := hid (M0.out.now b);replace SZ := hid (show w.heap.size + 1 < w1.heap.size by have := SZ.out;have := b.size;omega);have z0 := PA.out.at (i := 0) rfl;clear HCK b x0 x1 x2 EW RS;go_wp2_with fail;refine HIN.out.mono ?_;rintro e w2 ⟨ho,b⟩;replace PA := hid (PA.out.step b);replace PR := hid (PR.out.step b);replace G0 := hid (below_step G0.out b);replace M0 := hid (M0.out.now b);replace SZ := hid (Nat.lt_of_lt_of_le SZ.out b.size);clear HIN b z0;rcases ho with ⟨hfit,lst,rfl,hst⟩ | ⟨hnf,rfl⟩
 ·have HF := hid hfit
  obtain ⟨al,cl,rfl,hal⟩ := hst.form;have AL := hid hal;have ST := hid hst;rw [HL.out] at ST ⊢;have HSO := hid (sheetOf_any M0.out);have y0 := PA.out.at (i := 0) rfl;have y1 := PA.out.at (i := 1) rfl;have y2 := PA.out.at (i := 2) rfl;clear hfit hst hal;go_wp2_with fail;refine HSO.out.mono ?_;rintro e w3 ⟨lv,gs,rfl,hS,b⟩;obtain ⟨av,cv,rfl,-,-⟩ := hS.form;have HML : Hid ((rowsL r c zs).length = r) := zbA;rw [HML.out] at hS ⊢;obtain ⟨V,hV⟩ : ∃ V,w3.alloc (.cells #[.int .i64 (c : Int),.slice av r cv] 87) = V := ⟨_,rfl⟩
  obtain ⟨bv,szv⟩ := alo1 w3 (.cells #[.int .i64 (c : Int),.slice av r cv] 87);rw [hV] at bv szv;have PW : Hid (Cel V w3.heap.size 87 [.int .i64 (c : Int),.slice av r cv]) := by unfold Hid;rw [← hV];exact Cel.new _ _ _
  have H0 : Hid (RwH w2 V (.slice av r cv) c rs (rowsL r c zs) k l L (.int .i64 0) V) := ⟨0,gs,rfl,Nat.zero_le _,by rw [HL.out];omega,by simpa [sts,runs_nil] using (hS.now bv),below_step b bv,Kw.refl _⟩
  have BV := hid (below_step b bv);have EV := hid hV;clear hS b bv szv hV HSO y0 y1 y2 M0 PA;go_wp2_with fail;rw [EV.out];clear EV
  go_loopg [33] L (fun gk s33 wx => RwH w2 V (.slice av r cv) c rs (rowsL r c zs) k l gk s33 wx)
  case atStart => exact H0.out
  case round =>
   clear H0;obtain ⟨i,gs,rfl,hin,hg,hS,hB,hK⟩ := hrel;rw [HL.out] at hin hg;have SS := hid hS;have BB := hid hB;have KK := hid hK;have HG := hid hg;clear hS hB hK hg
   by_cases hlt : i < L
   ·have hlt' : (i : Int) < (L : Int) := by omega
    obtain ⟨g1,rfl⟩ := AL.out (by rw [HL.out];omega);obtain ⟨s,hs⟩ : ∃ s,rs[i]? = some s := ⟨_,List.getElem?_eq_getElem (by rw [HL.out];exact hlt)⟩
    have hf := HF.out s (List.mem_of_getElem? hs);obtain ⟨u,c0,hu⟩ := (ST.out.now BB.out).at hs;have d0 := KK.out.cel PW.out (by decide) (by decide);have c1 := d0.at (i := 1) rfl;have hw := zgA (i := i) (by omega);have hml : (runs (sts (rs.take i)) (rowsL r c zs)).length = r := by rw [zUB,HML.out]
    have hmx : k + i * (l + 1) + (l + 1) = k + (i + 1) * (l + 1) := by rw [Nat.add_mul i 1,Nat.one_mul,Nat.add_assoc]
    have hle : (i + 1) * (l + 1) ≤ L * (l + 1) := Nat.mul_le_mul_right _ hlt;have HMM : Hid (L - (i + 1) < gk) := by unfold Hid;rw [HG.out];omega
    have NXT : Hid (∀ m' k' w',Dn w2.heap.size wr (.slice av r cv) c m' k' (.returned (.tuple #[])) w' → m' = s.st.run (runs (sts (rs.take i)) (rowsL r c zs)) → k' ≤ k + (i + 1) * (l + 1) → RwH w2 V (.slice av r cv) c rs (rowsL r c zs) k l (L - (i + 1)) (.int .i64 ((i + 1 : Nat) : Int)) w') := by
     rintro m' k' w' ⟨gs',-,q1,q2,q3⟩ e1 e2;refine ⟨i + 1,gs',rfl,by rw [HL.out];omega,by rw [HL.out],q1.okay ?_ e2,BB.out.trans q2,KK.out.trans q3⟩;rw [e1,sts_take hs,runs_snoc]
    have HS := hid hs;have HMX := hid hmx;have HLE := hid hle;unfold Rs.fit at hf;unfold Ofd at hu;rcases hu with ⟨hk1,rfl⟩ | ⟨hk1,rfl⟩ | ⟨hk1,nv,av1,lv1,cv1,rfl,hz⟩ | ⟨hk1,rfl⟩
    ·obtain ⟨hi1,hj1⟩ : (0 ≤ s.i ∧ s.i < r) ∧ (0 ≤ s.j ∧ s.j < r) := by omega
     obtain ⟨i',hi'⟩ := Int.eq_ofNat_of_zero_le hi1.1;obtain ⟨j',hj'⟩ := Int.eq_ofNat_of_zero_le hj1.1;have est : s.st = .swap i' j' := by unfold Rs.st;rw [if_pos hk1,hi',hj'];rfl
     have HD := hid (do_swap SS.out (i := i') (j := j') (by rw [hml];omega) (by rw [hml];omega));rw [hi',hj'] at c0;have HN := hid (fun w' (q : Dn w2.heap.size wr (.slice av r cv) c ((St.swap i' j').run (runs (sts (rs.take i)) (rowsL r c zs))) (k + i * (l + 1)) (.returned (.tuple #[])) w') => NXT.out _ _ w' q (by rw [est]) (by rw [← HMX.out];omega));clear hf hk1 hi1 hj1 hi' hj' est NXT SS d0 hml hmx hle hs HMX HLE HG HS;go_wp2_with fail;refine HD.out.mono ?_;rintro e w5 hd;obtain ⟨gs',rfl,q1,q2,q3⟩ := hd;have HN1 := hid (HN.out w5 ⟨gs',rfl,q1,q2,q3⟩);clear HN HD q1 q2 q3 c0 c1 BB KK;go_wp2_with fail;go_roundg (L - (i + 1))
     case rel => exact HN1.out
     case measure => exact HMM.out
    ·obtain ⟨hi1⟩ : PLift (0 ≤ s.i ∧ s.i < r) := ⟨by omega⟩
     obtain ⟨i',hi'⟩ := Int.eq_ofNat_of_zero_le hi1.1;have est : s.st = .neg i' := by unfold Rs.st;rw [if_neg (by omega),if_pos hk1,hi'];rfl
     have HD := hid (do_neg SS.out (i := i') (by rw [hml];omega) hc);rw [hi'] at c0;have HN := hid (fun w' (q : Dn w2.heap.size wr (.slice av r cv) c ((St.neg i').run (runs (sts (rs.take i)) (rowsL r c zs))) (k + i * (l + 1)) (.returned (.tuple #[])) w') => NXT.out _ _ w' q (by rw [est]) (by rw [← HMX.out];omega));clear hf hk1 hi1 hi' est NXT SS d0 hml hmx hle hs HMX HLE HG HS;go_wp2_with fail;refine HD.out.mono ?_;rintro e w5 hd;obtain ⟨gs',rfl,q1,q2,q3⟩ := hd;have HN1 := hid (HN.out w5 ⟨gs',rfl,q1,q2,q3⟩);clear HN HD q1 q2 q3 c0 c1 BB KK;go_wp2_with fail;go_roundg (L - (i + 1))
     case rel => exact HN1.out
     case measure => exact HMM.out
    ·obtain ⟨hi1,hj1,hij⟩ : (0 ≤ s.i ∧ s.i < r) ∧ (0 ≤ s.j ∧ s.j < r) ∧ s.i ≠ s.j := by omega
     obtain ⟨i',hi'⟩ := Int.eq_ofNat_of_zero_le hi1.1;obtain ⟨j',hj'⟩ := Int.eq_ofNat_of_zero_le hj1.1;have est : s.st = .add i' j' s.z := by unfold Rs.st;rw [if_neg (by omega),if_neg (by omega),hi',hj'];rfl
     have HD := hid (do_add SS.out (i := i') (j := j') (by rw [hml];omega) (by rw [hml];omega) (by omega) hc hz.zi (by have := HK.out;have := HLE.out;have := HMX.out;omega));rw [hi',hj'] at c0;have HN := hid (fun w' (q : Dn w2.heap.size wr (.slice av r cv) c ((St.add i' j' s.z).run (runs (sts (rs.take i)) (rowsL r c zs))) (l + (k + i * (l + 1)) + 1) (.returned (.tuple #[])) w') => NXT.out _ _ w' q (by rw [est]) (by rw [← HMX.out];omega));clear hf hk1 hi1 hj1 hij hi' hj' est NXT SS d0 hml hmx hle hs HMX HLE HG HS hz;go_wp2_with fail;refine HD.out.mono ?_;rintro e w5 hd;obtain ⟨gs',rfl,q1,q2,q3⟩ := hd;have HN1 := hid (HN.out w5 ⟨gs',rfl,q1,q2,q3⟩);clear HN HD q1 q2 q3 c0 c1 BB KK;go_wp2_with fail;go_roundg (L - (i + 1))
     case rel => exact HN1.out
     case measure => exact HMM.out
    ·omega
   ·have hlt' : ¬ (i : Int) < (L : Int) := by omega
    obtain rfl : i = L := by omega
    have d0 := KK.out.cel PW.out (by decide) (by decide);have c0 := d0.at (i := 0) rfl;have c1 := d0.at (i := 1) rfl;have HM := hid (matrix_any SS.out (r := r) (by rw [zUB,HML.out]) hr hc);have etk : rs.take i = rs := List.take_of_length_le (by rw [HL.out];exact Nat.le_refl _);rw [etk] at HM;replace PR := hid (PR.out.step BB.out);replace G0 := hid (below_step G0.out BB.out);replace SZ := hid (Nat.lt_of_lt_of_le SZ.out BB.out.size);clear SS BB KK HG d0 etk;go_wp2_with fail;refine HM.out.mono ?_;rintro e w5 ⟨v5,rfl,hm5,b⟩;obtain ⟨a5,q5,rfl,-,-⟩ := hm5.mx.form;obtain ⟨L5,hL5⟩ : ∃ L5,r * c = L5 := ⟨_,rfl⟩
    rw [hL5] at hm5 ⊢;replace PR := hid (PR.out.step b);replace G0 := hid (below_step G0.out b);have FIN : Hid (zMG w r c rs zs (k + i * (l + 1)) (.returned (.tuple #[.agg #[.int .i64 (r : Int),.int .i64 (c : Int),.slice a5 L5 q5],.int .i64 0])) (put3 w5 (w.heap.size + 1) (.int .i64 (r : Int)) (.int .i64 (c : Int)) (.slice a5 L5 q5))) :=
     .inl ⟨HF.out,_,rfl,hm5.wk PR.out _ _ _,zTA G0.out (by omega) _ _ _⟩
    have PF := hid (PR.out.put3 (.int .i64 (r : Int)) (.int .i64 (c : Int)) (.slice a5 L5 q5));have r0 := PR.out.at (i := 0) rfl;have r1 := PR.out.at (i := 1) rfl;have r2 := PR.out.at (i := 2) rfl;have f0 := PR.out.fz 0;have f1 := PR.out.fz 1;have f2 := PR.out.fz 2;clear HM hm5 b c0 c1 hL5 G0;go_wp2;exact bodyPost_ret (zkD Tryz.results14 PF.out _ (by rfl) (by rfl)) rfl FIN.out
 ·have FIN : Hid (zMG w r c rs zs (k + L * (l + 1)) (.returned (.tuple #[zdG,.int .i64 3])) (put3 w2 (w.heap.size + 1) (.int .i64 0) (.int .i64 0) (.slice none 0 0))) := .inr ⟨hnf,rfl,zTA G0.out (by omega) _ _ _⟩
  have PF := hid (PR.out.put3 (.int .i64 0) (.int .i64 0) (.slice none 0 0));have r0 := PR.out.at (i := 0) rfl;have r1 := PR.out.at (i := 1) rfl;have r2 := PR.out.at (i := 2) rfl;have f0 := PR.out.fz 0;have f1 := PR.out.fz 1;have f2 := PR.out.fz 2;clear hnf G0 PR PA M0;go_wp2;exact bodyPost_ret (zkD Tryz.results14 PF.out _ (by rfl) (by rfl)) rfl FIN.out
open Go.ChangeShapes Go.WideShapes Go.ChangeAt Go.RowKit
def grw : List Rs → Int
 | [] => 1
 | s :: r => (1 + (s.z.natAbs : Int)) * grw r
theorem zxE : ∀ rs : List Rs,1 ≤ grw rs
 | [] => by simp [grw]
 | s :: r => by
  have h := zxE r;have h2 : 1 * 1 ≤ (1 + (s.z.natAbs : Int)) * grw r := Int.mul_le_mul (by omega) h (by omega) (by omega)
  simpa [grw] using h2
theorem zyG {q : Nat → Rs} {κ : Nat → Nat} : ∀ l : List Nat,(∀ i ∈ l,((q i).z.natAbs : Int) < pw (κ i)) → grw (l.map q) ≤ pw (ksum (l.map κ))
 | [],_ => by simp [grw,ksum,pw]
 | i :: r,h => by
  have h1 := h i (by simp);have h2 := zyG r (fun j hj => h j (by simp [hj]));have h3 := zxE (r.map q);simp only [List.map_cons,grw,zRC,zpA];exact Int.mul_le_mul (by omega) h2 (by omega) (by have := znA (κ i);omega)
theorem zZE (n : Nat) : grw [] ≤ pw n := by have := znA n;show (1 : Int) ≤ _;omega
def Bnd (M : Int) (m : List (List Int)) : Prop := ∀ row ∈ m,∀ x ∈ row,(x.natAbs : Int) ≤ M
theorem Bnd.at {M : Int} {m : List (List Int)} (h : Bnd M m) (i : Nat) : ∀ x ∈ zHA m i,(x.natAbs : Int) ≤ M := fun x hx => by
 unfold zHA at hx;rw [List.getD_eq_getElem?_getD] at hx
 by_cases q : i < m.length
 ·rw [List.getElem?_eq_getElem q] at hx
  exact h _ (List.getElem_mem q) x hx
 ·rw [List.getElem?_eq_none (by omega)] at hx
  simp at hx
theorem Bnd.set {M M' : Int} {m : List (List Int)} {r : List Int} (h : Bnd M m) (hM : M ≤ M') (hr : ∀ x ∈ r,(x.natAbs : Int) ≤ M') (i : Nat) : Bnd M' (m.set i r) := fun row hrow x hx => by
 rcases List.mem_or_eq_of_mem_set hrow with q | rfl
 ·exact Int.le_trans (h row q x hx) hM
 ·exact hr x hx
def St.gr : St → Int
 | .add _ _ z => 1 + (z.natAbs : Int)
 | _ => 1
theorem Bnd.run {M : Int} {m : List (List Int)} (hM0 : 0 ≤ M) (h : Bnd M m) (s : St) : Bnd (M * s.gr) (s.run m) := by
 cases s with
 | swap i j =>
  show Bnd (M * 1) _
  rw [Int.mul_one];exact (h.set (Int.le_refl _) (h.at j) i).set (Int.le_refl _) (h.at i) j
 | neg i =>
  show Bnd (M * 1) _
  rw [Int.mul_one];refine h.set (Int.le_refl _) (fun x hx => ?_) i;simp only [zDB,List.mem_map] at hx;obtain ⟨y,hy,rfl⟩ := hx;have := h.at i y hy;omega
 | add i j z =>
  have hz : (0 : Int) ≤ z.natAbs := by omega
  have hg : M * St.gr (.add i j z) = M + M * (z.natAbs : Int) := by show M * (1 + (z.natAbs : Int)) = _;rw [Int.mul_add,Int.mul_one]
  have hMz : 0 ≤ M * (z.natAbs : Int) := Int.mul_nonneg hM0 hz;refine h.set (by rw [hg];omega) (fun x hx => ?_) i;unfold zyA at hx;obtain ⟨t,ht,e⟩ := List.getElem_of_mem hx;rw [List.getElem_zipWith] at e;subst e;rw [List.length_zipWith] at ht;have h1 := h.at i _ (List.getElem_mem (show t < (zHA m i).length by omega));have h2 := h.at j _ (List.getElem_mem (show t < (zHA m j).length by omega));generalize (zHA m i)[t]'(by omega) = x at *;generalize (zHA m j)[t]'(by omega) = y at *;have h3 : ((z * y).natAbs : Int) ≤ M * (z.natAbs : Int) := by
   rw [Int.natAbs_mul,Int.natCast_mul,Int.mul_comm];exact Int.mul_le_mul_of_nonneg_right h2 hz
  rw [hg];omega
theorem Bnd.runs : ∀ {rs : List Rs} {M : Int} {m : List (List Int)},0 ≤ M → Bnd M m → Bnd (M * grw rs) (runs (sts rs) m)
 | [],M,m,_,h => by rw [show grw [] = 1 from rfl,Int.mul_one];exact h
 | s :: r,M,m,h0,h => by
  have h1 : Bnd (M * (1 + (s.z.natAbs : Int))) (s.st.run m) := by
   have hg : s.st.gr ≤ 1 + (s.z.natAbs : Int) := by
    unfold Rs.st
    split
    ·show (1 : Int) ≤ _;omega
    ·split
     ·show (1 : Int) ≤ _;omega
     ·exact Int.le_refl _
   have := Bnd.run h0 h s.st;exact fun row hrow x hx => Int.le_trans (this row hrow x hx) (Int.mul_le_mul_of_nonneg_left hg h0)
  have h2 := Bnd.runs (rs := r) (Int.mul_nonneg h0 (by omega)) h1
  show Bnd (M * ((1 + (s.z.natAbs : Int)) * grw r)) (Go.Proofs.YtnfpjgmmhhdgbaaGreat.runs (sts r) (s.st.run m))
  rw [← Int.mul_assoc];exact h2
theorem rowsT_lt {rs : List Rs} {r c k K : Nat} {zs : List Int} (hz : ∀ z ∈ zs,(z.natAbs : Int) < pw k) (hg : grw rs ≤ pw K) : ∀ z ∈ zWE (sts rs) r c zs,(z.natAbs : Int) < pw (k + K) := fun z h => by
 unfold zWE at h;obtain ⟨row,h1,h2⟩ := List.mem_flatten.1 h;have hp := znA k;have hb : Bnd (pw k - 1) (rowsL r c zs) := fun row hrow x hx => by
  simp only [rowsL,List.mem_map,List.mem_range] at hrow;obtain ⟨i,-,rfl⟩ := hrow;have := hz x (List.mem_of_mem_drop (List.mem_of_mem_take hx));omega
 have h3 := Bnd.runs (rs := rs) (by omega) hb row h1 z h2;have h4 := zxE rs;have h5 : (pw k - 1) * grw rs < pw k * grw rs := Int.mul_lt_mul_of_pos_right (by omega) (by omega);have h6 : pw k * grw rs ≤ pw k * pw K := Int.mul_le_mul_of_nonneg_left hg (by omega);rw [zpA];omega
theorem Mx.lt {w : World} {v : Value} {r c : Nat} {zs : List Int} {k : Nat} (h : Mx w v r c zs k) : ∀ z ∈ zs,(z.natAbs : Int) < pw k := by
 obtain ⟨a,ps,h1,h2,h3,h4⟩ := h;intro z hz;obtain ⟨j,hj,e⟩ := List.getElem_of_mem hz;exact (h3.2 j _ z (List.getElem?_eq_getElem (by rw [h3.1];exact hj)) (by rw [List.getElem?_eq_getElem hj,e])).lt
theorem open_st16 {H : Type} {enc : TypeId × Value → H} {W : World} {fuel : Nat} {cs : List Value} {x : DataW H × List MemPlace}
  (hf : DataW.trod enc Tryz.prog W 0 (fun _ => true) true fuel 127 cs = some x) (hb : Rows.uptoBulk x.1 ≤ 1048576) :
  ∃ (kind I J : Int) (nv : Bool) (av : Option Addr) (lv cv : Nat) (z : Int) (k : Nat),cs = [.int .i64 kind,.int .i64 I,.int .i64 J,.bool nv,.slice av lv cv] ∧ Zi W (.agg #[.bool nv,.slice av lv cv]) z k ∧ k + 1 ≤ Rows.uptoBulk x.1 := by
 obtain ⟨y0,y1,y2,y3,n,hx,hl,t0,t1,t2,t3⟩ := Joins.trod_struct4 Tryz.underlying127 hf;rw [Tryz.cellsSt11] at hl;rw [hx] at hb ⊢;simp only [Rows.uptoBulk,Rows.uptoBulkAll] at hb ⊢
 match cs,hl with
 | [c0,c1,c2,c3,c4],_ =>
  simp only [Tryz.cellsInt11,Tryz.cellsZ,List.drop_zero,List.drop_succ_cons,List.take_succ_cons,List.take_zero] at t0 t1 t2 t3;obtain ⟨k,e0,_,_⟩ := DataW.trod_int Tryz.underlying3 t0;obtain ⟨i,e1,_,_⟩ := DataW.trod_int Tryz.underlying3 t1;obtain ⟨j,e2,_,_⟩ := DataW.trod_int Tryz.underlying3 t2;obtain ⟨x0,x1,z,kz,e3,hz,hkz⟩ := zFD t3 (by omega);simp only [List.cons.injEq,and_true] at e0 e1 e2 e3;obtain ⟨nv,av,lv,cv,q1,q2⟩ := hz.parts11;obtain ⟨e3,e4⟩ := e3;subst e0 e1 e2 e3 e4 q1 q2;exact ⟨k,i,j,nv,av,lv,cv,z,kz,rfl,hz,by omega⟩
theorem open_sts16 {H : Type} {enc : TypeId × Value → H} {W : World} {a : Option Addr} {len cap : Nat} {d : DataW H} {p : List MemPlace}
  (h0 : DataW.Trod enc Tryz.prog W 0 (fun _ => true) true 39 (.slice a len cap) d p) (hb : Rows.uptoBulk d ≤ 1048576) : ∃ rs,Raws W (.slice a len cap) rs 1048576 ∧ grw rs ≤ pw 1048576 := by
 obtain ⟨fuel,hf⟩ := h0;rcases Deep.open_slice Tryz.underlying39 hf with ⟨hcs,_⟩ | ⟨x,l,c,m,n,D,Pl,hcs,_,hl,hm,hmm,hx,hel⟩
 ·simp [Value.cells] at hcs
  obtain ⟨rfl,rfl,rfl⟩ := hcs;exact ⟨[],⟨none,0,rfl,by simp,.inl rfl⟩,zZE _⟩
 ·simp [Value.cells] at hcs
  obtain ⟨rfl,rfl,rfl⟩ := hcs;simp only [if_true] at hmm;subst hmm;have hd : d = .slice ((List.range len).map D) ((List.range (m - len)).map fun j => D (len + j)) := congrArg Prod.fst hx;rw [hd] at hb;simp only [Rows.uptoBulk] at hb;have e1 := zVC ((List.range len).map D);simp only [List.length_map,List.length_range] at e1;rw [Tryz.cellsSt11] at hel
  by_cases he : len = 0
  ·subst he
   exact ⟨[],⟨_,_,rfl,by simp,.inl rfl⟩,zZE _⟩
  ·obtain ⟨b,off,spot⟩ := x
   obtain ⟨cs0,h10,h20⟩ := hel 0 (by omega);have hb0 : Rows.uptoBulk (D 0) ≤ 1048576 := by
    have := zzB (List.mem_map_of_mem (f := D) (List.mem_range.2 (show 0 < len by omega)));omega
   obtain ⟨_,_,_,_,_,_,_,_,rfl,_⟩ := open_st11 (x := (D 0,Pl 0)) h20 hb0;have hc := (World.cells?_some h10).2.2 0 (by omega);rw [Deep.add_add] at hc;simp only [Nat.zero_mul,Nat.add_zero,List.getElem?_cons_zero] at hc;have hspot : spot = none := by simpa [Addr.add] using World.cell?_spot hc
   subst hspot;have hblk : b < W.heap.size := by
    have := World.block_lt_of_cell? W _ hc
    simpa [Addr.add] using this
   obtain ⟨q,hq⟩ := Deep.choose_lt (α := Rs × Nat) (n := len) (p := fun k s => ∃ nv av lv cv,
     W.cell? ⟨b,off + k * 5,none⟩ = some (.int .i64 s.1.kind) ∧ W.cell? ⟨b,off + k * 5 + 1,none⟩ = some (.int .i64 s.1.i) ∧ W.cell? ⟨b,off + k * 5 + 2,none⟩ = some (.int .i64 s.1.j) ∧ W.cell? ⟨b,off + k * 5 + 3,none⟩ = some (.bool nv) ∧ W.cell? ⟨b,off + k * 5 + 4,none⟩ = some (.slice av lv cv) ∧
     Zi W (.agg #[.bool nv,.slice av lv cv]) s.1.z s.2 ∧ s.2 + 1 ≤ Rows.uptoBulk (D k)) (fun k hk => by
    obtain ⟨cs',h1,h2⟩ := hel k (by omega);have hbi : Rows.uptoBulk (D k) ≤ 1048576 := by
     have := zzB (List.mem_map_of_mem (f := D) (List.mem_range.2 hk));omega
    obtain ⟨kind,I,J,nv,av,lv,cv,z,kz,rfl,hz,hkz⟩ := open_st16 (x := (D k,Pl k)) h2 hbi;have hk' := (World.cells?_some h1).2.2;have e : ∀ j,(⟨b,off,none⟩ : Addr).add j = ⟨b,off + j,none⟩ := fun j => by unfold Addr.add;split <;> simp_all
    have c0 := hk' 0 (by omega);have c1 := hk' 1 (by omega);have c2 := hk' 2 (by omega);have c3 := hk' 3 (by omega);have c4 := hk' 4 (by omega);simp only [e] at c0 c1 c2 c3 c4;exact ⟨(⟨kind,I,J,z⟩,kz),nv,av,lv,cv,c0,c1,c2,c3,c4,hz,hkz⟩)
   have ht := zJD (D := D) (q := fun i => (q i).2) (List.range len) (fun i hi => by
    obtain ⟨_,_,_,_,_,_,_,_,_,_,h⟩ := hq i (List.mem_range.1 hi);exact h)
   have hgr := zyG (q := fun i => (q i).1) (κ := fun i => (q i).2) (List.range len) (fun i hi => by
    obtain ⟨_,_,_,_,_,_,_,_,_,h,_⟩ := hq i (List.mem_range.1 hi);exact h.lt)
   have hup := zcG (m := ksum ((List.range len).map fun i => (q i).2)) (n := 1048576) (by omega);refine ⟨(List.range len).map fun i => (q i).1,⟨some ⟨b,off,none⟩,m,by simp,by simp;omega,.inr ⟨b,off,rfl,hblk,fun j s hs => ?_⟩⟩,Int.le_trans hgr hup⟩;have hj : j < len := by simpa using (List.getElem?_eq_some_iff.1 hs).1
   rw [List.getElem?_map,List.getElem?_range hj] at hs;simp at hs;subst hs;obtain ⟨nv,av,lv,cv,q0,q1,q2,q3,q4,q5,q6⟩ := hq j hj;have hbj := zzB (List.mem_map_of_mem (f := D) (List.mem_range.2 hj));exact ⟨nv,av,lv,cv,q0,q1,q2,q3,q4,q5.more (by omega)⟩
end Go.Proofs.YtnfpjgmmhhdgbaaGreat
