/-
 QPv18ToRk18: Pv18, Fp18, Rr18, Lo18, Rk18, joined.
-/
import Derived.Test.YtbcgggadelnaaaaGreatQVa16ToIx18
import Derived.Test.YtbcgggadelnaaaaGreatQTl19ToHs18
import Derived.Test.YtbcgggadelnaaaaGreatQBz13ToRl17
import Derived.Test.YtbcgggadelnaaaaGreatQFo18ToFar
import Derived.Test.YtbcgggadelnaaaaGreatQLm6ToChkN9
import Derived.Test.YtbcgggadelnaaaaGreatQEachM11ToPr12
import Derived.Test.YtbcgggadelnaaaaGreatQTailLToTo18

set_option maxRecDepth 100000
set_option maxHeartbeats 6400000
set_option linter.unusedVariables false
set_option linter.unusedSimpArgs false
namespace Go.Proofs.YtbcgggadelnaaaaGreat
open Go.RowKit
theorem below_own18 {B : Nat} {w0 w w' : World} {v : Value} {l : List Nat} (h : Below B w0 w) (hB : B ≤ w.heap.size) (ho : Ivs B w v l) (hg : w.grownBy w' v.ownBlock) : Below B w0 w' :=
 h.trans ⟨hg.os,hg.tape,hg.output,hg.size,fun k hk => hg.block k (by omega) (fun e => by have := (ho.blk e.symm).1;omega)⟩
def zaB (γ : Nat → Nat) (i : Nat) : List Nat := (List.range i).map γ
theorem zRB (γ : Nat → Nat) (i : Nat) : (zaB γ i).length = i := by simp [zaB]
theorem pvL18_more (γ : Nat → Nat) (i : Nat) : zaB γ (i + 1) = zaB γ i ++ [γ i] := by simp [zaB,List.range_succ]
def zlG (w : World) (m r : Nat) (γ : Nat → Nat) (gk : Nat) (s2 s4 s10 : Value) (wx : World) : Prop :=
 ∃ i nx : Nat,s10 = .int .i64 (i : Int) ∧ s4 = .int .i64 (nx : Int) ∧ i ≤ m ∧ gk = m - i ∧ nx ≤ 64 ∧ (∀ a,a < r → i ≤ a → nx ≤ γ a) ∧ Ivs w.heap.size wx s2 (zaB γ (min i r)) ∧ Below w.heap.size w wx
def zsH (w : World) (r : Nat) (γ : Nat → Nat) (e : Ending) (w' : World) : Prop := ∃ v,e = .returned (.tuple #[v,.bool true]) ∧ Ivs w.heap.size w' v (zaB γ r) ∧ Below w.heap.size w w'
theorem fst_in18 {n m r i : Nat} {γ : Nat → Nat} {X : Nat → Nat → Int} {q : Int} (hE : Ec18 n m r id γ X) (hi : i < m) (h : zPH n ((List.range n).map (X i)) q) : (i < r ∧ q = (γ i : Int)) ∨ (r ≤ i ∧ q = -1) := by
 have hg : ∀ j,j < n → ((List.range n).map (X i)).getD j 0 = X i j := fun j hj => by simp [hj]
 by_cases hr : i < r
 ·refine .inl ⟨hr,?_⟩
  have hc := hE.cl i hr;have hp := hE.pos i hr;simp only [id] at hp;rcases h with ⟨_,h⟩ | ⟨c,e,hcn,h1,h2⟩
  ·have := h (γ i) hc;rw [hg _ hc] at this;omega
  ·rw [e]
   have : c = γ i := by
    rcases Nat.lt_trichotomy c (γ i) with q1 | q1 | q1
    ·have := hE.zero i c hr q1;simp only [id] at this;rw [hg _ hcn] at h2;omega
    ·exact q1
    ·have := h1 (γ i) q1;rw [hg _ hc] at this;omega
   rw [this]
 ·refine .inr ⟨by omega,?_⟩
  rcases h with ⟨e,_⟩ | ⟨c,e,hcn,h1,h2⟩
  ·exact e
  ·rw [hg _ hcn] at h2
   exact absurd (hE.rest i hi (fun a ha q1 => by simp only [id] at q1;omega) c hcn) h2
theorem pivotsOf18 {w : World} {B m n k r : Nat} {lv : Value} {gs γ : Nat → Nat} {X : Nat → Nat → Int} (h : Sh17 B w lv m n gs X k) (hm : m ≤ 64) (hn : n ≤ 64) (hE : Ec18 n m r id γ X) (hR : Rd18 0 r id γ X) :
  Calls Tryz.prog 82 #[lv] w (zsH w r γ) := by
 have hrm : r ≤ m := by
  rcases Nat.eq_zero_or_pos r with q | q
  ·omega
  ·have := hE.rl (r - 1) (by omega);simp only [id] at this;omega
 obtain ⟨la,cap,rfl,hla⟩ : ∃ la cap,lv = .slice la m cap ∧ (0 < m → ∃ Lb,la = some ⟨Lb,0,none⟩ ∧ m ≤ cap) := by
  rcases h.1 with ⟨e0,e⟩ | ⟨h0,Lb,cap,q,e,e1,_⟩
  ·exact ⟨none,0,by rw [e,e0],fun q => by omega⟩
  ·exact ⟨_,cap,e,fun _ => ⟨Lb,rfl,e1⟩⟩
 have SH := hid h;have HE := hid hE;have HR := hid hR;have HRM := hid hrm;have HLA := hid hla;have H0 : Hid (zlG w m r γ m (.slice none 0 0) (.int .i64 0) (.int .i64 0) w) := ⟨0,0,rfl,rfl,Nat.zero_le _,rfl,by omega,fun _ _ _ => Nat.zero_le _,by rw [Nat.zero_min];exact Ivs.nil _ _,Below.refl _ _⟩
 clear h hE hR hrm hla;go_enter Tryz.func82,Tryz.ntmps82;go_wp2_with fail
 go_loopg [2,4,10] m (fun gk s2 s4 s10 wx => zlG w m r γ gk s2 s4 s10 wx)
 case atStart => exact H0.out
 case round =>
  clear H0;obtain ⟨i,nx,rfl,rfl,him,hgk,hnx,hlo,hiv,hb⟩ := hrel;have IV := hid hiv;have BB := hid hb;have HG := hid hgk;have HLO := hid hlo;clear hiv hb hgk hlo;obtain ⟨aa,cc,rfl,-,-⟩ := IV.out.form;obtain ⟨ll,hll⟩ : ∃ ll,(zaB γ (min i r)).length = ll := ⟨_,rfl⟩
  rw [hll] at IV
  try rw [hll]
  have HLL := hid hll;clear hll
  by_cases hlt : i < m
  ·have hlt' : (i : Int) < (m : Int) := by omega
   obtain ⟨Lb,rfl,hmc⟩ := HLA.out (by omega);have sh := SH.out.now BB.out;have k0 := sh.lineS hlt;obtain ⟨g,hge⟩ : ∃ g,gs i = g := ⟨_,rfl⟩
   obtain ⟨ps,ha,hz⟩ := (sh.2.2 i hlt).2;rw [hge] at k0 ha;have HS := hid (index18 ha hz (by simp) hn);have hw := zVA (i := i) (by omega);have HMM : Hid (m - (i + 1) < gk) := by unfold Hid;rw [HG.out];omega
   have HGE := hid hge;clear sh ha hz hge HG;go_wp2_with fail;refine HS.out.mono ?_;rintro e w1 ⟨q,rfl,hq,b⟩;have B1 := hid (below_step BB.out b);have IV1 := hid (IV.out.now b);rcases fst_in18 HE.out hlt hq with ⟨hir,rfl⟩ | ⟨hir,rfl⟩
   ·obtain ⟨c,hce⟩ : ∃ c,γ i = c := ⟨_,rfl⟩
    rw [hce];have hcn : c < n := by rw [← hce];exact HE.out.cl i hir
    have hcn' : (c : Int) < (n : Int) := by omega
    have hc0 : ¬ ((c : Int) < 0) := by omega
    have hnc : nx ≤ c := by have := HLO.out i hir (Nat.le_refl _);omega
    have hcx : ¬ ((c : Int) < (nx : Int)) := by omega
    have HMI : Hid (min i r = i) := hid (by omega);have sh1 := SH.out.now B1.out;have k1 := sh1.lineS hlt;obtain ⟨nf,af,lf,cf,e0,e1,-,-,zf⟩ := (sh1.2.2 i hlt).2.at hcn;rw [HGE.out] at k1 e0 e1;have SH1 := hid sh1;have ZF := hid zf;have HPO : Hid (0 < X i c) := by unfold Hid;rw [← hce];exact HE.out.pos i hir
    have HCE := hid hce;have hcp : cmpI (X i c) 0 = 1 := zKB HPO.out;have HSG : Hid (∀ w',Below w1.heap.size w1 w' → Calls Tryz.prog 78 #[.agg #[.bool nf,.slice af lf cf]] w' fun e w'' => e = .returned (.int .i64 1) ∧ Below w'.heap.size w' w'') := fun w' b' => by
     have := ziA (ZF.out.now b').zi;rw [hcp] at this;exact this
    have HAR : Hid (∀ w',Below w1.heap.size w1 w' → Calls Tryz.prog 111 #[.slice (some ⟨Lb,0,none⟩) i cap,.int .i64 (c : Int),.agg #[.bool nf,.slice af lf cf]] w' fun e w'' => e = .returned (.bool true) ∧ Below w'.heap.size w' w'') := fun w' b' => by
     refine (areReduced18 (SH1.out.now b') (Nat.le_of_lt hlt) hm hcn (ZF.out.now b')).mono fun e w'' hh => ?_
     obtain ⟨bc,rfl,h1,h2⟩ := hh;refine ⟨?_,h2⟩;rw [h1.2 fun t ht => ?_];have := HR.out t i (Nat.zero_le _) ht hir;simp only [id] at this;rw [HCE.out] at this;exact this
    have hic : (i : Int) ≤ (cap : Int) := by omega
    clear HS hq b IV BB hce sh1 zf hcp k0;go_wp2_with fail;have KB : Hid (∀ w',Below w1.heap.size w1 w' → w'.cell? ⟨g,c * 2,none⟩ = some (.bool nf) ∧ w'.cell? ⟨g,c * 2 + 1,none⟩ = some (.slice af lf cf)) := fun w' h => ⟨cnow h e0,cnow h e1⟩
    refine zEA (fun w' => w'.cell? ⟨g,c * 2,none⟩ = some (.bool nf) ∧ w'.cell? ⟨g,c * 2 + 1,none⟩ = some (.slice af lf cf)) 22 (by kernel_rfl) ?_;obtain ⟨D11,hD⟩ : ∃ D11,w1.drew = D11 := ⟨_,rfl⟩
    have GB : Hid (Below w1.heap.size w1 D11) := by unfold Hid;rw [← hD];exact (Below.refl _ _).drew
    rw [hD];clear hD;refine zFA [(0,(.int .i64 (c : Int))),(1,(.int .i64 (nx : Int))),(2,(.bool false)),(3,(.bool false)),(4,(.slice (some ⟨g,0,none⟩) n n)),(5,(.int .i64 (c : Int))),(6,(.pointer (some ⟨g,c * 2,none⟩))),(7,(.agg #[.bool nf,.slice af lf cf]))] 8 ?_ (KB.out _ GB.out) ?_
    ·simp only [zMA,gA9,g09,g19,Act.put,sI9,s09,s19]
     (repeat' (first | exact trivial | refine And.intro (Or.inl ⟨by rfl,?_⟩) ?_)) <;> (intro w hSw;(try dsimp only at hSw);go_simp)
    simp only [actV,gA9,g09,g19,Act.put,sI9,s09,s19];refine zAA (i := 8) (o := ⟨some 29,.call { callee := .value (.func 78),args := #[.tmp 28],argTypes := #[51] },3, "lines.go:64",#[⟨7,.data⟩,⟨3,.chain⟩,⟨3,.guard⟩],some (3,false)⟩) (by kernel_rfl) rfl (fun K hK => ?_);go_simp;go_at_call 78;refine (HSG.out _ GB.out).mono ?_;rintro e w12 ⟨rfl,b⟩;have lz12 := (show Below _ _ _ from b).size;replace GB := hid (below_step GB.out b);clear b;refine hK.out _ _ (fun _ => KB.out _ GB.out) ?_;clear hK;refine zFA [(9,(.bool false)),(10,(.bool false)),(11,(.bool false)),(12,(.slice (some ⟨Lb,0,none⟩) m cap)),(13,(.int .i64 (i : Int))),(14,(.slice (some ⟨Lb,0,none⟩) i cap)),(15,(.int .i64 (c : Int))),(16,(.slice (some ⟨g,0,none⟩) n n)),(17,(.int .i64 (c : Int))),(18,(.pointer (some ⟨g,c * 2,none⟩))),(19,(.agg #[.bool nf,.slice af lf cf]))] 11 ?_ (KB.out _ GB.out) ?_
    ·simp only [zMA,gA9,g09,g19,Act.put,sI9,s09,s19]
     (repeat' (first | exact trivial | refine And.intro (Or.inl ⟨by rfl,?_⟩) ?_)) <;> (intro w hSw;(try dsimp only at hSw);go_simp)
    simp only [actV,gA9,g09,g19,Act.put,sI9,s09,s19];refine zAA (i := 20) (o := ⟨some 41,.call { callee := .value (.func 111),args := #[.tmp 35,.tmp 36,.tmp 40],argTypes := #[61,3,51] },4, "lines.go:64",#[⟨14,.data⟩,⟨15,.data⟩,⟨19,.data⟩,⟨11,.chain⟩,⟨11,.guard⟩],some (11,false)⟩) (by kernel_rfl) rfl (fun K hK => ?_);go_simp;go_at_call 111;refine (HAR.out _ GB.out).mono ?_;rintro e w13 ⟨rfl,b⟩;have lz13 := (show Below _ _ _ from b).size;replace GB := hid (below_step GB.out b);clear b;refine hK.out _ _ (fun _ => KB.out _ GB.out) ?_;clear hK;refine zFA [(21,(.bool false))] 1 ?_ (KB.out _ GB.out) ?_
    ·simp only [zMA,gA9,g09,g19,Act.put,sI9,s09,s19]
     (repeat' (first | exact trivial | refine And.intro (Or.inl ⟨by rfl,?_⟩) ?_)) <;> (intro w hSw;(try dsimp only at hSw);go_simp)
    simp only [actV,gA9,g09,g19,Act.put,sI9,s09,s19];refine zAA (i := 22) (o := ⟨some 43,.pick (.tmp 32) (.const (.bool true)) (.tmp 42),4, "lines.go:64",#[⟨11,.data⟩,⟨21,.data⟩],none⟩) (by kernel_rfl) rfl (fun K hK => ?_);go_simp;refine hK.out _ _ (fun h => absurd h (by decide)) ?_;clear hK
    try simp only [Act.put]
    refine zDA (by kernel_rfl) ?_ _;have B2 := hid (below_step B1.out GB.out);have IV2 := hid (IV1.out.now GB.out);clear GB KB HSG HAR k1 e0 e1 SH1 ZF B1 IV1;obtain ⟨V,hV⟩ : ∃ V,w13.alloc (.cells #[.int .i64 (c : Int)] 3) = V := ⟨_,rfl⟩
    obtain ⟨bv,szv⟩ := alo1 w13 (.cells #[.int .i64 (c : Int)] 3);rw [hV] at bv szv;have CV : Hid (V.cell? ⟨w13.heap.size,0,none⟩ = some (.int .i64 (c : Int))) := by unfold Hid;rw [← hV];exact (Cel.new w13 3 [.int .i64 (c : Int)]).at (i := 0) rfl
    have BV := hid (below_step B2.out bv);have IV3 := hid (IV2.out.now bv);have HL : Hid ((zaB γ (min i r)).length ≤ 1000000) := by unfold Hid;rw [zRB];omega
    have EV := hid hV;have hwc := zVA (i := c) (by omega);clear bv szv hV B2 IV2;go_wp2_with (at_builtin;rw [EV.out];refine wpList_append_ivs V rfl (.tmp 44) (.tmp 46) rfl w.heap.size _ _ c rfl IV3.out w13.heap.size rfl CV.out HL.out BV.out.size ?_)
    intro g' cap' w3 hI hg hb;rw [HLL.out] at hI ⊢;have HN1 : Hid (zlG w m r γ (m - (i + 1)) (.slice (some ⟨g',0,none⟩) (ll + 1) cap') (.int .i64 ((c + 1 : Nat) : Int)) (.int .i64 ((i + 1 : Nat) : Int)) w3) := by
     refine ⟨i + 1,c + 1,rfl,rfl,by omega,rfl,by omega,fun a ha hia => ?_,?_,below_own18 BV.out BV.out.size IV3.out hg.out⟩
     ·have := HE.out.up i a (by omega) ha
      rw [HCE.out] at this;omega
     ·have e : zaB γ (min (i + 1) r) = zaB γ (min i r) ++ [c] := by rw [HMI.out,show min (i + 1) r = i + 1 by omega,pvL18_more,HCE.out]
      rw [e];exact hI.out
    clear hI hg hb IV3 BV CV HL EV;go_wp2_with fail;go_roundg (m - (i + 1))
    case rel => exact HN1.out
    case measure => exact HMM.out
   ·have HN1 : Hid (zlG w m r γ (m - (i + 1)) (.slice aa ll cc) (.int .i64 (n : Int)) (.int .i64 ((i + 1 : Nat) : Int)) w1) := by
     refine ⟨i + 1,n,rfl,rfl,by omega,rfl,hn,fun a ha hia => by omega,?_,B1.out⟩;rw [show min (i + 1) r = min i r by omega];exact IV1.out
    clear HS hq b IV BB IV1 B1 k0;go_wp2_with fail;go_roundg (m - (i + 1))
    case rel => exact HN1.out
    case measure => exact HMM.out
  ·have hlt' : ¬ (i : Int) < (m : Int) := by omega
   obtain rfl : i = m := by omega
   have FIN : Hid (zsH w r γ (.returned (.tuple #[.slice aa ll cc,.bool true])) wr) := ⟨_,rfl,by have := IV.out;rw [show min i r = r by have := HRM.out;omega] at this;exact this,BB.out⟩
   clear IV BB HG HLA SH HE HR;go_wp2;go_ret2;exact FIN.out
theorem Ivs.mono18 {B B' : Nat} {w : World} {v : Value} {l : List Nat} (h : Ivs B w v l) (hB : B' ≤ B) : Ivs B' w v l := by
 obtain ⟨q1,⟨q2,q3⟩ | ⟨g,cap,cur,q2,q3,q4⟩⟩ := h
 ·exact ⟨q1,.inl ⟨q2,q3⟩⟩
 ·exact ⟨q1,.inr ⟨g,cap,cur,q2,Nat.le_trans hB q3,q4⟩⟩
theorem Sh17.mono18 {B B' m n k : Nat} {w : World} {lv : Value} {gs : Nat → Nat} {L : Nat → Nat → Int} (h : Sh17 B w lv m n gs L k) (hB : B' ≤ B) : Sh17 B' w lv m n gs L k := by
 obtain ⟨h1,h4,h5⟩ := h;refine ⟨?_,h4,fun i hi => ⟨Nat.le_trans hB (h5 i hi).1,(h5 i hi).2⟩⟩;rcases h1 with h1 | ⟨h0,Lb,cap,r,e,e0,e1,e2⟩
 ·exact .inl h1
 ·exact .inr ⟨h0,Lb,cap,r,e,e0,Nat.le_trans hB e1,e2⟩
def zxH (w : World) (m n r : Nat) (γ : Nat → Nat) (X : Nat → Nat → Int) (k : Nat) (e : Ending) (w' : World) : Prop :=
 ∃ lv gs cv,e = .returned (.tuple #[lv,cv,.int .i64 0]) ∧ Sh17 w.heap.size w' lv m n gs X k ∧ Ivs w.heap.size w' cv (zaB γ r) ∧ Below w.heap.size w w'
theorem formAndPivots18 {w : World} {v : Value} {m n k r : Nat} {γ : Nat → Nat} {zs : List Int} (h : Mx w v m n zs k) (hE : Ec18 n m r id γ (en18 n zs)) (hR : Rd18 0 r id γ (en18 n zs)) :
  Calls Tryz.prog 43 #[v,.int .i64 (n : Int)] w (zxH w m n r γ (en18 n zs) k) := by
 have M0 := hid h;obtain ⟨aa,ca,rfl,hr,hc⟩ := h.form;have HZL : Hid (zs.length = m * n) := by obtain ⟨_,_,_,_,_,h,_⟩ := h;exact h
 obtain ⟨la,hla⟩ : ∃ la,m * n = la := ⟨_,rfl⟩
 rw [hla] at M0 ⊢;obtain ⟨W0,hW⟩ : ∃ W0,w.alloc (matO m n (.slice aa la ca)) = W0 := ⟨_,rfl⟩
 obtain ⟨b0,sz0⟩ := alo1 w (matO m n (.slice aa la ca));rw [hW] at b0 sz0;have pa : Cel W0 w.heap.size 24 (matc m n (.slice aa la ca)) := by rw [← hW];exact Cel.new w _ _
 have PA := hid pa;have HCK := hid (zqB (M0.out.now b0));replace M0 := hid (M0.out.now b0);have x0 := pa.at (i := 0) rfl;have x1 := pa.at (i := 1) rfl;have x2 := pa.at (i := 2) rfl;rw [← hW] at x0 x1 x2;have G := hid b0;have EW := hid hW;have HE := hid hE;have HR := hid hR;have hnn : ((n : Int) != (n : Int)) = false := by simp
 clear h b0 sz0 hW pa hE hR hla;go_enter Tryz.func43,Tryz.ntmps43;go_wp2_with fail;rw [EW.out];clear EW x0 x1 x2;refine HCK.out.mono ?_;rintro e w1 ⟨rfl,b⟩;replace PA := hid (PA.out.step b);replace M0 := hid (M0.out.now b);replace G := hid (below_step G.out b);have HL := hid (zrE M0.out);have x0 := PA.out.at (i := 0) rfl;have x1 := PA.out.at (i := 1) rfl;have x2 := PA.out.at (i := 2) rfl;clear HCK b;go_wp2_with fail;clear x0 x1 x2;refine HL.out.mono ?_;rintro e w2 ⟨lv,gs,rfl,sh,b⟩;have hlen : (rowsL m n zs).length = m := by simp [rowsL]
 rw [hlen] at sh;have sh2 := sh.congr (L' := en18 n zs) fun i j hi hj => zIF HZL.out hi hj
 have HP := hid (pivotsOf18 sh2 hr hc HE.out HR.out);have HS1 : Hid (w.heap.size ≤ w1.heap.size) := G.out.size;replace G := hid (below_step G.out b);obtain ⟨al,cl,rfl⟩ : ∃ al cl,lv = .slice al m cl := by
  rcases sh2.1 with ⟨e0,e⟩ | ⟨h0,Lb,cap,q,e,e1,_⟩
  ·exact ⟨none,0,by rw [e,e0]⟩
  ·exact ⟨_,cap,e⟩
 have B1 := hid b;have SH2 := hid sh2;clear HL b sh sh2 M0 PA hlen;go_wp2_with fail;refine HP.out.mono ?_;rintro e w3 ⟨cv,rfl,hv,b⟩;obtain ⟨ac,cc,rfl,-,-⟩ := hv.form;have FIN : Hid (zxH w m n r γ (en18 n zs) k (.returned (.tuple #[.slice al m cl,.slice ac (zaB γ r).length cc,.int .i64 0])) w3) := ⟨_,gs,_,rfl,(SH2.out.now b).mono18 HS1.out,hv.mono18 (Nat.le_trans HS1.out B1.out.size),below_step G.out b⟩
 clear HP hv b SH2 G B1 HE HR;generalize (zaB γ r).length = lr at *;go_wp2;go_ret3;exact FIN.out
theorem formNoFit18 {w : World} {v : Value} {m n k : Nat} {c : Int} {zs : List Int} (h : Mx w v m n zs k) (hc : (n : Int) ≠ c) :
  Calls Tryz.prog 43 #[v,.int .i64 c] w fun e w' => e = .returned (.tuple #[.slice none 0 0,.slice none 0 0,.int .i64 2]) ∧ Below w.heap.size w w' := by
 have M0 := hid h;obtain ⟨aa,ca,rfl,hr,hcc⟩ := h.form;obtain ⟨la,hla⟩ : ∃ la,m * n = la := ⟨_,rfl⟩
 rw [hla] at M0 ⊢;obtain ⟨W0,hW⟩ : ∃ W0,w.alloc (matO m n (.slice aa la ca)) = W0 := ⟨_,rfl⟩
 obtain ⟨b0,sz0⟩ := alo1 w (matO m n (.slice aa la ca));rw [hW] at b0 sz0;have pa : Cel W0 w.heap.size 24 (matc m n (.slice aa la ca)) := by rw [← hW];exact Cel.new w _ _
 have PA := hid pa;have HCK := hid (zqB (M0.out.now b0));have x0 := pa.at (i := 0) rfl;have x1 := pa.at (i := 1) rfl;have x2 := pa.at (i := 2) rfl;rw [← hW] at x0 x1 x2;have G := hid b0;have EW := hid hW;have hnn : ((n : Int) != c) = true := by simp only [bne_iff_ne];exact hc
 clear h b0 sz0 hW pa M0 hla;go_enter Tryz.func43,Tryz.ntmps43;go_wp2_with fail;rw [EW.out];clear EW x0 x1 x2;refine HCK.out.mono ?_;rintro e w1 ⟨rfl,b⟩;replace PA := hid (PA.out.step b);replace G := hid (below_step G.out b);have x0 := PA.out.at (i := 0) rfl;have x1 := PA.out.at (i := 1) rfl;have x2 := PA.out.at (i := 2) rfl;clear HCK b;go_wp2;go_ret3;exact ⟨rfl,G.out⟩
end Go.Proofs.YtbcgggadelnaaaaGreat
namespace Go.Proofs.YtbcgggadelnaaaaGreat
def zqA (γ : Nat → Nat) (X : Nat → Nat → Int) (v : Nat → Int) : Nat → Nat → Int
 | 0 => v
 | i + 1 => fun j => zqA γ X v i j - zqA γ X v i (γ i) / X i (γ i) * X i j
def zzA (γ : Nat → Nat) (X : Nat → Nat → Int) (v : Nat → Int) (i : Nat) : Int := zqA γ X v i (γ i) / X i (γ i)
section
variable {n K r : Nat} {γ : Nat → Nat} {X : Nat → Nat → Int}
theorem zSD (v : Nat → Int) (i j : Nat) : zqA γ X v (i + 1) j = zqA γ X v i j - zzA γ X v i * X i j := rfl
theorem zVC (v : Nat → Int) (j : Nat) : ∀ i,v j = zqA γ X v i j + su i fun a => zzA γ X v a * X a j
 | 0 => by show v j = v j + 0;omega
 | i + 1 => by
  have := zVC v j i;rw [zSD]
  show v j = _ + (su i (fun a => zzA γ X v a * X a j) + zzA γ X v i * X i j)
  omega
theorem zQE (h : Ec18 n K r id γ X) (v : Nat → Int) : ∀ i,i ≤ r → ∀ a,a < i → 0 ≤ zqA γ X v i (γ a) ∧ zqA γ X v i (γ a) < X a (γ a)
 | 0,_,a,ha => by omega
 | i + 1,hi,a,ha => by
  rw [zSD];have hp := h.pos i (by omega);simp only [id] at hp
  by_cases q : a = i
  ·subst q
   unfold zzA;have e := Int.emod_def (zqA γ X v a (γ a)) (X a (γ a));have e1 := Int.emod_nonneg (zqA γ X v a (γ a)) (show X a (γ a) ≠ 0 by omega);have e2 := Int.emod_lt_of_pos (zqA γ X v a (γ a)) hp;rw [Int.mul_comm];omega
  ·have z := h.zero i (γ a) (by omega) (h.up a i (by omega) (by omega))
   simp only [id] at z;rw [z,Int.mul_zero,Int.sub_zero];exact zQE h v i (by omega) a (by omega)
theorem rest_one18 (h : Ec18 n K r id γ X) {R S : Nat → Int} (hR : ∀ a,a < r → 0 ≤ R (γ a) ∧ R (γ a) < X a (γ a)) (hS : ∀ a,a < r → 0 ≤ S (γ a) ∧ S (γ a) < X a (γ a)) (hd : Cm19 K n X fun j => R j - S j) : ∀ j,j < n → R j = S j := by
 obtain ⟨z,hz⟩ := (h.cm _).1 hd;have h0 : ∀ a,a < r → z a = 0 := fun a ha => Classical.byContradiction fun hn => by
  obtain ⟨b,hb,hb1,hb2⟩ := zLF a ha hn;have e := (h.begins hz hb hb2).2;simp only [id] at e;have h1 := hR b hb;have h2 := hS b hb;have : (z b).natAbs ≠ 0 := by omega
  rcases Int.lt_trichotomy (z b) 0 with q | q | q
  ·have := Int.mul_le_mul_of_nonneg_right (show z b ≤ -1 by omega) (show 0 ≤ X b (γ b) by omega)
   omega
  ·exact hb1 q
  ·have := Int.mul_le_mul_of_nonneg_right (show 1 ≤ z b by omega) (show 0 ≤ X b (γ b) by omega)
   omega
 intro j hj;have e : R j - S j = su r fun a => z a * X (id a) j := hz j hj
 rw [znB fun a ha => by rw [h0 a ha,Int.zero_mul]] at e;omega
theorem zFG (h : Ec18 n K r id γ X) (v : Nat → Int) : Cm19 K n X fun j => v j - zqA γ X v r j :=
 (h.cm _).2 ⟨zzA γ X v,fun j hj => by have := zVC (γ := γ) (X := X) v j r;simp only [id];omega⟩
theorem rs_same18 (h : Ec18 n K r id γ X) {v u : Nat → Int} (hd : Cm19 K n X fun j => u j - v j) : ∀ j,j < n → zqA γ X u r j = zqA γ X v r j := by
 refine rest_one18 h (zQE h u r (Nat.le_refl _)) (zQE h v r (Nat.le_refl _)) ?_;have h1 := (zFG h u).mul (-1);have h2 := (h1.add (zFG h v)).add hd;exact h2.congr fun j _ => by omega
theorem zjE (h : Ec18 n K r id γ X) {v : Nat → Int} {T Y : Nat} (hX : ∀ i j,i < r → j < n → (X i j).natAbs ≤ T) (hv : ∀ j,j < n → (v j).natAbs ≤ Y) : ∀ i,i ≤ r → (∀ j,j < n → (zqA γ X v i j).natAbs ≤ Y * (T + 1) ^ i) ∧ ∀ a,a < i → (zzA γ X v a).natAbs ≤ Y * (T + 1) ^ a
 | 0,_ => ⟨fun j hj => by rw [Nat.pow_zero,Nat.mul_one];exact hv j hj,fun a ha => by omega⟩
 | i + 1,hi => by
  obtain ⟨h1,h2⟩ := zjE h hX hv i (by omega);have hp := h.pos i (by omega);simp only [id] at hp;have hc : (zzA γ X v i).natAbs ≤ Y * (T + 1) ^ i := by
   refine Nat.le_trans ?_ (h1 (γ i) (h.cl i (by omega)));unfold zzA;exact Int.natAbs_ediv_le_natAbs _ _
  refine ⟨fun j hj => ?_,fun a ha => ?_⟩
  ·rw [zSD]
   have e1 := h1 j hj;have e2 : (zzA γ X v i * X i j).natAbs ≤ Y * (T + 1) ^ i * T := by
    rw [Int.natAbs_mul];exact Nat.mul_le_mul hc (hX i j (by omega) hj)
   have e3 : Y * (T + 1) ^ (i + 1) = Y * (T + 1) ^ i * T + Y * (T + 1) ^ i := by
    rw [Nat.pow_succ,← Nat.mul_assoc,Nat.mul_add,Nat.mul_one]
   omega
  ·by_cases q : a = i
   ·rw [q];exact hc
   ·exact h2 a (by omega)
end
open Go.RowKit
theorem ztE {w : World} {k : Nat} {v : Value} {zs : List Int} (h : Zl w v zs k) :
  Calls Tryz.prog 44 #[v] w (zuB w zs k) := by
 have V0 := hid h;have HMP : Hid (zs = (List.range zs.length).map fun j => zs.getD j 0) := by
  unfold Hid
  apply List.ext_getElem
  ·simp
  ·intro j h1 h2
   simp [h1]
 obtain ⟨a0,c0,rfl,hc0,hn0,hf0⟩ := V0.out.form9;obtain ⟨n,hn⟩ : ∃ n,zs.length = n := ⟨_,rfl⟩
 rw [hn] at V0 hc0 hn0 HMP ⊢;have HN := hid hn;have F0 := hid hf0;clear h hf0 hn;go_enter Tryz.func44,Tryz.ntmps44;go_wp2_with (at_make;refine zOA _ rfl _ _ rfl _ _ n n rfl rfl rfl rfl (Nat.le_refl _) (by omega) ?_)
 intro w1 hrow hb1 hsz1;have H0 : Hid (zsF w w.heap.size n (fun j => zs.getD j 0) k n (.int .i64 0) w1) := ⟨0,rfl,Nat.zero_le _,by omega,FilM.start hrow _ _,hb1⟩
 clear hrow hb1 hsz1;go_wp2_with fail
 go_loopg [11] n (fun gk s11 wx => zsF w w.heap.size n (fun j => zs.getD j 0) k gk s11 wx)
 case atStart => exact H0.out
 case round =>
  clear H0;obtain ⟨i,rfl,hin,hg,hfil,hG⟩ := hrel;have FI := hid hfil;have G := hid hG;have HG := hid hg;clear hfil hG hg
  by_cases hlt : i < n
  ·have hlt' : (i : Int) < (n : Int) := by omega
   obtain ⟨b1,o1,rfl⟩ := F0.out (fun e => by have := HN.out;rw [e] at this;simp at this;omega);obtain ⟨nf,xf,adf,qf,k0,k1,zf⟩ := (V0.out.now G.out).at9 (i := i) (by rw [HN.out];exact hlt);rw [zcB] at zf;obtain ⟨V1,hV⟩ : ∃ V1,wr.alloc (duo (.bool nf) (.slice adf xf.length qf)) = V1 := ⟨_,rfl⟩
   obtain ⟨b,sz1⟩ := alo1 wr (duo (.bool nf) (.slice adf xf.length qf));rw [hV] at b sz1;have PN : Hid (Duo V1 wr.heap.size (.bool nf) (.slice adf xf.length qf)) := by unfold Hid;rw [← hV];exact Duo.new wr _ _
   have HS := hid (zmC (zf.now b));have FI0 := hid (FI.out.step b);have G0 := hid (below_step G.out b);have n0 := PN.out.c0;have n1 := PN.out.c1;rw [← hV] at n0 n1;have EV := hid hV;have hw := zVA (i := i) (by omega);clear zf b sz1 hV PN FI G;go_wp2_with fail;rw [EV.out];refine HS.out.mono ?_;rintro e w1 ⟨r,rfl,m1,b⟩;have FI1 := hid (FI0.out.step b);have G1 := hid (below_step G0.out b);have M1 := hid (m1.mono (Nat.zero_le _));obtain ⟨nr,xr,ar,cr,rfl⟩ := m1.parts;obtain ⟨m0,am,lm,cm,e0,e1,e2,e3⟩ := FI1.out.cells hlt;have HN1 : Hid (zsF w w.heap.size n (fun j => zs.getD j 0) k (n - (i + 1)) (.int .i64 ((i + 1 : Nat) : Int)) ((w1.setCell ⟨w.heap.size,i * 2,none⟩ (.bool nr)).setCell ⟨w.heap.size,i * 2 + 1,none⟩ (.slice ar xr.length cr))) :=
    ⟨i + 1,rfl,by omega,rfl,FI1.out.put hlt M1.out,bset (bset G1.out (Nat.le_refl _)) (Nat.le_refl _)⟩
   have HMM : Hid (n - (i + 1) < gk) := by unfold Hid;rw [HG.out];omega
   clear HS FI0 G0 HG FI1 G1 M1 m1 b k0 k1 n0 n1 EV;go_wp2_with fail;go_roundg (n - (i + 1))
   case rel => exact HN1.out
   case measure => exact HMM.out
  ·have hlt' : ¬ (i : Int) < (n : Int) := by omega
   obtain rfl : i = n := by omega
   obtain ⟨ps,p1,pl,p2⟩ := FI.out.doneN;rw [← HMP.out] at p2;have FIN : Hid (zuB w zs k (.returned (.slice (some ⟨w.heap.size,0,none⟩) i i)) wr) := ⟨_,_,ps,rfl,Nat.le_refl _,pl,p1,p2,G.out⟩
   clear FI G HG p1 p2 pl;go_wp2;go_ret;exact FIN.out
theorem Ivs.ty18 {T : TypeId} {B : Nat} {w w' : World} {v : Value} {l : List Nat} (h : Ivs B w v l) (ht : Ty T w w') (hT : 3 ≠ T) : Ivs B w' v l := h.keep fun b L _ e => ht.2 b _ _ _ e hT
theorem Sh17.oth18 {B m n k g n' k' : Nat} {w w' : World} {lv : Value} {gs : Nat → Nat} {X : Nat → Nat → Int} {F : Nat → Int} (h : Sh17 B w lv m n gs X k) (hr : Rw17 w g n' F k') (ht : Touch (· = g) w w') (hne : ∀ i,i < m → g ≠ gs i) : Sh17 B w' lv m n gs X k := by
 have ty := zDB hr ht;obtain ⟨ps,hA,_⟩ := hr;obtain ⟨h1,h4,h5⟩ := h;refine ⟨?_,h4,fun i hi => ⟨(h5 i hi).1,(h5 i hi).2.touch ht hA (Ne.symm (hne i hi))⟩⟩;rcases h1 with h1 | ⟨h0,Lb,cap,r,e,e0,e1,e2⟩
 ·exact .inl h1
 ·exact .inr ⟨h0,Lb,cap,r,e,e0,e1,e2.ty13 ty (by decide)⟩
structure zxC (B : Nat) (U : World) (gR gC m n r : Nat) (γ : Nat → Nat) (lv cv : Value) (gs : Nat → Nat) (X : Nat → Nat → Int) (R C : Nat → Int) (k kw i : Nat) (wx : World) : Prop where
 rr : Rw17 wx gR n R kw
 c : Rw17 wx gC m (fun a => if a < i then C a else 0) kw
 sh : Sh17 B wx lv m n gs X k
 iv : Ivs B wx cv (zaB γ r)
 t : Touch (fun g => g = gR ∨ g = gC) U wx
 neR : ∀ i,i < m → gR ≠ gs i
 neC : ∀ i,i < m → gC ≠ gs i
 ne : gR ≠ gC
section
variable {B gR gC m n r k kw i : Nat} {U w : World} {γ gs : Nat → Nat} {lv cv : Value} {X : Nat → Nat → Int} {R C : Nat → Int}
theorem zxC.now {w' : World} (h : zxC B U gR gC m n r γ lv cv gs X R C k kw i w) (hb : Below w.heap.size w w') : zxC B U gR gC m n r γ lv cv gs X R C k kw i w' :=
 ⟨h.rr.now hb,h.c.now hb,h.sh.now hb,h.iv.now hb,h.t.trans (.ofBelow hb),h.neR,h.neC,h.ne⟩
theorem zxC.put {x y : Value} (h : zxC B U gR gC m n r γ lv cv gs X R C k kw i w) (hi : i < m) (hz : Zm 0 w (.agg #[x,y]) (C i) kw) : zxC B U gR gC m n r γ lv cv gs X R C k kw (i + 1) ((w.setCell ⟨gC,i * 2,none⟩ x).setCell ⟨gC,i * 2 + 1,none⟩ y) := by
 have ht : Touch (· = gC) w ((w.setCell ⟨gC,i * 2,none⟩ x).setCell ⟨gC,i * 2 + 1,none⟩ y) := zGB (Touch.refl _ _) x y;have ty := zDB h.c ht;obtain ⟨ps,hA,_⟩ := id h.c;refine ⟨h.rr.touch ht hA h.ne,(h.c.put hi hz).1.congr fun a ha => ?_,h.sh.oth18 h.c ht h.neC,h.iv.ty18 ty (by decide),h.t.trans (ht.mono18 fun b q => .inr q),h.neR,h.neC,h.ne⟩
 by_cases q : a = i
 ·subst q;rw [if_pos rfl,if_pos (by omega)]
 ·rw [if_neg q]
  by_cases q2 : a < i
  ·rw [if_pos q2,if_pos (by omega)]
  ·rw [if_neg q2,if_neg (by omega)]
theorem zxC.off {R' : Nat → Int} {w' : World} (h : zxC B U gR gC m n r γ lv cv gs X R C k kw i w) (hr : Rw17 w' gR n R' kw) (ht : Touch (· = gR) w w') : zxC B U gR gC m n r γ lv cv gs X R' C k kw i w' := by
 have ty := zDB h.rr ht;obtain ⟨ps,hA,_⟩ := id h.rr;exact ⟨hr,h.c.touch ht hA (Ne.symm h.ne),h.sh.oth18 h.rr ht h.neR,h.iv.ty18 ty (by decide),h.t.trans (ht.mono18 fun b q => .inl q),h.neR,h.neC,h.ne⟩
end
def zrF (B : Nat) (U : World) (gR gC m n r : Nat) (γ : Nat → Nat) (lv cv : Value) (gs : Nat → Nat) (X F : Nat → Nat → Int) (C : Nat → Int) (k kw gk : Nat) (s : Value) (wx : World) : Prop :=
 ∃ i : Nat,s = .int .i64 (i : Int) ∧ i ≤ r ∧ gk = r - i ∧ zxC B U gR gC m n r γ lv cv gs X (F i) C k kw i wx
theorem zuB.rw18 {w w' : World} {zs : List Int} {k : Nat} {e : Ending} (h : zuB w zs k e w') : ∃ g,e = .returned (.slice (some ⟨g,0,none⟩) zs.length zs.length) ∧ w.heap.size ≤ g ∧ Rw17 w' g zs.length (fun j => zs.getD j 0) k ∧ Below w.heap.size w w' := by
 obtain ⟨g,n,ps,rfl,h1,h2,h3,h4,h5⟩ := h;have hl : n = zs.length := by rw [← h2];exact h4.1
 subst hl;refine ⟨g,rfl,h1,⟨ps,h3,?_⟩,h5⟩;have e : (List.range zs.length).map (fun j => zs.getD j 0) = zs := by
  apply List.ext_getElem
  ·simp
  ·intro j h1 h2;simp at h1;simp [h1]
 rw [e];exact h4
end Go.Proofs.YtbcgggadelnaaaaGreat
