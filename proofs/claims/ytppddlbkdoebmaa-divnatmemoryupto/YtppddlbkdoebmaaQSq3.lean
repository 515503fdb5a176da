import Derived.Test.YtppddlbkdoebmaaQPu3ToSp3
import Derived.Test.YtppddlbkdoebmaaQByWordToCut
set_option maxRecDepth 100000
set_option maxHeartbeats 6400000
set_option linter.unusedVariables false
set_option linter.unusedSimpArgs false
namespace Go.Proofs.Ytppddlbkdoebmaa
open Go.RowKit
theorem Only.row3 {g b : Nat} {w w' : World} {L : List Value} (h : Only g w w') (hr : Row w b L) (hb : b ≠ g) : Row w' b L := (h.2 b hb).trans hr
theorem hcl {xs : List Int} (h : HF xs) : zMA (lst xs) := hcanon_lst' h
def SqD3 (w : World) (v : Nat) (e : Ending) (w' : World) : Prop :=
 ∃ (r : Nat) (zs ls : List Int) (a b : Value),e = .returned (.tuple #[a,b]) ∧ zlA r v 2 ∧ Own w.heap.size w' a zs ∧ Own w.heap.size w' b ls ∧ zFA zs ∧ zFA ls ∧ val zs = (r : Int) ∧ val ls = ((v - r * r : Nat) : Int) ∧ Two a b ∧ Below w.heap.size w w'
def SqJ3 (W : World) (gr gt n L v : Nat) (gk : Nat) (s8 : Value) (wx : World) : Prop :=
 ∃ (k r s : Nat) (R T : List Int),s8 = .int .i64 ((k : Int) - 1) ∧ k ≤ L ∧ gk = k ∧ R.length = n ∧ T.length = n ∧ HF R ∧ HF T ∧ hval R = (s : Int) ∧ hval T = (r : Int) ∧ v / 4 ^ k = r * r + s ∧ s ≤ 2 * r ∧ Row wx gr (ws R) ∧ Row wx gt (ws T) ∧ Below W.heap.size W wx
def SqC3 (W : World) (gt : Nat) (T : List Int) (f m : Int) (N gk : Nat) (s13 s14 : Value) (wx : World) : Prop :=
 ∃ (k : Nat) (c : Int) (Z : List Int),s13 = .int .u64 c ∧ s14 = .int .i64 (k : Int) ∧ k ≤ N ∧ gk = N - k ∧ 0 ≤ c ∧ c < 2 ∧ InAt T Z f m k c ∧ Row wx gt (ws Z) ∧ Only gt W wx ∧ Below gt W wx
theorem rsqrt_any {w : World} {va : Value} {xs : List Int} {v : Nat} (ha : Sl w.heap.size w va xs) (lx : xs.length ≤ 1099511627776) (hv : val xs = (v : Int)) :
  Calls Try.prog 24 #[va] w (SqD3 w v) := by
 have H1 := hid (zdA ha (by omega));clear ha;go_enter Try.func24,Try.ntmps24;go_wp2_with fail;refine H1.out.mono ?_;rintro e w1 ⟨D,v1,rfl,s1,c1,e1,l1,b1⟩;obtain ⟨_,aD,qD,rfl,-⟩ := id s1;have SD := hid s1;have B1 := hid b1;have HDD := hid c1;have HV : Hid (hval D = (v : Int)) := hid (e1.trans hv);obtain ⟨ld,hld⟩ : ∃ l,D.length = l := ⟨_,rfl⟩
 have HLD := hid hld;have hld2 : ld ≤ 2199023255552 := by omega
 rw [hld] at SD ⊢;obtain ⟨n,hn⟩ : ∃ n,ld / 2 + 2 = n := ⟨_,rfl⟩
 have hdv : (ld : Int) / 2 + 2 = (n : Int) := by omega
 have HNL : Hid (n = ld / 2 + 2) := hn.symm;clear H1 s1 b1 c1 e1 l1 hv hld;go_wp2_with (at_make;refine wpList_make_words _ rfl _ _ rfl _ _ n n rfl rfl (by first | rfl | omega) (by first | rfl | omega) (Nat.le_refl _) (by omega) ?_)
 intro w2 hrow hb2 hsz2;have R2 := hid hrow;have B2 := hid hb2;have Z2 := hid hsz2;clear hrow hb2 hsz2;go_wp2_with (at_make;refine wpList_make_words _ rfl _ _ rfl _ _ n n rfl rfl (by first | rfl | omega) (by first | rfl | omega) (Nat.le_refl _) (by omega) ?_)
 intro w3 hrow hb3 hsz3;obtain ⟨gr,hgr⟩ : ∃ g,w1.heap.size = g := ⟨_,rfl⟩
 obtain ⟨gt,hgt⟩ : ∃ g,w2.heap.size = g := ⟨_,rfl⟩
 have hgg : gt = gr + 1 := by rw [← hgt,← hgr];exact Z2.out
 have Rr : Row w3 gr (ws (List.replicate n 0)) := by
  have := R2.out.below hb3 R2.out.lt
  rwa [hgr] at this
 rw [hgt] at hrow;have hvs : v < 4 ^ (16 * ld) := by
  have h2 := zVA HDD.out.1;rw [HV.out,HLD.out,zqB] at h2;have : v < 2 ^ (32 * ld) := by exact_mod_cast h2
  rw [show (4 : Nat) = 2 ^ 2 from rfl,← Nat.pow_mul,show 2 * (16 * ld) = 32 * ld by omega];exact this
 have J0 : Hid (SqJ3 w1 gr gt n (16 * ld) v (16 * ld) (.int .i64 (((16 * ld : Nat) : Int) - 1)) w3) :=
  ⟨16 * ld,0,0,List.replicate n 0,List.replicate n 0,rfl,Nat.le_refl _,rfl,by simp,by simp,zsB n,zsB n,by rw [zsA];rfl,by rw [zsA];rfl,by rw [Nat.div_eq_of_lt hvs],by omega,Rr,hrow,zAA B2.out hb3⟩
 have HVS := hid hvs;have HGG := hid hgg;have EGR := hid hgr;rw [hgr,hgt];have hw1 : IntKind.i64.wrap (16 * (ld : Int)) = ((16 * ld : Nat) : Int) := by rw [zjA] <;> omega
 have hw2 : IntKind.i64.wrap (((16 * ld : Nat) : Int) - 1) = ((16 * ld : Nat) : Int) - 1 := by rw [zjA] <;> omega
 clear hrow hb3 hsz3 Rr hvs hgg hgr hgt hn R2 B2 Z2;go_wp2_with fail;clear hw1 hw2
 go_loopg [8] (16 * ld) (fun gk s8 wx => SqJ3 w1 gr gt n (16 * ld) v gk s8 wx)
 case atStart => exact J0.out
 case round =>
  clear J0;obtain ⟨k,r,s,R,T,rfl,hkL,hgk,hRl,hTl,hRf,hTf,hRv,hTv,hA,hS,rR,rT,hB⟩ := hrel;have HB := hid hB;have RR := hid rR;have RT := hid rT;have HG := hid hgk;have HA := hid hA;have HS := hid hS;have HRV := hid hRv;have HTV := hid hTv;have HRF := hid hRf;have HTF := hid hTf;clear hB rR rT hgk hA hS hRv hTv hRf hTf
  by_cases hk0 : k = 0
  ·subst hk0
   have hz : ¬ (0 : Int) ≤ -1 := by omega
   have e0 : ((0 : Nat) : Int) - 1 = -1 := by omega
   have hgrlt : gr < wr.heap.size := RR.out.lt;have hgtlt : gt < wr.heap.size := RT.out.lt;have HW1 := hid (zoA (w := wr) (v := .slice (some ⟨gt,0,none⟩) n n) (xs := T) (by have := Row.sl (r := []) (by simpa using RT.out) HTF.out.word (Nat.le_of_eq hTl) (by omega) hgtlt;rwa [hTl] at this) HTF.out (by omega));have SR : Hid (Sl wr.heap.size wr (.slice (some ⟨gr,0,none⟩) n n) R) := hid (by have := Row.sl (r := []) (by simpa using RR.out) HRF.out.word (Nat.le_of_eq hRl) (by omega) hgrlt;rwa [hRl] at this);clear hgrlt hgtlt;go_wp2_with fail;refine HW1.out.mono ?_;rintro e w4 ⟨zs,a4,rfl,o4,c4,e4,b4⟩;have HW2 := hid (zoA (SR.out.now b4) HRF.out (by omega));have O4 := hid o4;have B4 := hid b4;clear HW1 o4 b4;go_wp2_with fail;refine HW2.out.mono ?_;rintro e w5 ⟨ls,a5,rfl,o5,c5,e5,b5⟩;have hsz := B4.out.size;have hb := zAA B1.out HB.out;have FIN : Hid (SqD3 w v (.returned (.tuple #[a4,a5])) w5) := by
    obtain ⟨hn1,hn2⟩ := root_done HA.out HS.out;refine ⟨r,zs,ls,a4,a5,rfl,hn1,(O4.out.lower hb.size).stay b5,o5.lower (by have := hb.size;omega),c4,c5,by rw [e4,HTV.out],by rw [e5,HRV.out,hn2],zmE O4.out o5 (Nat.le_refl _),zAA (zAA hb B4.out) b5⟩
   clear HW2 o5 c5 e5 b5 c4 e4 O4 B4 hsz hb HA HS;go_wp2;go_ret2;exact FIN.out
  ·obtain ⟨j,rfl⟩ : ∃ j,k = j + 1 := ⟨k - 1,by omega⟩
   have hq : j / 16 < D.length := by have := HLD.out;omega
   have SD2 := SD.out.now HB.out;obtain ⟨_,aD',qD',eD,-,-,hm⟩ := SD2;rcases hm with e0 | ⟨bD,oD,eA,hbD,hc⟩
   ·rw [e0] at hq;simp at hq
   simp only [Value.slice.injEq] at eD;obtain ⟨rfl,-,rfl⟩ := eD;subst eA;have c1 := hc _ hq;rw [zOG HDD.out.1 HV.out hq] at c1;obtain ⟨x,hx⟩ : ∃ x : Nat,(v / 2 ^ (32 * (j / 16))) % 2 ^ 32 = x := ⟨_,rfl⟩
   have hx32 : x < 4294967296 := by rw [← hx];exact Nat.mod_lt _ (by decide)
   rw [hx] at c1;obtain ⟨q,hqq⟩ : ∃ q,j / 16 = q := ⟨_,rfl⟩
   obtain ⟨m,hmm⟩ : ∃ m,j % 16 = m := ⟨_,rfl⟩
   have hm16 : m < 16 := by omega
   have hpr : x / 2 ^ (2 * m) % 4 = v / 4 ^ j % 4 := by
    rw [← hx,← hmm,pair_h (Nat.mod_lt _ (by decide))]
    congr 3
    omega
   rw [hqq] at c1 hq;have hz : (0 : Int) ≤ (j : Int) := by omega
   have e0 : ((j + 1 : Nat) : Int) - 1 = (j : Int) := by omega
   have ej : (j : Int) / 16 = (q : Int) := by omega
   have em : (j : Int) % 16 = (m : Int) := by omega
   have hq1 : (q : Int) < (ld : Int) := by have := HLD.out;omega
   have hq0 : (0 : Int) ≤ (q : Int) := by omega
   obtain ⟨p,hpp⟩ : ∃ p,v / 4 ^ j % 4 = p := ⟨_,rfl⟩
   have hp4 : p < 4 := by rw [← hpp];exact Nat.mod_lt _ (by decide)
   have hp : ((x : Int) / 2 ^ (2 * m)).tmod 4 = (p : Int) := by
    obtain ⟨y,hy⟩ : ∃ y,x / 2 ^ (2 * m) = y := ⟨_,rfl⟩
    have e : (x : Int) / 2 ^ (2 * m) = (y : Int) := by rw [← hy,Int.natCast_ediv,Int.natCast_pow];rfl
    rw [hy,hpp] at hpr;rw [e,Int.tmod_eq_emod_of_nonneg (by omega),← hpr];omega
   have HAJ : Hid (v / 4 ^ j = 4 * (r * r + s) + p) := hid (by rw [← HA.out,← hpp];exact four_next v j)
   -- sizes
   have hrs := root_small HVS.out HA.out;obtain ⟨P,hP⟩ : ∃ P,2 ^ (16 * ld) = P := ⟨_,rfl⟩
   rw [hP] at hrs;have hbig : ((1024 * P : Nat) : Int) ≤ hpw n := by
    rw [zqB,← hP];have : (1024 : Nat) * 2 ^ (16 * ld) ≤ 2 ^ (32 * n) := by
     rw [show (1024 : Nat) = 2 ^ 10 from rfl,← Nat.pow_add];exact Nat.pow_le_pow_right (by decide) (by have := HNL.out;omega)
    exact_mod_cast this
   have HBIG := hid hbig;have HRS : Hid (r < P) := hid hrs;have hSS := HS.out;have HPU := hid (zpE (cap := n) (r := []) (n := (p : Int)) HRF.out (by simpa using RR.out) (by omega) (by omega) (by omega) (by rw [hRl,HRV.out];omega));rw [hRl] at HPU;clear hc hx hqq hmm hpr hpp hP hbig hrs hSS;go_wp2_with fail;clear hp ej em hq1 hq0 c1;refine HPU.out.mono ?_;rintro e w4 ⟨rfl,R1,l1,f1,e1,r1,b4,o4⟩;have hgg := HGG.out;have RR4 : Hid (Row w4 gr (ws R1)) := hid (by simpa using r1);have RT4 := hid (o4.row3 RT.out (by omega));have HB4 : Hid (Below w1.heap.size w1 w4) := hid (HB.out.trans (by rw [EGR.out];exact b4));have HR1 : Hid (hval R1 = ((4 * s + p : Nat) : Int) ∧ HF R1 ∧ R1.length = n) := hid ⟨by rw [e1,HRV.out];push_cast;rfl,f1,l1⟩;clear HPU l1 f1 e1 r1 b4 o4 RR RT HB HRV HRF hgg;go_wp2_with (at_make;refine wpList_make_words _ rfl _ _ rfl _ _ n n rfl rfl (by first | rfl | omega) (by first | rfl | omega) (Nat.le_refl _) (by omega) ?_)
   intro w5 hrow hb5 hsz5;obtain ⟨gq,hgq⟩ : ∃ g,w4.heap.size = g := ⟨_,rfl⟩
   have EGQ := hid hgq;have RR5 := hid (RR4.out.below hb5 RR4.out.lt);have RT5 := hid (RT4.out.below hb5 RT4.out.lt);have HB5 := hid (zAA HB4.out hb5);rw [hgq] at hrow;have RQ5 := hid hrow;have GTQ : Hid (gr < gq ∧ gt < gq) := hid (by have h1 := RR4.out.lt;have h2 := RT4.out.lt;rw [hgq] at h1 h2;exact ⟨h1,h2⟩);rw [hgq];clear hrow hb5 hsz5 hgq RR4 RT4 HB4;go_wp2_with (refine zpA _ rfl (.tmp 50) (.tmp 51) rfl gq 0 (some ⟨gq,0,none⟩) (some ⟨gt,0,none⟩) n n n n (List.replicate n 0) T RQ5.out rfl rfl hTl (Nat.le_refl _) (fun _ => rfl) (by simp) (.inr ⟨gt,0,rfl,GTQ.out.2,fun j hj => by simpa using (Row.word (r := []) (by simpa using RT5.out) hj)⟩) ?_)
   intro w6 hrow6 hb6;have esp : splice (List.replicate n 0) 0 T = T := by rw [zHE,hTl,Nat.sub_self];simp
   rw [esp] at hrow6;have hb6' : Below w4.heap.size w5 w6 := by rw [EGQ.out];exact hb6
   have RR6 : Hid (Row w6 gr (ws R1)) := hid (RR5.out.below hb6 GTQ.out.1);have RT6 : Hid (Row w6 gt (ws T)) := hid (RT5.out.below hb6 GTQ.out.2);have HB6 : Hid (Below w1.heap.size w1 w6) := hid (HB5.out.trans (hb6.mono (by have := GTQ.out.1;have := EGR.out;omega)));have HP2 := hid (zpE (w := w6) (g := gq) (cap := n) (r := []) (n := 1) HTF.out (by simpa using hrow6.out) (by omega) (by omega) (by omega) (by rw [hTl,HTV.out];have := HBIG.out;have := HRS.out;omega));rw [hTl] at HP2;clear esp hrow6 hb6 hb6' RR5 RT5 HB5 RQ5;go_wp2_with fail;refine HP2.out.mono ?_;rintro e w7 ⟨rfl,Q,l7,f7,e7,r7,b7,o7⟩;have RR7 := hid (o7.row3 RR6.out (by have := GTQ.out.1;omega));have RT7 := hid (o7.row3 RT6.out (by have := GTQ.out.2;omega));have RQ7 : Hid (Row w7 gq (ws Q ++ [])) := hid r7;have HB7 : Hid (Below w1.heap.size w1 w7) := hid (HB6.out.trans (b7.mono (by have := GTQ.out.1;have := EGR.out;omega)));have HQ7 : Hid (hval Q = ((4 * r + 1 : Nat) : Int) ∧ HF Q ∧ Q.length = n) := hid ⟨by rw [e7,HTV.out];push_cast;rfl,f7,l7⟩;have S1 : Sl w7.heap.size w7 (.slice (some ⟨gr,0,none⟩) n n) R1 := by
    have := Row.sl (r := []) (by simpa using RR7.out) HR1.out.2.1.word (Nat.le_of_eq HR1.out.2.2) (by omega) RR7.out.lt
    rwa [HR1.out.2.2] at this
   have S2 : Sl w7.heap.size w7 (.slice (some ⟨gq,0,none⟩) n n) Q := by
    have := Row.sl RQ7.out f7.word (Nat.le_of_eq l7) (by omega) RQ7.out.lt
    rwa [l7] at this
   have HT1 := hid (zZA S1);have HT2 := hid (zZA S2);have HBE := hid (zSB (zkB S1) (zkB S2) (hcl HR1.out.2.1) (hcl f7));have hdec : decide (hval (lst R1) < hval (lst Q)) = decide (4 * s + p < 4 * r + 1) := by
    rw [hval_lst',hval_lst',HR1.out.1,HQ7.out.1]
    by_cases q : 4 * s + p < 4 * r + 1
    ·rw [decide_eq_true q,decide_eq_true (by omega)]
    ·rw [decide_eq_false q,decide_eq_false (by omega)]
   rw [hdec] at HBE;clear HP2 l7 f7 e7 r7 b7 o7 S1 S2 hdec RR6 RT6 HB6;go_wp2_with fail;refine HT1.out.mono ?_;rintro e w8 ⟨rfl,hw8⟩;subst hw8;clear HT1;go_wp2_with fail;refine HT2.out.mono ?_;rintro e w9 ⟨rfl,hw9⟩;subst hw9;clear HT2;go_wp2_with fail;refine HBE.out.mono ?_;rintro e wd ⟨rfl,nd,hwd⟩;have bd : Below w9.heap.size w9 wd := by rw [hwd];exact below_drewN (Below.refl _ _) nd
   have RRd := hid (RR7.out.below bd RR7.out.lt);have RTd := hid (RT7.out.below bd RT7.out.lt);have RQd := hid (RQ7.out.below bd RQ7.out.lt);have HBd := hid (zAA HB7.out bd);clear HBE hwd bd RR7 RT7 RQ7 HB7
   by_cases hlt : 4 * s + p < 4 * r + 1
   ·have hdt : decide (4 * s + p < 4 * r + 1) = true := decide_eq_true hlt
    rw [hdt];have HNX2 := hid ((zqE rfl HS.out hp4).2 hlt);have RR9 := hid RRd.out;have RT9 := hid RTd.out;have HB9 := hid HBd.out;clear hdt RQd RRd RTd HBd HA;have HMO : Hid (j < gk) := by unfold Hid;rw [HG.out];omega
    have J2 : Hid (SqC3 wd gt T 2 0 n n (.int .u64 0) (.int .i64 0) wd) := ⟨0,0,T,rfl,rfl,Nat.zero_le _,rfl,by omega,by omega,InAt.start HTF.out 2 0,RT9.out,Only.refl _ _,Below.refl _ _⟩
    go_wp2_with fail
    go_loopg [13,14] n (fun gk2 s13 s14 wx => SqC3 wd gt T 2 0 n gk2 s13 s14 wx)
    case atStart => exact J2.out
    case round =>
     clear J2
     rename World => wy
     obtain ⟨y,c,Z,rfl,rfl,hyN,hg2,hc0,hc1,hI,hRZ,hO,hBy⟩ := hrel;have HI := hid hI;have RZ := hid hRZ;have HO := hid hO;have HY := hid hBy;have HG2 := hid hg2;clear hI hRZ hO hBy hg2
     by_cases hy : y < n
     ·have hyT : y < T.length := by omega
      have hyZ : y < Z.length := by rw [HI.out.1];exact hyT
      have hx2 := HTF.out.get hyT;unfold IsH hwB at hx2;have ez := HI.out.at hyT;have c2 := Row.word (r := []) (by simpa using RZ.out) hyZ;rw [ez] at c2;have cf : wy.frozen? ⟨gt,y,none⟩ = false := RZ.out.frozen _;obtain ⟨xx,hxx⟩ : ∃ xx,T[y] = xx := ⟨_,rfl⟩
      rw [hxx] at c2 hx2;obtain ⟨hx20,hx21⟩ := hx2;have HS2 := hid (HI.out.step (lo := (2 * xx + c) % 4294967296) (hi := (2 * xx + c) / 4294967296) hyT hxx (by unfold IsH hwB;omega) (by unfold hwB;omega));have hlt' : (y : Int) < (n : Int) := by omega
      have k0 : (0 : Int) ≤ (y : Int) := by omega
      have HNX : Hid (SqC3 wd gt T 2 0 n (n - (y + 1)) (.int .u64 ((2 * xx + c) / 4294967296)) (.int .i64 ((y + 1 : Nat) : Int)) (wy.setCell ⟨gt,y,none⟩ (.int .u64 ((2 * xx + c) % 4294967296)))) :=
       ⟨y + 1,_,_,rfl,rfl,by omega,rfl,by omega,by omega,HS2.out,by simpa using Row.setWord (r := []) (by simpa using RZ.out) hyZ _,HO.out.set y _,HY.out.setCell (p := ⟨gt,y,none⟩) (Nat.le_refl _) _⟩
      have HM2 : Hid (n - (y + 1) < gk) := by unfold Hid;rw [HG2.out];omega
      clear HS2 HI RZ HO HY HG2 ez hxx;go_wp2_with fail;go_roundg (n - (y + 1))
      case rel => exact HNX.out
      case measure => exact HM2.out
     ·obtain rfl : y = n := by omega
      have hd := HI.out;rw [← hTl] at hd;have hv2 := hd.done hc0 (by rw [hTl,HTV.out];have := HBIG.out;have := HRS.out;omega);have FIN : Hid (SqJ3 w1 gr gt y (16 * ld) v j (.int .i64 ((j : Int) - 1)) wy) :=
       ⟨j,(2 * r),(4 * s + p),R1,Z,rfl,by omega,rfl,HR1.out.2.2,by rw [HI.out.1,hTl],HR1.out.2.1,HI.out.2.1,HR1.out.1,by rw [hv2,HTV.out];omega,by rw [HAJ.out];exact HNX2.out.1,HNX2.out.2,HO.out.row3 RR9.out (by have := HGG.out;omega),RZ.out,HB9.out.trans (HY.out.mono (by have := EGR.out;have := HGG.out;omega))⟩
      clear hd hv2 HI RZ HO HY HG2;have hy' : ¬ (y : Int) < (y : Int) := by omega
      have hj1 : IntKind.i64.wrap ((j : Int) - 1) = (j : Int) - 1 := by rw [zjA] <;> omega
      go_wp2_with fail;go_roundg j
      case rel => exact FIN.out
      case measure => exact HMO.out
   ·have hdt : decide (4 * s + p < 4 * r + 1) = false := decide_eq_false hlt
    rw [hdt];have HNX2 := hid ((zqE rfl HS.out hp4).1 (Nat.le_of_not_lt hlt));have SQ : Sl wd.heap.size wd (.slice (some ⟨gq,0,none⟩) n n) Q := by
     have := Row.sl RQd.out HQ7.out.2.1.word (Nat.le_of_eq HQ7.out.2.2) (by omega) RQd.out.lt
     rwa [HQ7.out.2.2] at this
    have HT3 := hid (zZA SQ);have wQ := zIA Q;have NE := zGG (g := gr) (n := wid Q) (cap := n) RQd.out (by omega) (by have := HQ7.out.2.2;omega) (by have := HQ7.out.2.2;omega) (by have := GTQ.out.1;omega);have HTO := hid (zGB (s := 0) (cap := n) (r := []) (q := 1) HR1.out.2.1 (by simpa using RRd.out) NE (HQ7.out.2.1.take _) (by omega) (by omega) (by have := HQ7.out.2.2;have := HR1.out.2.2;simp;omega) (by have := HR1.out.2.2;omega) (by
     have : hval (Q.take (wid Q)) = hval Q := hval_lst' Q;rw [this,HQ7.out.1,HR1.out.1];simp only [hpw];omega))
    rw [HR1.out.2.2] at HTO;clear hdt SQ NE wQ HA;go_wp2_with fail;refine HT3.out.mono ?_;rintro e w10 ⟨rfl,hw10⟩;subst hw10;clear HT3;go_wp2_with fail;refine HTO.out.mono ?_;rintro e w11 ⟨R2,rfl,l11,f11,e11,r11,b11,o11⟩;have RR9 : Hid (Row w11 gr (ws R2)) := hid (by simpa using r11);have RT9 := hid (o11.row3 RTd.out (by have := HGG.out;omega));have HB9 : Hid (Below w1.heap.size w1 w11) := hid (HBd.out.trans (b11.mono (by have := EGR.out;omega)));have HR2 : Hid (hval R2 = ((4 * s + p - (4 * r + 1) : Nat) : Int) ∧ HF R2 ∧ R2.length = n) := hid ⟨by
     have h1 : hval (Q.take (wid Q)) = hval Q := hval_lst' Q;rw [e11,h1,HQ7.out.1,HR1.out.1];simp only [hpw];omega,f11,l11⟩
    clear HTO l11 f11 e11 r11 b11 o11 RQd RRd RTd HBd;have HMO : Hid (j < gk) := by unfold Hid;rw [HG.out];omega
    have J2 : Hid (SqC3 w11 gt T 2 1 n n (.int .u64 1) (.int .i64 0) w11) := ⟨0,1,T,rfl,rfl,Nat.zero_le _,rfl,by omega,by omega,InAt.start HTF.out 2 1,RT9.out,Only.refl _ _,Below.refl _ _⟩
    go_wp2_with fail
    go_loopg [13,14] n (fun gk2 s13 s14 wx => SqC3 w11 gt T 2 1 n gk2 s13 s14 wx)
    case atStart => exact J2.out
    case round =>
     clear J2
     rename World => wy
     obtain ⟨y,c,Z,rfl,rfl,hyN,hg2,hc0,hc1,hI,hRZ,hO,hBy⟩ := hrel;have HI := hid hI;have RZ := hid hRZ;have HO := hid hO;have HY := hid hBy;have HG2 := hid hg2;clear hI hRZ hO hBy hg2
     by_cases hy : y < n
     ·have hyT : y < T.length := by omega
      have hyZ : y < Z.length := by rw [HI.out.1];exact hyT
      have hx2 := HTF.out.get hyT;unfold IsH hwB at hx2;have ez := HI.out.at hyT;have c2 := Row.word (r := []) (by simpa using RZ.out) hyZ;rw [ez] at c2;have cf : wy.frozen? ⟨gt,y,none⟩ = false := RZ.out.frozen _;obtain ⟨xx,hxx⟩ : ∃ xx,T[y] = xx := ⟨_,rfl⟩
      rw [hxx] at c2 hx2;obtain ⟨hx20,hx21⟩ := hx2;have HS2 := hid (HI.out.step (lo := (2 * xx + c) % 4294967296) (hi := (2 * xx + c) / 4294967296) hyT hxx (by unfold IsH hwB;omega) (by unfold hwB;omega));have hlt' : (y : Int) < (n : Int) := by omega
      have k0 : (0 : Int) ≤ (y : Int) := by omega
      have HNX : Hid (SqC3 w11 gt T 2 1 n (n - (y + 1)) (.int .u64 ((2 * xx + c) / 4294967296)) (.int .i64 ((y + 1 : Nat) : Int)) (wy.setCell ⟨gt,y,none⟩ (.int .u64 ((2 * xx + c) % 4294967296)))) :=
       ⟨y + 1,_,_,rfl,rfl,by omega,rfl,by omega,by omega,HS2.out,by simpa using Row.setWord (r := []) (by simpa using RZ.out) hyZ _,HO.out.set y _,HY.out.setCell (p := ⟨gt,y,none⟩) (Nat.le_refl _) _⟩
      have HM2 : Hid (n - (y + 1) < gk) := by unfold Hid;rw [HG2.out];omega
      clear HS2 HI RZ HO HY HG2 ez hxx;go_wp2_with fail;go_roundg (n - (y + 1))
      case rel => exact HNX.out
      case measure => exact HM2.out
     ·obtain rfl : y = n := by omega
      have hd := HI.out;rw [← hTl] at hd;have hv2 := hd.done hc0 (by rw [hTl,HTV.out];have := HBIG.out;have := HRS.out;omega);have FIN : Hid (SqJ3 w1 gr gt y (16 * ld) v j (.int .i64 ((j : Int) - 1)) wy) :=
       ⟨j,(2 * r + 1),(4 * s + p - (4 * r + 1)),R2,Z,rfl,by omega,rfl,HR2.out.2.2,by rw [HI.out.1,hTl],HR2.out.2.1,HI.out.2.1,HR2.out.1,by rw [hv2,HTV.out];omega,by rw [HAJ.out];exact HNX2.out.1,HNX2.out.2,HO.out.row3 RR9.out (by have := HGG.out;omega),RZ.out,HB9.out.trans (HY.out.mono (by have := EGR.out;have := HGG.out;omega))⟩
      clear hd hv2 HI RZ HO HY HG2;have hy' : ¬ (y : Int) < (y : Int) := by omega
      have hj1 : IntKind.i64.wrap ((j : Int) - 1) = (j : Int) - 1 := by rw [zjA] <;> omega
      go_wp2_with fail;go_roundg j
      case rel => exact FIN.out
      case measure => exact HMO.out
end Go.Proofs.Ytppddlbkdoebmaa
