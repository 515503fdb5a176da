/-
 QAr18ToIx18: Ar18, Ix18, joined.
-/
import Derived.Test.YtdeomkkpainakaaGreatQRe18
import Derived.Test.YtdeomkkpainakaaGreatQTailLToTo18
import Derived.Test.YtdeomkkpainakaaGreatQZOnesToZCmp

set_option maxRecDepth 100000
set_option maxHeartbeats 6400000
set_option linter.unusedVariables false
set_option linter.unusedSimpArgs false
namespace Go.Proofs.YtdeomkkpainakaaGreat
open Go.RowKit
abbrev zzG (bc bp : Nat) : Value := .func (.func 91) #[] #[.pointer (some ⟨bc,0,none⟩),.pointer (some ⟨bp,0,none⟩)]
theorem red1_18 {w : World} {g n k c bc bp : Nat} {F : Nat → Int} {np : Bool} {ap : Option Addr} {lp cp : Nat} {y : Int} (h : Rw17 w g n F k) (hc : c < n) (pc : w.cell? ⟨bc,0,none⟩ = some (.int .i64 (c : Int))) (pp : Duo w bp (.bool np) (.slice ap lp cp)) (hy : Zm 0 w (.agg #[.bool np,.slice ap lp cp]) y k) :
  Calls Tryz.prog 91 #[.slice (some ⟨g,0,none⟩) n n,.pointer (some ⟨bc,0,none⟩),.pointer (some ⟨bp,0,none⟩)] w fun e w' => e = .returned (.bool (!decide (0 ≤ F c ∧ F c < y))) ∧ Below w.heap.size w w' := by
 obtain ⟨m,a,l,q,k0,k1,-,-,zf⟩ := h.at hc;obtain ⟨bb,hbb⟩ : ∃ bb,decide (0 ≤ F c ∧ F c < y) = bb := ⟨_,rfl⟩
 have HSF : Hid (∀ w',Below w.heap.size w w' → Calls Tryz.prog 92 #[.agg #[.bool m,.slice a l q],.agg #[.bool np,.slice ap lp cp]] w' fun e w'' => e = .returned (.bool bb) ∧ Below w'.heap.size w' w'') := fun w' b => by
  have := zwD (zf.now b) (hy.now b);rw [hbb] at this;exact this
 rw [hbb];have hc' : (c : Int) < (n : Int) := by omega
 have p0 := pp.c0;have p1 := pp.c1;clear h hy zf pp hbb;go_enter Tryz.func91,Tryz.ntmps91;go_wp2_with fail;have KB : Hid (∀ w',Below w.heap.size w w' → w'.cell? ⟨bc,0,none⟩ = some (.int .i64 (c : Int)) ∧ w'.cell? ⟨g,c * 2,none⟩ = some (.bool m) ∧ w'.cell? ⟨g,c * 2 + 1,none⟩ = some (.slice a l q) ∧ w'.cell? ⟨bp,0,none⟩ = some (.bool np) ∧ w'.cell? ⟨bp,1,none⟩ = some (.slice ap lp cp)) := fun w' h => ⟨cnow h pc,cnow h k0,cnow h k1,cnow h p0,cnow h p1⟩
 refine zEA (fun w' => w'.cell? ⟨bc,0,none⟩ = some (.int .i64 (c : Int)) ∧ w'.cell? ⟨g,c * 2,none⟩ = some (.bool m) ∧ w'.cell? ⟨g,c * 2 + 1,none⟩ = some (.slice a l q) ∧ w'.cell? ⟨bp,0,none⟩ = some (.bool np) ∧ w'.cell? ⟨bp,1,none⟩ = some (.slice ap lp cp)) 7 (by kernel_rfl) ?_;obtain ⟨D1,hD⟩ : ∃ D1,w.drew = D1 := ⟨_,rfl⟩
 have GB : Hid (Below w.heap.size w D1) := by unfold Hid;rw [← hD];exact (Below.refl _ _).drew
 rw [hD];clear hD;refine zGA [(0,(.slice (some ⟨g,0,none⟩) n n)),(1,(.int .i64 (c : Int))),(2,(.pointer (some ⟨g,c * 2,none⟩))),(3,(.agg #[.bool m,.slice a l q])),(4,(.agg #[.bool np,.slice ap lp cp]))] 5 ?_ (KB.out _ GB.out) ?_
 ·simp only [zQA,gA9,g09,g19,Act.put,sI9,s09,s19]
  (repeat' (first | exact trivial | refine And.intro (Or.inl ⟨by rfl,?_⟩) ?_)) <;> (intro w hSw;(try dsimp only at hSw);go_simp)
 simp only [actV,gA9,g09,g19,Act.put,sI9,s09,s19];refine zAA (i := 5) (o := ⟨some 10,.call { callee := .value (.func 92),args := #[.tmp 8,.tmp 9],argTypes := #[40,40] },4, "lines.go:75",#[⟨3,.data⟩,⟨4,.data⟩],none⟩) (by kernel_rfl) rfl (fun K hK => ?_);go_simp;go_at_call 92;refine (HSF.out _ GB.out).mono ?_;rintro e w2 ⟨rfl,b⟩;have lz2 := (show Below _ _ _ from b).size;replace GB := hid (below_step GB.out b);have G := GB;clear b;refine hK.out _ _ (fun _ => KB.out _ GB.out) ?_;clear hK;refine zGA [(6,(.bool (!bb)))] 1 ?_ (KB.out _ GB.out) ?_
 ·simp only [zQA,gA9,g09,g19,Act.put,sI9,s09,s19]
  (repeat' (first | exact trivial | refine And.intro (Or.inl ⟨by rfl,?_⟩) ?_)) <;> (intro w hSw;(try dsimp only at hSw);go_simp)
 simp only [actV,gA9,g09,g19,Act.put,sI9,s09,s19];refine zAA (i := 7) (o := ⟨some 4,.assign (.tmp 11),4, "lines.go:75",#[⟨6,.data⟩,⟨5,.chain⟩,⟨0,.phase⟩,⟨1,.phase⟩,⟨2,.phase⟩,⟨3,.phase⟩,⟨4,.phase⟩,⟨5,.phase⟩,⟨6,.phase⟩],none⟩) (by kernel_rfl) rfl (fun K hK => ?_);go_simp;refine hK.out _ _ (fun h => absurd h (by decide)) ?_;clear hK
 try simp only [Act.put]
 refine zDA (by kernel_rfl) ?_ _;clear GB KB HSF k0 k1 p0 p1 pc;go_wp2;go_ret;exact ⟨rfl,G.out⟩
def zVI (w : World) (X : Nat → Nat → Int) (c : Nat) (y : Int) (n gk : Nat) (s : Value) (wx : World) : Prop := ∃ i : Nat,s = .int .i64 (i : Int) ∧ i ≤ n ∧ gk = n - i ∧ (∀ t,t < i → 0 ≤ X t c ∧ X t c < y) ∧ Below w.heap.size w wx
def zkH (w : World) (X : Nat → Nat → Int) (c : Nat) (y : Int) (n : Nat) (e : Ending) (w' : World) : Prop := ∃ r : Int,e = .returned (.int .i64 r) ∧ (r < 0 ↔ ∀ t,t < n → 0 ≤ X t c ∧ X t c < y) ∧ Below w.heap.size w w'
theorem indexR18 {w : World} {B m n k c bc bp Lb cap i0 : Nat} {gs : Nat → Nat} {X : Nat → Nat → Int} {np : Bool} {ap : Option Addr} {lp cp : Nat} {y : Int} (h : Sh17 B w (.slice (some ⟨Lb,0,none⟩) m cap) m n gs X k) (hi0 : i0 ≤ m) (hm : m ≤ 64) (hc : c < n) (pc : Cel w bc 3 [.int .i64 (c : Int)]) (pp : Duo w bp (.bool np) (.slice ap lp cp)) (hy : Zm 0 w (.agg #[.bool np,.slice ap lp cp]) y k) :
  Calls Tryz.prog 116 #[.slice (some ⟨Lb,0,none⟩) i0 cap,zzG bc bp] w (zkH w X c y i0) := by
 have HSH := hid h;have HPC := hid pc;have HPP := hid pp;have HY := hid hy;have HHC := hid hc;clear h pc pp hy;have H0 : Hid (zVI w X c y i0 i0 (.int .i64 0) w) := ⟨0,rfl,Nat.zero_le _,rfl,fun j hj => by omega,Below.refl _ _⟩
 go_enter Tryz.func116,Tryz.ntmps116;go_wp2_with fail
 go_loopg [8] i0 (fun g s8 wx => zVI w X c y i0 g s8 wx)
 case atStart => exact H0.out
 case round =>
  clear H0;obtain ⟨i,rfl,hin,hg,hz,bl⟩ := hrel;have HG := hid hg;have HZ := hid hz;have BL := hid bl;clear hg hz bl
  by_cases hlt : i < i0
  ·have hlt' : (i : Int) < (i0 : Int) := by omega
   have sh := HSH.out.now BL.out;have k0 := sh.lineS (i := i) (by omega);have HS := hid (red1_18 (sh.2.2 i (by omega)).2 HHC.out ((HPC.out.step BL.out).at (i := 0) rfl) (HPP.out.step BL.out) (HY.out.now BL.out));have hw := zVA (i := i) (by omega);clear sh
   by_cases hko : 0 ≤ X i c ∧ X i c < y
   ·rw [decide_eq_true hko] at HS
    have HKO := hid hko;clear hko;go_wp2_with fail;refine HS.out.mono ?_;rintro e w1 ⟨rfl,b⟩;have HN1 : Hid (zVI w X c y i0 (i0 - (i + 1)) (.int .i64 ((i + 1 : Nat) : Int)) w1) := ⟨i + 1,rfl,by omega,rfl,fun j hj => by
     by_cases q : j < i
     ·exact HZ.out j q
     ·obtain rfl : j = i := by omega
      exact HKO.out,below_step BL.out b⟩
    have HMM : Hid (i0 - (i + 1) < gk) := by unfold Hid;rw [HG.out];omega
    clear HS HG HZ k0 b HKO;go_wp2_with fail;go_roundg (i0 - (i + 1))
    case rel => exact HN1.out
    case measure => exact HMM.out
   ·rw [decide_eq_false hko] at HS
    have HKO := hid hko;clear hko;go_wp2_with fail;refine HS.out.mono ?_;rintro e w1 ⟨rfl,b⟩;have FIN : Hid (zkH w X c y i0 (.returned (.int .i64 (i : Int))) w1) := ⟨(i : Int),rfl,⟨fun h => absurd h (by omega),fun h => absurd (h i hlt) HKO.out⟩,below_step BL.out b⟩
    clear HS HG HZ k0 b HKO;go_wp2;go_ret;exact FIN.out
  ·have hlt' : ¬ (i : Int) < (i0 : Int) := by omega
   have FIN : Hid (zkH w X c y i0 (.returned (.int .i64 (-1))) wr) := ⟨-1,rfl,⟨fun _ t ht => HZ.out t (by omega),fun _ => by omega⟩,BL.out⟩
   clear HG HZ;go_wp2;go_ret;exact FIN.out
def zmI (w : World) (X : Nat → Nat → Int) (c : Nat) (y : Int) (n : Nat) (e : Ending) (w' : World) : Prop := ∃ bc : Bool,e = .returned (.bool bc) ∧ (bc = false ↔ ∀ t,t < n → 0 ≤ X t c ∧ X t c < y) ∧ Below w.heap.size w w'
theorem containsR18 {w : World} {c bc bp Lb cap i0 : Nat} {X : Nat → Nat → Int} {y : Int} (h : Calls Tryz.prog 116 #[.slice (some ⟨Lb,0,none⟩) i0 cap,zzG bc bp] w (zkH w X c y i0)) :
  Calls Tryz.prog 90 #[.slice (some ⟨Lb,0,none⟩) i0 cap,zzG bc bp] w (zmI w X c y i0) := by
 have HI := hid h;clear h;go_enter Tryz.func90,Tryz.ntmps90;go_wp2_with fail;refine HI.out.mono ?_;rintro e w1 ⟨r,rfl,hr,b⟩;have FIN : Hid (zmI w X c y i0 (.returned (.bool (decide (0 ≤ r)))) w1) := ⟨_,rfl,by rw [decide_eq_false_iff_not,Int.not_le];exact hr,b⟩
 clear HI hr b;go_wp2;go_ret;exact FIN.out
def zlI (w : World) (X : Nat → Nat → Int) (c : Nat) (y : Int) (n : Nat) (e : Ending) (w' : World) : Prop := ∃ bc : Bool,e = .returned (.bool bc) ∧ (bc = true ↔ ∀ t,t < n → 0 ≤ X t c ∧ X t c < y) ∧ Below w.heap.size w w'
theorem areReduced18 {w : World} {B m n k c Lb cap i0 : Nat} {gs : Nat → Nat} {X : Nat → Nat → Int} {np : Bool} {ap : Option Addr} {lp cp : Nat} {y : Int} (h : Sh17 B w (.slice (some ⟨Lb,0,none⟩) m cap) m n gs X k) (hi0 : i0 ≤ m) (hm : m ≤ 64) (hc : c < n) (hy : Zm 0 w (.agg #[.bool np,.slice ap lp cp]) y k) :
  Calls Tryz.prog 72 #[.slice (some ⟨Lb,0,none⟩) i0 cap,.int .i64 (c : Int),.agg #[.bool np,.slice ap lp cp]] w (zlI w X c y i0) := by
 obtain ⟨W0,hW⟩ : ∃ W0,(w.alloc (.cells #[.int .i64 (c : Int)] 3)).alloc (duo (.bool np) (.slice ap lp cp)) = W0 := ⟨_,rfl⟩
 obtain ⟨b0,sz0⟩ := zaA w (.cells #[.int .i64 (c : Int)] 3) (duo (.bool np) (.slice ap lp cp));rw [hW] at b0 sz0;have pc : Cel W0 w.heap.size 3 [.int .i64 (c : Int)] := by
  rw [← hW];exact (Cel.new w 3 [.int .i64 (c : Int)]).step ((Below.refl _ _).alloc (Nat.le_refl _) _)
 have pp : Duo W0 (w.heap.size + 1) (.bool np) (.slice ap lp cp) := by rw [← hW];exact zFA (by simp)
 have HC := hid (containsR18 (indexR18 (h.now b0) hi0 hm hc pc pp (hy.now b0)));have G0 := hid b0;have EW := hid hW;clear h hy b0 hW sz0 pc pp;go_enter Tryz.func72,Tryz.ntmps72;go_wp2_with fail;rw [EW.out];refine HC.out.mono ?_;rintro e w1 ⟨bc,rfl,hr,b⟩;have FIN : Hid (zlI w X c y i0 (.returned (.bool (!bc))) w1) := ⟨_,rfl,by rw [← hr];simp,below_step G0.out b⟩
 clear HC hr b G0 EW;go_wp2;go_ret;exact FIN.out
abbrev fnNz18 : Value := .func (.func 71) #[] #[]
theorem cmpI_ne18 {z : Int} (h : z ≠ 0) : (cmpI z 0 != 0) = true := by
 rcases Int.lt_or_gt_of_ne h with q | q
 ·rw [zlA q];rfl
 ·rw [zkA q];rfl
theorem nz18 {w : World} {v : Value} {z : Int} {k : Nat} (h : Zi w v z k) : Calls Tryz.prog 71 #[v] w fun e w' => e = .returned (.bool (z != 0)) ∧ Below w.heap.size w w' := by
 have z0 := h;obtain ⟨n,xs,a,c,rfl,-,-,-⟩ := h;obtain ⟨W0,hW⟩ : ∃ W0,w.alloc (duo (.bool n) (.slice a xs.length c)) = W0 := ⟨_,rfl⟩
 obtain ⟨b0,sz0⟩ := alo1 w (duo (.bool n) (.slice a xs.length c));rw [hW] at b0 sz0;have HS := hid (zqA (z0.now b0));have G := hid b0;have EW := hid hW;have EB : (cmpI z 0 != 0) = (z != 0) := by
  by_cases q : z = 0
  ·subst q;rw [cmpI_self]
  ·rw [cmpI_ne18 q];simp [q]
 have HEB := hid EB;clear z0 b0 hW sz0 EB;go_enter Tryz.func71,Tryz.ntmps71;go_wp2_with fail;rw [EW.out];refine HS.out.mono ?_;rintro e w1 ⟨rfl,b⟩;have G1 := hid (below_step G.out b);clear b HS;generalize cmpI z 0 = cz at *;go_wp2;go_ret;refine ⟨?_,G1.out⟩;rw [← HEB.out]
 rfl
def zDI (n : Nat) (zs : List Int) (r : Int) : Prop := (r = -1 ∧ ∀ j,j < n → zs.getD j 0 = 0) ∨ ∃ c : Nat,r = (c : Int) ∧ c < n ∧ (∀ j,j < c → zs.getD j 0 = 0) ∧ zs.getD c 0 ≠ 0
def zSI (w : World) (n : Nat) (zs : List Int) (e : Ending) (w' : World) : Prop := ∃ r : Int,e = .returned (.int .i64 r) ∧ zDI n zs r ∧ Below w.heap.size w w'
def zQI (w : World) (g n : Nat) (ps : List (Value × Value)) (zs : List Int) (k gk : Nat) (s : Value) (wx : World) : Prop :=
 ∃ i : Nat,s = .int .i64 (i : Int) ∧ i ≤ n ∧ gk = n - i ∧ (∀ j,j < i → zs.getD j 0 = 0) ∧ Arr wx g ps ∧ Zms wx ps zs k ∧ Below w.heap.size w wx
theorem index18 {w : World} {g n k : Nat} {ps : List (Value × Value)} {zs : List Int} (hA : Arr w g ps) (hz : Zms w ps zs k) (hl : zs.length = n) (hn : n ≤ 64) :
  Calls Tryz.prog 70 #[.slice (some ⟨g,0,none⟩) n n,fnNz18] w (zSI w n zs) := by
 have H0 : Hid (zQI w g n ps zs k n (.int .i64 0) w) := ⟨0,rfl,Nat.zero_le _,rfl,fun j hj => by omega,hA,hz,Below.refl _ _⟩
 have HL := hid hl;clear hA hz hl;go_enter Tryz.func70,Tryz.ntmps70;go_wp2_with fail
 go_loopg [8] n (fun gk s8 wx => zQI w g n ps zs k gk s8 wx)
 case atStart => exact H0.out
 case round =>
  clear H0;obtain ⟨i,rfl,hin,hg,hpos,ar,zr,hG⟩ := hrel;have AR := hid ar;have ZR := hid zr;have G := hid hG;have HG := hid hg;have HP := hid hpos;clear ar zr hG hg hpos
  by_cases hlt : i < n
  ·have hlt' : (i : Int) < (n : Int) := by omega
   obtain ⟨nf,af,lf,cf,k0,k1,-,-,zf⟩ := ZR.out.at AR.out (t := i) (by rw [HL.out];exact hlt);have HS := hid (nz18 zf.zi);have hw := zVA (i := i) (by omega);clear zf
   by_cases hp : zs.getD i 0 = 0
   ·have e0 : (zs.getD i 0 != 0) = false := by rw [hp];rfl
    rw [e0] at HS;have HPP := hid hp;clear hp e0;go_wp2_with fail;refine HS.out.mono ?_;rintro e w1 ⟨rfl,b⟩;have HN1 : Hid (zQI w g n ps zs k (n - (i + 1)) (.int .i64 ((i + 1 : Nat) : Int)) w1) := ⟨i + 1,rfl,by omega,rfl,fun j hj => by
     by_cases q : j < i
     ·exact HP.out j q
     ·obtain rfl : j = i := by omega
      exact HPP.out,AR.out.step b,ZR.out.now b,below_step G.out b⟩
    have HMM : Hid (n - (i + 1) < gk) := by unfold Hid;rw [HG.out];omega
    clear HS HPP AR ZR G HG HP k0 k1 b;go_wp2_with fail;go_roundg (n - (i + 1))
    case rel => exact HN1.out
    case measure => exact HMM.out
   ·have e0 : (zs.getD i 0 != 0) = true := by simp only [bne_iff_ne];exact hp
    rw [e0] at HS;have HPP := hid hp;clear hp e0;go_wp2_with fail;refine HS.out.mono ?_;rintro e w1 ⟨rfl,b⟩;have FIN : Hid (zSI w n zs (.returned (.int .i64 (i : Int))) w1) := ⟨(i : Int),rfl,.inr ⟨i,rfl,hlt,HP.out,HPP.out⟩,below_step G.out b⟩
    clear HS HPP AR ZR G HG HP k0 k1 b;go_wp2;go_ret;exact FIN.out
  ·have hlt' : ¬ (i : Int) < (n : Int) := by omega
   have FIN : Hid (zSI w n zs (.returned (.int .i64 (-1))) wr) := ⟨-1,rfl,.inl ⟨rfl,fun j hj => HP.out j (by omega)⟩,G.out⟩
   clear AR ZR G HG HP;go_wp2;go_ret;exact FIN.out
end Go.Proofs.YtdeomkkpainakaaGreat
