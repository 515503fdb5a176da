/-
 QPv18ToDWords: Pv18, Zg18, DWords, joined.
-/
import Derived.Test.YtdeomkkpainakaaGreatQAr18ToIx18
import Derived.Test.YtdeomkkpainakaaGreatQTl19ToHs18
import Derived.Test.YtdeomkkpainakaaGreatQDz12ToRl17
import Derived.Test.YtdeomkkpainakaaGreatQWordsToCarry

set_option maxRecDepth 100000
set_option maxHeartbeats 6400000
set_option linter.unusedVariables false
set_option linter.unusedSimpArgs false
namespace Go.Proofs.YtdeomkkpainakaaGreat
open Go.RowKit
theorem zXC {B : Nat} {w0 w w' : World} {v : Value} {l : List Nat} (h : Below B w0 w) (hB : B ≤ w.heap.size) (ho : Ivs B w v l) (hg : w.grownBy w' v.ownBlock) : Below B w0 w' :=
 h.trans ⟨hg.os,hg.tape,hg.output,hg.size,fun k hk => hg.block k (by omega) (fun e => by have := (ho.blk e.symm).1;omega)⟩
def zmA (γ : Nat → Nat) (i : Nat) : List Nat := (List.range i).map γ
theorem zKA (γ : Nat → Nat) (i : Nat) : (zmA γ i).length = i := by simp [zmA]
theorem zxC (γ : Nat → Nat) (i : Nat) : zmA γ (i + 1) = zmA γ i ++ [γ i] := by simp [zmA,List.range_succ]
def zcH (w : World) (m r : Nat) (γ : Nat → Nat) (gk : Nat) (s2 s4 s10 : Value) (wx : World) : Prop :=
 ∃ i nx : Nat,s10 = .int .i64 (i : Int) ∧ s4 = .int .i64 (nx : Int) ∧ i ≤ m ∧ gk = m - i ∧ nx ≤ 64 ∧ (∀ a,a < r → i ≤ a → nx ≤ γ a) ∧ Ivs w.heap.size wx s2 (zmA γ (min i r)) ∧ Below w.heap.size w wx
def zNH (w : World) (r : Nat) (γ : Nat → Nat) (e : Ending) (w' : World) : Prop := ∃ v,e = .returned (.tuple #[v,.bool true]) ∧ Ivs w.heap.size w' v (zmA γ r) ∧ Below w.heap.size w w'
theorem fst_in18 {n m r i : Nat} {γ : Nat → Nat} {X : Nat → Nat → Int} {q : Int} (hE : Ec18 n m r id γ X) (hi : i < m) (h : zDI n ((List.range n).map (X i)) q) : (i < r ∧ q = (γ i : Int)) ∨ (r ≤ i ∧ q = -1) := by
 have hg : ∀ j,j < n → ((List.range n).map (X i)).getD j 0 = X i j := fun j hj => by simp [hj]
 by_cases hr : i < r
 ·refine .inl ⟨hr,?_⟩
  have hc := hE.cl i hr;have hp := hE.pos i hr;simp only [id] at hp;rcases h with ⟨_,h⟩ | ⟨c,e,hcn,h1,h2⟩
  ·have := h (γ i) hc;rw [hg _ hc] at this;omega
  ·rw [e]
   have : c = γ i := by
    rcases Nat.lt_trichotomy c (γ i) with q1 | q1 | q1
    ·have := hE.zero i c hr q1;simp only [id] at this;rw [hg _ hcn] at h2;omega
    ·exact q1
    ·have := h1 (γ i) q1;rw [hg _ hc] at this;omega
   rw [this]
 ·refine .inr ⟨by omega,?_⟩
  rcases h with ⟨e,_⟩ | ⟨c,e,hcn,h1,h2⟩
  ·exact e
  ·rw [hg _ hcn] at h2
   exact absurd (hE.rest i hi (fun a ha q1 => by simp only [id] at q1;omega) c hcn) h2
theorem pivotsOf18 {w : World} {B m n k r : Nat} {lv : Value} {gs γ : Nat → Nat} {X : Nat → Nat → Int} (h : Sh17 B w lv m n gs X k) (hm : m ≤ 64) (hn : n ≤ 64) (hE : Ec18 n m r id γ X) (hR : Rd18 0 r id γ X) :
  Calls Tryz.prog 40 #[lv] w (zNH w r γ) := by
 have hrm : r ≤ m := by
  rcases Nat.eq_zero_or_pos r with q | q
  ·omega
  ·have := hE.rl (r - 1) (by omega);simp only [id] at this;omega
 obtain ⟨la,cap,rfl,hla⟩ : ∃ la cap,lv = .slice la m cap ∧ (0 < m → ∃ Lb,la = some ⟨Lb,0,none⟩ ∧ m ≤ cap) := by
  rcases h.1 with ⟨e0,e⟩ | ⟨h0,Lb,cap,q,e,e1,_⟩
  ·exact ⟨none,0,by rw [e,e0],fun q => by omega⟩
  ·exact ⟨_,cap,e,fun _ => ⟨Lb,rfl,e1⟩⟩
 have SH := hid h;have HE := hid hE;have HR := hid hR;have HRM := hid hrm;have HLA := hid hla;have H0 : Hid (zcH w m r γ m (.slice none 0 0) (.int .i64 0) (.int .i64 0) w) := ⟨0,0,rfl,rfl,Nat.zero_le _,rfl,by omega,fun _ _ _ => Nat.zero_le _,by rw [Nat.zero_min];exact Ivs.nil _ _,Below.refl _ _⟩
 clear h hE hR hrm hla;go_enter Tryz.func40,Tryz.ntmps40;go_wp2_with fail
 go_loopg [2,4,10] m (fun gk s2 s4 s10 wx => zcH w m r γ gk s2 s4 s10 wx)
 case atStart => exact H0.out
 case round =>
  clear H0;obtain ⟨i,nx,rfl,rfl,him,hgk,hnx,hlo,hiv,hb⟩ := hrel;have IV := hid hiv;have BB := hid hb;have HG := hid hgk;have HLO := hid hlo;clear hiv hb hgk hlo;obtain ⟨aa,cc,rfl,-,-⟩ := IV.out.form;obtain ⟨ll,hll⟩ : ∃ ll,(zmA γ (min i r)).length = ll := ⟨_,rfl⟩
  rw [hll] at IV
  try rw [hll]
  have HLL := hid hll;clear hll
  by_cases hlt : i < m
  ·have hlt' : (i : Int) < (m : Int) := by omega
   obtain ⟨Lb,rfl,hmc⟩ := HLA.out (by omega);have sh := SH.out.now BB.out;have k0 := sh.lineS hlt;obtain ⟨g,hge⟩ : ∃ g,gs i = g := ⟨_,rfl⟩
   obtain ⟨ps,ha,hz⟩ := (sh.2.2 i hlt).2;rw [hge] at k0 ha;have HS := hid (index18 ha hz (by simp) hn);have hw := zVA (i := i) (by omega);have HMM : Hid (m - (i + 1) < gk) := by unfold Hid;rw [HG.out];omega
   have HGE := hid hge;clear sh ha hz hge HG;go_wp2_with fail;refine HS.out.mono ?_;rintro e w1 ⟨q,rfl,hq,b⟩;have B1 := hid (below_step BB.out b);have IV1 := hid (IV.out.now b);rcases fst_in18 HE.out hlt hq with ⟨hir,rfl⟩ | ⟨hir,rfl⟩
   ·obtain ⟨c,hce⟩ : ∃ c,γ i = c := ⟨_,rfl⟩
    rw [hce];have hcn : c < n := by rw [← hce];exact HE.out.cl i hir
    have hcn' : (c : Int) < (n : Int) := by omega
    have hc0 : ¬ ((c : Int) < 0) := by omega
    have hnc : nx ≤ c := by have := HLO.out i hir (Nat.le_refl _);omega
    have hcx : ¬ ((c : Int) < (nx : Int)) := by omega
    have HMI : Hid (min i r = i) := hid (by omega);have sh1 := SH.out.now B1.out;have k1 := sh1.lineS hlt;obtain ⟨nf,af,lf,cf,e0,e1,-,-,zf⟩ := (sh1.2.2 i hlt).2.at hcn;rw [HGE.out] at k1 e0 e1;have SH1 := hid sh1;have ZF := hid zf;have HPO : Hid (0 < X i c) := by unfold Hid;rw [← hce];exact HE.out.pos i hir
    have HCE := hid hce;have hcp : cmpI (X i c) 0 = 1 := zkA HPO.out;have HSG : Hid (∀ w',Below w1.heap.size w1 w' → Calls Tryz.prog 44 #[.agg #[.bool nf,.slice af lf cf]] w' fun e w'' => e = .returned (.int .i64 1) ∧ Below w'.heap.size w' w'') := fun w' b' => by
     have := zqA (ZF.out.now b').zi;rw [hcp] at this;exact this
    have HAR : Hid (∀ w',Below w1.heap.size w1 w' → Calls Tryz.prog 72 #[.slice (some ⟨Lb,0,none⟩) i cap,.int .i64 (c : Int),.agg #[.bool nf,.slice af lf cf]] w' fun e w'' => e = .returned (.bool true) ∧ Below w'.heap.size w' w'') := fun w' b' => by
     refine (areReduced18 (SH1.out.now b') (Nat.le_of_lt hlt) hm hcn (ZF.out.now b')).mono fun e w'' hh => ?_
     obtain ⟨bc,rfl,h1,h2⟩ := hh;refine ⟨?_,h2⟩;rw [h1.2 fun t ht => ?_];have := HR.out t i (Nat.zero_le _) ht hir;simp only [id] at this;rw [HCE.out] at this;exact this
    have hic : (i : Int) ≤ (cap : Int) := by omega
    clear HS hq b IV BB hce sh1 zf hcp k0;go_wp2_with fail;have KB : Hid (∀ w',Below w1.heap.size w1 w' → w'.cell? ⟨g,c * 2,none⟩ = some (.bool nf) ∧ w'.cell? ⟨g,c * 2 + 1,none⟩ = some (.slice af lf cf)) := fun w' h => ⟨cnow h e0,cnow h e1⟩
    refine zEA (fun w' => w'.cell? ⟨g,c * 2,none⟩ = some (.bool nf) ∧ w'.cell? ⟨g,c * 2 + 1,none⟩ = some (.slice af lf cf)) 22 (by kernel_rfl) ?_;obtain ⟨D11,hD⟩ : ∃ D11,w1.drew = D11 := ⟨_,rfl⟩
    have GB : Hid (Below w1.heap.size w1 D11) := by unfold Hid;rw [← hD];exact (Below.refl _ _).drew
    rw [hD];clear hD;refine zGA [(0,(.int .i64 (c : Int))),(1,(.int .i64 (nx : Int))),(2,(.bool false)),(3,(.bool false)),(4,(.slice (some ⟨g,0,none⟩) n n)),(5,(.int .i64 (c : Int))),(6,(.pointer (some ⟨g,c * 2,none⟩))),(7,(.agg #[.bool nf,.slice af lf cf]))] 8 ?_ (KB.out _ GB.out) ?_
    ·simp only [zQA,gA9,g09,g19,Act.put,sI9,s09,s19]
     (repeat' (first | exact trivial | refine And.intro (Or.inl ⟨by rfl,?_⟩) ?_)) <;> (intro w hSw;(try dsimp only at hSw);go_simp)
    simp only [actV,gA9,g09,g19,Act.put,sI9,s09,s19];refine zAA (i := 8) (o := ⟨some 29,.call { callee := .value (.func 44),args := #[.tmp 28],argTypes := #[40] },3, "lines.go:64",#[⟨7,.data⟩,⟨3,.chain⟩,⟨3,.guard⟩],some (3,false)⟩) (by kernel_rfl) rfl (fun K hK => ?_);go_simp;go_at_call 44;refine (HSG.out _ GB.out).mono ?_;rintro e w12 ⟨rfl,b⟩;have lz12 := (show Below _ _ _ from b).size;replace GB := hid (below_step GB.out b);clear b;refine hK.out _ _ (fun _ => KB.out _ GB.out) ?_;clear hK;refine zGA [(9,(.bool false)),(10,(.bool false)),(11,(.bool false)),(12,(.slice (some ⟨Lb,0,none⟩) m cap)),(13,(.int .i64 (i : Int))),(14,(.slice (some ⟨Lb,0,none⟩) i cap)),(15,(.int .i64 (c : Int))),(16,(.slice (some ⟨g,0,none⟩) n n)),(17,(.int .i64 (c : Int))),(18,(.pointer (some ⟨g,c * 2,none⟩))),(19,(.agg #[.bool nf,.slice af lf cf]))] 11 ?_ (KB.out _ GB.out) ?_
    ·simp only [zQA,gA9,g09,g19,Act.put,sI9,s09,s19]
     (repeat' (first | exact trivial | refine And.intro (Or.inl ⟨by rfl,?_⟩) ?_)) <;> (intro w hSw;(try dsimp only at hSw);go_simp)
    simp only [actV,gA9,g09,g19,Act.put,sI9,s09,s19];refine zAA (i := 20) (o := ⟨some 41,.call { callee := .value (.func 72),args := #[.tmp 35,.tmp 36,.tmp 40],argTypes := #[52,3,40] },4, "lines.go:64",#[⟨14,.data⟩,⟨15,.data⟩,⟨19,.data⟩,⟨11,.chain⟩,⟨11,.guard⟩],some (11,false)⟩) (by kernel_rfl) rfl (fun K hK => ?_);go_simp;go_at_call 72;refine (HAR.out _ GB.out).mono ?_;rintro e w13 ⟨rfl,b⟩;have lz13 := (show Below _ _ _ from b).size;replace GB := hid (below_step GB.out b);clear b;refine hK.out _ _ (fun _ => KB.out _ GB.out) ?_;clear hK;refine zGA [(21,(.bool false))] 1 ?_ (KB.out _ GB.out) ?_
    ·simp only [zQA,gA9,g09,g19,Act.put,sI9,s09,s19]
     (repeat' (first | exact trivial | refine And.intro (Or.inl ⟨by rfl,?_⟩) ?_)) <;> (intro w hSw;(try dsimp only at hSw);go_simp)
    simp only [actV,gA9,g09,g19,Act.put,sI9,s09,s19];refine zAA (i := 22) (o := ⟨some 43,.pick (.tmp 32) (.const (.bool true)) (.tmp 42),4, "lines.go:64",#[⟨11,.data⟩,⟨21,.data⟩],none⟩) (by kernel_rfl) rfl (fun K hK => ?_);go_simp;refine hK.out _ _ (fun h => absurd h (by decide)) ?_;clear hK
    try simp only [Act.put]
    refine zDA (by kernel_rfl) ?_ _;have B2 := hid (below_step B1.out GB.out);have IV2 := hid (IV1.out.now GB.out);clear GB KB HSG HAR k1 e0 e1 SH1 ZF B1 IV1;obtain ⟨V,hV⟩ : ∃ V,w13.alloc (.cells #[.int .i64 (c : Int)] 3) = V := ⟨_,rfl⟩
    obtain ⟨bv,szv⟩ := alo1 w13 (.cells #[.int .i64 (c : Int)] 3);rw [hV] at bv szv;have CV : Hid (V.cell? ⟨w13.heap.size,0,none⟩ = some (.int .i64 (c : Int))) := by unfold Hid;rw [← hV];exact (Cel.new w13 3 [.int .i64 (c : Int)]).at (i := 0) rfl
    have BV := hid (below_step B2.out bv);have IV3 := hid (IV2.out.now bv);have HL : Hid ((zmA γ (min i r)).length ≤ 1000000) := by unfold Hid;rw [zKA];omega
    have EV := hid hV;have hwc := zVA (i := c) (by omega);clear bv szv hV B2 IV2;go_wp2_with (at_builtin;rw [EV.out];refine zAB V rfl (.tmp 44) (.tmp 46) rfl w.heap.size _ _ c rfl IV3.out w13.heap.size rfl CV.out HL.out BV.out.size ?_)
    intro g' cap' w3 hI hg hb;rw [HLL.out] at hI ⊢;have HN1 : Hid (zcH w m r γ (m - (i + 1)) (.slice (some ⟨g',0,none⟩) (ll + 1) cap') (.int .i64 ((c + 1 : Nat) : Int)) (.int .i64 ((i + 1 : Nat) : Int)) w3) := by
     refine ⟨i + 1,c + 1,rfl,rfl,by omega,rfl,by omega,fun a ha hia => ?_,?_,zXC BV.out BV.out.size IV3.out hg.out⟩
     ·have := HE.out.up i a (by omega) ha
      rw [HCE.out] at this;omega
     ·have e : zmA γ (min (i + 1) r) = zmA γ (min i r) ++ [c] := by rw [HMI.out,show min (i + 1) r = i + 1 by omega,zxC,HCE.out]
      rw [e];exact hI.out
    clear hI hg hb IV3 BV CV HL EV;go_wp2_with fail;go_roundg (m - (i + 1))
    case rel => exact HN1.out
    case measure => exact HMM.out
   ·have HN1 : Hid (zcH w m r γ (m - (i + 1)) (.slice aa ll cc) (.int .i64 (n : Int)) (.int .i64 ((i + 1 : Nat) : Int)) w1) := by
     refine ⟨i + 1,n,rfl,rfl,by omega,rfl,hn,fun a ha hia => by omega,?_,B1.out⟩;rw [show min (i + 1) r = min i r by omega];exact IV1.out
    clear HS hq b IV BB IV1 B1 k0;go_wp2_with fail;go_roundg (m - (i + 1))
    case rel => exact HN1.out
    case measure => exact HMM.out
  ·have hlt' : ¬ (i : Int) < (m : Int) := by omega
   obtain rfl : i = m := by omega
   have FIN : Hid (zNH w r γ (.returned (.tuple #[.slice aa ll cc,.bool true])) wr) := ⟨_,rfl,by have := IV.out;rw [show min i r = r by have := HRM.out;omega] at this;exact this,BB.out⟩
   clear IV BB HG HLA SH HE HR;go_wp2;go_ret2;exact FIN.out
end Go.Proofs.YtdeomkkpainakaaGreat
namespace Go.Proofs.YtdeomkkpainakaaGreat
def zG18 (m n : Nat) (F : Nat → Nat → Int) : List Int := (List.range (m * n)).map fun t => F (t / n) (t % n)
theorem zaC (m n : Nat) (F : Nat → Nat → Int) : (zG18 m n F).length = m * n := by simp [zG18]
theorem zhF {m n i j : Nat} (hi : i < m) (hj : j < n) : i * n + j < m * n := by
 have h := Nat.mul_le_mul_right n (show i + 1 ≤ m from hi);rw [Nat.succ_mul] at h;omega
theorem zeG {n i j : Nat} (hj : j < n) : (i * n + j) / n = i ∧ (i * n + j) % n = j := by
 have hn : 0 < n := by omega
 rw [Nat.mul_comm i n,Nat.mul_add_div hn,Nat.mul_add_mod,Nat.div_eq_of_lt hj,Nat.mod_eq_of_lt hj];exact ⟨by omega,rfl⟩
theorem zG18_at {m n i j : Nat} {F : Nat → Nat → Int} (hi : i < m) (hj : j < n) : (zG18 m n F).getD (i * n + j) 0 = F i j := by
 have h := zhF hi hj;have e := zeG (i := i) hj;simp [zG18,h,e.1,e.2]
theorem zG18_congr {m n : Nat} {F G : Nat → Nat → Int} (h : ∀ i j,i < m → j < n → F i j = G i j) : zG18 m n F = zG18 m n G := List.map_congr_left fun t ht => by
 have ht' : t < m * n := by simpa using ht
 have hn : 0 < n := Nat.pos_of_ne_zero fun e => by subst e;simp at ht'
 exact h _ _ (Nat.div_lt_of_lt_mul (by rw [Nat.mul_comm];exact ht')) (Nat.mod_lt _ hn)
def en18 (n : Nat) (zs : List Int) : Nat → Nat → Int := fun i j => zs.getD (i * n + j) 0
theorem zCH {m n i j : Nat} {F : Nat → Nat → Int} (hi : i < m) (hj : j < n) : en18 n (zG18 m n F) i j = F i j := zG18_at hi hj
def dwB : Int := 65536
def IsD (x : Int) : Prop := 0 ≤ x ∧ x < dwB
def DF (xs : List Int) : Prop := ∀ x ∈ xs,IsD x
def dval : List Int → Int
 | [] => 0
 | x :: r => x + dwB * dval r
def dwid : List Int → Nat
 | [] => 0
 | x :: r => if dwid r = 0 then (if x = 0 then 0 else 1) else dwid r + 1
def dpw : Nat → Int
 | 0 => 1
 | n + 1 => dwB * dpw n
def zOD (xs : List Int) : Prop := DF xs ∧ dwid xs = xs.length
theorem DF.nil : DF [] := fun x h => by cases h
theorem DF.cons {x : Int} {r : List Int} (hx : IsD x) (hr : DF r) : DF (x :: r) := by
 intro y hy;rcases List.mem_cons.1 hy with rfl | h
 ·exact hx
 ·exact hr y h
theorem DF.head {x : Int} {r : List Int} (h : DF (x :: r)) : IsD x := h x (by simp)
theorem DF.tail {x : Int} {r : List Int} (h : DF (x :: r)) : DF r := fun y hy => h y (by simp [hy])
theorem DF.take {xs : List Int} (h : DF xs) (n : Nat) : DF (xs.take n) := fun x hx => h x (List.mem_of_mem_take hx)
theorem DF.append {xs ys : List Int} (h : DF xs) (k : DF ys) : DF (xs ++ ys) := by
 intro x hx;rcases List.mem_append.1 hx with q | q
 ·exact h x q
 ·exact k x q
theorem DF.get {xs : List Int} (h : DF xs) {i : Nat} (hi : i < xs.length) : IsD xs[i] := h _ (List.getElem_mem hi)
theorem DF.set {xs : List Int} (h : DF xs) (i : Nat) {x : Int} (hx : IsD x) : DF (xs.set i x) := by
 intro y hy;rcases List.mem_or_eq_of_mem_set hy with q | rfl
 ·exact h y q
 ·exact hx
theorem zTB : ∀ {xs : List Int},DF xs → 0 ≤ dval xs
 | [],_ => by simp [dval]
 | x :: r,h => by
  have h1 := h.head;have h2 := zTB h.tail;unfold IsD dwB at h1;unfold dval dwB;omega
theorem zVC : ∀ xs : List Int,dwid xs ≤ xs.length
 | [] => by simp [dwid]
 | x :: r => by
  have := zVC r;unfold dwid;split
  ·split <;> simp
  ·simp;omega
theorem zlB : ∀ xs : List Int,dwid xs = 0 → dval xs = 0
 | [],_ => rfl
 | x :: r,h => by
  unfold dwid at h
  split at h
  ·rename_i h0
   have := zlB r h0
   split at h
   ·rename_i hx;simp [dval,hx,this]
   ·cases h
  ·cases h
theorem zzB : ∀ {xs : List Int},DF xs → 0 < dwid xs → 0 < dval xs
 | [],_,h => by simp [dwid] at h
 | x :: r,hw,h => by
  have h1 := hw.head;have h2 := zTB hw.tail;unfold dwid at h;unfold IsD dwB at h1
  split at h
  ·split at h
   ·cases h
   ·unfold dval dwB;omega
  ·have := zzB hw.tail (by omega)
   unfold dval dwB;omega
theorem zmB : ∀ {xs ys : List Int},DF xs → DF ys → dwid xs < dwid ys → dval xs < dval ys
 | [],ys,_,hy,h => by
  have := zzB hy (by simp [dwid] at h;exact h)
  simpa [dval] using this
 | x :: xs,[],_,_,h => by simp [dwid] at h
 | x :: xs,y :: ys,hx,hy,h => by
  have hx1 := hx.head;have hy1 := hy.head;have vy := zTB hy.tail
  by_cases e : dwid ys = 0
  ·have : dwid (y :: ys) ≤ 1 := by unfold dwid;rw [if_pos e];split <;> simp
   have h0 : dwid (x :: xs) = 0 := by omega
   rw [zlB _ h0];exact zzB hy (by omega)
  ·have e1 : dwid (y :: ys) = dwid ys + 1 := by rw [dwid,if_neg e]
   have e2 : dwid xs < dwid ys := by
    by_cases q : dwid xs = 0
    ·omega
    ·have : dwid (x :: xs) = dwid xs + 1 := by rw [dwid,if_neg q]
     omega
   have := zmB hx.tail hy.tail e2;unfold IsD dwB at hx1 hy1;unfold dval dwB;omega
def dlst (xs : List Int) : List Int := xs.take (dwid xs)
theorem zgA (xs : List Int) : (dlst xs).length = dwid xs := by unfold dlst;have := zVC xs;simp;omega
theorem zYF (x : Int) (r : List Int) : dlst (x :: r) = if dwid r = 0 then (if x = 0 then [] else [x]) else x :: dlst r := by
 have e : dwid (x :: r) = if dwid r = 0 then (if x = 0 then 0 else 1) else dwid r + 1 := by rw [dwid]
 unfold dlst;rw [e]
 split
 ·split <;> simp
 ·simp
theorem zVD : ∀ xs : List Int,dval (dlst xs) = dval xs
 | [] => rfl
 | x :: r => by
  rw [zYF]
  split
  ·rename_i h0
   have := zlB r h0
   split
   ·rename_i hx;simp [dval,hx,this]
   ·simp [dval,this]
  ·simp [dval,zVD r]
theorem zQG : ∀ xs : List Int,dwid (dlst xs) = dwid xs
 | [] => rfl
 | x :: r => by
  rw [zYF,dwid]
  split
  ·split
   ·rfl
   ·rename_i hx;simp [dwid,hx]
  ·rename_i h0
   rw [dwid,zQG r,if_neg h0]
theorem dcanon_lst {xs : List Int} (h : DF xs) : zOD (dlst xs) := ⟨h.take _,by rw [zQG,zgA]⟩
theorem zBE : ∀ {xs : List Int} {n : Nat},n ≤ xs.length → (∀ j (h : j < xs.length),n ≤ j → xs[j] = 0) → (0 < n → ∀ h' : n - 1 < xs.length,xs[n - 1] ≠ 0) → dwid xs = n
 | [],n,hn,_,_ => by simp at hn;simp [dwid,hn]
 | x :: r,0,_,hz,_ => by
  have h0 : dwid r = 0 := zBE (Nat.zero_le _) (fun j h _ => by have := hz (j + 1) (by simpa using h) (by omega);simpa using this) (fun h => by omega);have hx : x = 0 := hz 0 (by simp) (by omega);simp [dwid,h0,hx]
 | x :: r,1,_,hz,ht => by
  have h0 : dwid r = 0 := zBE (Nat.zero_le _) (fun j h _ => by have := hz (j + 1) (by simpa using h) (by omega);simpa using this) (fun h => by omega);have hx : x ≠ 0 := by simpa using ht (by omega) (by simp)
  simp [dwid,h0,hx]
 | x :: r,n + 2,hn,hz,ht => by
  have h0 : dwid r = n + 1 := by
   refine zBE (by simpa using hn) (fun j h hj => ?_) (fun _ h' => ?_)
   ·have := hz (j + 1) (by simpa using h) (by omega);simpa using this
   ·have := ht (by omega) (by simpa using h');simpa using this
  simp [dwid,h0]
theorem zYE : ∀ {xs : List Int},DF xs → dval xs < dpw xs.length
 | [],_ => by simp [dval,dpw]
 | x :: r,h => by
  have h1 := h.head;have h2 := zYE h.tail;unfold IsD dwB at h1;simp only [List.length_cons];unfold dval dpw dwB;omega
theorem zpF : ∀ n,0 < dpw n
 | 0 => by simp [dpw]
 | n + 1 => by have := zpF n;unfold dpw dwB;omega
theorem zUB : ∀ (xs ys : List Int),dval (xs ++ ys) = dval xs + dpw xs.length * dval ys
 | [],ys => by simp [dval,dpw]
 | x :: r,ys => by
  simp only [List.cons_append,List.length_cons,dval,dpw,zUB r ys];rw [Int.mul_add,Int.mul_assoc];omega
theorem znB : ∀ (xs : List Int) (i : Nat) (z : Int) (h : i < xs.length),dval (xs.set i z) = dval xs + (z - xs[i]) * dpw i
 | [],i,z,h => by simp at h
 | x :: r,0,z,_ => by simp [dval,dpw];omega
 | x :: r,i + 1,z,h => by
  have := znB r i z (by simpa using h);simp only [List.set_cons_succ,List.getElem_cons_succ,dval,dpw,this];have h' : i < r.length := by simpa using h
  generalize hq : z - r[i]'h' = q;rw [Int.mul_add,← Int.mul_assoc,← Int.mul_assoc,Int.mul_comm dwB q];omega
theorem zbB (ys : List Int) (i : Nat) (h : i < ys.length) : dval (ys.take (i + 1)) = dval (ys.take i) + ys[i] * dpw i := by
 rw [List.take_succ_eq_append_getElem h,zUB];simp [dval,Int.mul_comm,Nat.min_eq_left (Nat.le_of_lt h)]
theorem zEH : ∀ {xs ys : List Int} {j : Nat},DF xs → DF ys → (hl : xs.length = ys.length) → (h : j < xs.length) → xs.drop (j + 1) = ys.drop (j + 1) → xs[j] ≠ ys[j]'(by omega) → cmpI (dval xs) (dval ys) = cmpI xs[j] (ys[j]'(by omega))
 | [],_,_,_,_,_,h,_,_ => by simp at h
 | x :: xs,[],_,_,_,hl,_,_,_ => by simp at hl
 | x :: xs,y :: ys,0,hx,hy,_,_,hd,hne => by
  simp only [List.drop_succ_cons,List.drop_zero] at hd;simp only [List.getElem_cons_zero] at hne ⊢;have hx1 := hx.head;have hy1 := hy.head;unfold IsD dwB at hx1 hy1;subst hd;simp only [cmpI,dval];have e1 : (x + dwB * dval xs < y + dwB * dval xs) ↔ x < y := by omega
  have e2 : (y + dwB * dval xs < x + dwB * dval xs) ↔ y < x := by omega
  simp only [e1,e2]
 | x :: xs,y :: ys,j + 1,hx,hy,hl,h,hd,hne => by
  simp only [List.drop_succ_cons] at hd;simp only [List.getElem_cons_succ] at hne ⊢;have ih := zEH hx.tail hy.tail (by simpa using hl) (by simpa using h) hd hne;have hx1 := hx.head;have hy1 := hy.head;unfold IsD dwB at hx1 hy1;rw [← ih];have hne' : dval xs ≠ dval ys := by
   intro e;rw [e,cmpI_self] at ih;exact hne (cmpI_zero ih.symm)
  rcases Int.lt_or_gt_of_ne hne' with q | q
  ·rw [zlA q,zlA (by unfold dval dwB;omega)]
  ·rw [zkA q,zkA (by unfold dval dwB;omega)]
theorem dcmp_widths {xs ys : List Int} (hx : DF xs) (hy : DF ys) (h : dwid xs ≠ dwid ys) : cmpI (dval xs) (dval ys) = cmpI (dwid xs) (dwid ys) := by
 rcases Nat.lt_or_gt_of_ne h with q | q
 ·rw [zlA (zmB hx hy q),zlA (by omega)]
 ·rw [zkA (zmB hy hx q),zkA (by omega)]
theorem dlst_get {xs : List Int} {j : Nat} (h : j < dwid xs) : (dlst xs)[j]'(by rw [zgA];exact h) = xs[j]'(by have := zVC xs;omega) := by simp [dlst]
theorem dcarry_step {xs zs : List Int} {ysT ysT' p y s d c : Int} {i : Nat} (hi : i < zs.length) (hv : dval zs + dpw i * c = dval xs + ysT) (hT : ysT' = ysT + y * dpw i)
  (hs : s + dwB * d = zs[i] + y + c) (hp : p = dpw (i + 1)) : dval (zs.set i s) + p * d = dval xs + ysT' := by
 subst hp;rw [znB zs i s hi,hT];generalize hz : zs[i] = z at *;have e : s = z + y + c - dwB * d := by omega
 subst e;simp only [dpw,Int.sub_mul,Int.add_mul,Int.mul_assoc,Int.mul_comm c (dpw i),Int.mul_comm d (dpw i)];omega
theorem dborrow_step {xs zs : List Int} {ysT ysT' p y s d c : Int} {i : Nat} (hi : i < zs.length) (hv : dval zs - dpw i * c = dval xs - ysT) (hT : ysT' = ysT + y * dpw i)
  (hs : s - dwB * d = zs[i] - y - c) (hp : p = dpw (i + 1)) : dval (zs.set i s) - p * d = dval xs - ysT' := by
 subst hp;rw [znB zs i s hi,hT];generalize hz : zs[i] = z at *;have e : s = z - y - c + dwB * d := by omega
 subst e;simp only [dpw,Int.sub_mul,Int.add_mul,Int.mul_assoc,Int.mul_comm c (dpw i),Int.mul_comm d (dpw i)];omega
theorem zPG : ∀ {xs : List Int} {n : Nat},dwid xs = n + 1 → ∃ h : n < xs.length,xs[n] ≠ 0
 | [],n,h => by simp [dwid] at h
 | x :: r,n,h => by
  unfold dwid at h
  split at h
  ·split at h
   ·cases h
   ·have : n = 0 := by omega
    subst this;exact ⟨by simp,by simpa⟩
  ·rename_i hr
   obtain ⟨m,hm⟩ : ∃ m,dwid r = m + 1 := ⟨dwid r - 1,by omega⟩
   obtain ⟨h1,h2⟩ := zPG hm;have : n = m + 1 := by omega
   subst this;exact ⟨by simpa using h1,by simpa using h2⟩
end Go.Proofs.YtdeomkkpainakaaGreat
