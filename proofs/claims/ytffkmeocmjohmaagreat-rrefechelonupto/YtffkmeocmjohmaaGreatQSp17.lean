import Derived.Test.YtffkmeocmjohmaaGreatQROrderToZe17
import Derived.Test.YtffkmeocmjohmaaGreatQWp8ToFl8
set_option maxRecDepth 100000
set_option maxHeartbeats 6400000
set_option linter.unusedVariables false
set_option linter.unusedSimpArgs false
namespace Go.Proofs.YtffkmeocmjohmaaGreat
open Go.RowKit
open Q17 (sm)
theorem num17_0 {w : World} : Calls Tryz.prog 51 #[.int .i64 0] w (zXB w 0) := by
 obtain ⟨W0,hW⟩ : ∃ W0,w.alloc (duo (.bool false) (.slice none 0 0)) = W0 := ⟨_,rfl⟩
 obtain ⟨b0,sz0⟩ := alo1 w (duo (.bool false) (.slice none 0 0));rw [hW] at b0 sz0;have PF : Hid (Duo W0 w.heap.size (.bool false) (.slice none 0 0)) := by unfold Hid;rw [← hW];exact Duo.new w _ _
 have FIN : Hid (zXB w 0 (.returned (.agg #[.bool false,.slice none 0 0])) W0) := ⟨_,_,_,rfl,⟨false,[],none,0,rfl,Mine.nil _ _,⟨WF.nil,rfl⟩,fun _ => rfl,by simp [iv,val],Nat.zero_le _⟩,b0⟩
 have EW := hid hW;clear b0 sz0 hW;go_enter Tryz.func51,Tryz.ntmps51;go_wp2;rw [EW.out];exact bodyPost_ret (zvA Tryz.results51 PF.out _ (by rfl)) rfl FIN.out
structure SpJ (w : World) (bp bf r c : Nat) (a : Option Addr) (l cap : Nat) (af : Option Addr) (capf : Nat) (wx : World) : Prop where
 p : Cel wx bp 24 [.int .i64 (r : Int),.int .i64 (c : Int),.slice a l cap]
 f : Cel wx bf 24 [.int .i64 (r : Int),.int .i64 (c : Int),.slice af l capf]
 b : Below w.heap.size w wx
theorem SpJ.now {w : World} {bp bf r c : Nat} {a : Option Addr} {l cap : Nat} {af : Option Addr} {capf : Nat} {wx wy : World} (h : SpJ w bp bf r c a l cap af capf wx) (hb : Below wx.heap.size wx wy) : SpJ w bp bf r c a l cap af capf wy :=
 ⟨h.p.step hb,h.f.step hb,zAA h.b hb⟩
def SpB (wx : World) (bs : Nat) (q : Rat) (k : Nat) : Prop := ∃ n1 a1 l1 c1 n2 a2 l2 c2,Cel wx bs 47 [.bool n1,.slice a1 l1 c1,.bool n2,.slice a2 l2 c2] ∧ Zm 0 wx (.agg #[.bool n1,.slice a1 l1 c1]) q.num k ∧ Zm 0 wx (.agg #[.bool n2,.slice a2 l2 c2]) (q.den : Int) k
theorem SpB.now {wx wy : World} {bs k : Nat} {q : Rat} (h : SpB wx bs q k) (hb : Below wx.heap.size wx wy) : SpB wy bs q k := by
 obtain ⟨n1,a1,l1,c1,n2,a2,l2,c2,h1,h2,h3⟩ := h;exact ⟨n1,a1,l1,c1,n2,a2,l2,c2,h1.step hb,h2.now hb,h3.now hb⟩
theorem Zi.pts17 {w : World} {x y : Value} {z : Int} {k : Nat} (h : Zi w (.agg #[x,y]) z k) : ∃ n a l c,x = .bool n ∧ y = .slice a l c := by
 obtain ⟨n,xs,a,c,e,-⟩ := h;simp at e;exact ⟨n,a,_,c,e.1,e.2⟩
def psm (c : Nat) (P Q : Nat → Int) (R : Nat → Rat) (pv : List Nat) (i j t : Nat) : Rat := sm t fun s => qfr c P Q i (pv.getD s 0) * R (s * c + j)
def szN (k t : Nat) : Nat := t * (2 * k + 1) + 1
theorem rat_mul17 {a b c d : Int} (hc : c ≠ 0) (hd : d ≠ 0) : Rat.divInt (a * b) (c * d) = Rat.divInt a c * Rat.divInt b d := by rw [Rat.divInt_mul_divInt]
theorem zcE {s x : Rat} {u v : Nat} (h1 : (s.num.natAbs : Int) < pw u) (h2 : (s.den : Int) < pw u) (h3 : (x.num.natAbs : Int) < pw v) (h4 : (x.den : Int) < pw v) : Rat.divInt (s.num * (x.den : Int) + x.num * (s.den : Int)) ((s.den : Int) * (x.den : Int)) = s + x ∧ (((s + x).num.natAbs : Int) < pw (u + v + 1)) ∧ ((s + x).den : Int) < pw (u + v + 1) := by
 have d1 : (s.den : Int) ≠ 0 := by have := s.den_pos;omega
 have d2 : (x.den : Int) ≠ 0 := by have := x.den_pos;omega
 have e : Rat.divInt (s.num * (x.den : Int) + x.num * (s.den : Int)) ((s.den : Int) * (x.den : Int)) = s + x := by
  rw [← Rat.divInt_add_divInt _ _ d1 d2,Rat.num_divInt_den,Rat.num_divInt_den]
 have hs := zIB (p := s.num * (x.den : Int) + x.num * (s.den : Int)) (q := (s.den : Int) * (x.den : Int)) (Int.mul_ne_zero d1 d2);rw [e] at hs;have hp1 := zbA u;have hp2 := zbA v;have e4 : pw 1 = 18446744073709551616 := by decide
 have m1 : ((s.num * (x.den : Int)).natAbs : Int) ≤ pw u * pw v := by
  rw [Int.natAbs_mul,Int.natCast_mul];exact Int.mul_le_mul (by omega) (by omega) (by omega) (by omega)
 have m2 : ((x.num * (s.den : Int)).natAbs : Int) ≤ pw u * pw v := by
  rw [Int.natAbs_mul,Int.natCast_mul,Int.mul_comm (pw u)];exact Int.mul_le_mul (by omega) (by omega) (by omega) (by omega)
 have m3 : (((s.den : Int) * (x.den : Int)).natAbs : Int) ≤ pw u * pw v := by
  rw [Int.natAbs_mul,Int.natCast_mul];exact Int.mul_le_mul (by omega) (by omega) (by omega) (by omega)
 have hpp := Int.mul_pos hp1 hp2;have ep : pw (u + v + 1) = pw u * pw v * 18446744073709551616 := by rw [zFB,zFB,e4]
 refine ⟨e,?_,?_⟩
 ·rw [ep];omega
 ·rw [ep];omega
theorem spans17 {w : World} {r c : Nat} {a : Option Addr} {l cap : Nat} {P Q : Nat → Int} {af : Option Addr} {capf k B : Nat} {R : Nat → Rat} {va : Option Addr} {pl vc : Nat} {pv : List Nat} (hv : Qs w (.slice a l cap) l P Q k) (hu : Qs w (.slice af l capf) l (nmR R) (dnR R) k) (hl : l = r * c) (hr : r ≤ 64) (hc : c ≤ 64) (hk : k ≤ 1048641) (hk1 : 1 ≤ k) (hQ : ∀ t,t < l → Q t ≠ 0) (hI : Ivs B w (.slice va pl vc) pv) (hp : pv.length = pl) (hpr : pl ≤ r) (hpc : ∀ t,t < pl → pv.getD t 0 < c)
  (hS : ∀ i j,i < r → j < c → qfr c P Q i j = psm c P Q R pv i j pl) :
  Calls Tryz.prog 9 #[qmv r c (.slice a l cap),qmv r c (.slice af l capf),.slice va pl vc] w fun e w' => e = .returned (.bool true) ∧ Below w.heap.size w w' := by
 show Calls Tryz.prog 9 #[(.agg #[.int .i64 (r : Int),.int .i64 (c : Int),.slice a l cap]),(.agg #[.int .i64 (r : Int),.int .i64 (c : Int),.slice af l capf]),.slice va pl vc] w _
 obtain ⟨W0,hW⟩ : ∃ W0,(w.alloc (.cells #[.int .i64 (r : Int),.int .i64 (c : Int),.slice a l cap] 24)).alloc (.cells #[.int .i64 (r : Int),.int .i64 (c : Int),.slice af l capf] 24) = W0 := ⟨_,rfl⟩
 obtain ⟨b0,sz0⟩ := zuA w (.cells #[.int .i64 (r : Int),.int .i64 (c : Int),.slice a l cap] 24) (.cells #[.int .i64 (r : Int),.int .i64 (c : Int),.slice af l capf] 24);rw [hW] at b0 sz0;have CP : Cel W0 w.heap.size 24 [.int .i64 (r : Int),.int .i64 (c : Int),.slice a l cap] := by
  rw [← hW];exact (Cel.new w 24 [.int .i64 (r : Int),.int .i64 (c : Int),.slice a l cap]).step (alo1 _ _).1
 have CF : Cel W0 (w.heap.size + 1) 24 [.int .i64 (r : Int),.int .i64 (c : Int),.slice af l capf] := by
  rw [← hW];have := Cel.new (w.alloc (.cells #[.int .i64 (r : Int),.int .i64 (c : Int),.slice a l cap] 24)) 24 [.int .i64 (r : Int),.int .i64 (c : Int),.slice af l capf]
  simpa using this
 obtain ⟨bp,hbp⟩ : ∃ bp,w.heap.size = bp := ⟨_,rfl⟩
 obtain ⟨bf,hbf⟩ : ∃ bf,w.heap.size + 1 = bf := ⟨_,rfl⟩
 have J0 : Hid (SpJ w bp bf r c a l cap af capf W0) := ⟨by rw [← hbp];exact CP,by rw [← hbf];exact CF,b0⟩
 have HV := hid hv;have HU := hid hu;have HI := hid hI;have HQ := hid hQ;have HL := hid hl;have HPL := hid hp;have HPC := hid hpc;have HS := hid hS;have EW := hid hW;have EP := hid hbp;have EF := hid hbf;have HBB : Hid (w.heap.size ≤ bp ∧ w.heap.size ≤ bf ∧ bp < W0.heap.size ∧ bf < W0.heap.size) := by unfold Hid;omega
 have H0 : Hid (∃ i : Nat,Value.int .i64 0 = .int .i64 (i : Int) ∧ i ≤ r ∧ r = r - i ∧ SpJ w bp bf r c a l cap af capf W0) := ⟨0,rfl,Nat.zero_le _,rfl,J0.out⟩
 clear hv hu hl hQ hI hp hpc hS b0 sz0 hW CP CF J0 hbp hbf;go_enter Tryz.func9,Tryz.ntmps9;go_wp2_with fail;rw [EW.out,EF.out,EP.out];clear EW
 go_loopg [7] r (fun gk s7 wx => ∃ i : Nat,s7 = .int .i64 (i : Int) ∧ i ≤ r ∧ gk = r - i ∧ SpJ w bp bf r c a l cap af capf wx)
 case atStart => exact H0.out
 case round =>
  clear H0;obtain ⟨i,rfl,hir,rfl,hJ⟩ := hrel;have J := hid hJ;have y0 := hJ.p.at (i := 0) rfl;clear hJ
  by_cases hlt : i < r
  ·have hlt' : (i : Int) < (r : Int) := by omega
   have hwi := zVA (i := i) (by omega);have HMO : Hid (r - (i + 1) < r - i) := by unfold Hid;omega
   have H0 : Hid (∃ j : Nat,Value.int .i64 0 = .int .i64 (j : Int) ∧ j ≤ c ∧ c = c - j ∧ SpJ w bp bf r c a l cap af capf wr) := ⟨0,rfl,Nat.zero_le _,rfl,J.out⟩
   clear J;go_wp2_with fail;clear y0
   go_loopg [8] c (fun gk s8 wx => ∃ j : Nat,s8 = .int .i64 (j : Int) ∧ j ≤ c ∧ gk = c - j ∧ SpJ w bp bf r c a l cap af capf wx)
   case atStart => exact H0.out
   case round =>
    clear H0;obtain ⟨j,rfl,hjc,rfl,hJ⟩ := hrel;have J := hid hJ;have y1 := hJ.p.at (i := 1) rfl;clear hJ
    by_cases hjl : j < c
    ·have hjl' : (j : Int) < (c : Int) := by omega
     have hwj := zVA (i := j) (by omega);have HMJ : Hid (c - (j + 1) < c - j) := by unfold Hid;omega
     have HFR := hid (zCF (w := wr) (p := 0) (q := 1) (fun _ => num17_0) (fun _ => zbD));go_wp2_with fail;refine HFR.out.mono ?_;rintro e w1 ⟨a1,l1,c1,a2,l2,c2,rfl,z1,z2,b1⟩;obtain ⟨V1,hV⟩ : ∃ V1,w1.alloc (.cells #[.bool false,.slice a1 l1 c1,.bool false,.slice a2 l2 c2] 47) = V1 := ⟨_,rfl⟩
     obtain ⟨bv,szv⟩ := alo1 w1 (.cells #[.bool false,.slice a1 l1 c1,.bool false,.slice a2 l2 c2] 47);rw [hV] at bv szv;obtain ⟨bs,hbs⟩ : ∃ bs,w1.heap.size = bs := ⟨_,rfl⟩
     have CS : Cel V1 bs 47 [.bool false,.slice a1 l1 c1,.bool false,.slice a2 l2 c2] := by rw [← hV,← hbs];exact Cel.new w1 _ _
     have J1 := J.out.now (zAA b1 bv);have HB0 : Hid (w.heap.size ≤ bs ∧ bs ≠ bp ∧ bs ≠ bf) := by
      unfold Hid;have h1 := J.out.b.size;have h2 := b1.size;have h3 := J.out.p.blk;have h4 := J.out.f.blk;omega
     have H0 : Hid (∃ t : Nat,Value.int .i64 0 = .int .i64 (t : Int) ∧ t ≤ pl ∧ pl = pl - t ∧ SpJ w bp bf r c a l cap af capf V1 ∧ SpB V1 bs (psm c P Q R pv i j t) (szN k t)) := ⟨0,rfl,Nat.zero_le _,rfl,J1,_,_,_,_,_,_,_,_,CS,by unfold szN;rw [Nat.zero_mul];exact z1.now bv,by unfold szN;rw [Nat.zero_mul];exact z2.now bv⟩
     have EV := hid hV;have EB := hid hbs;clear HFR z1 z2 b1 bv szv hV hbs CS J1 J y1;go_wp2_with fail;rw [EV.out,EB.out];clear EV EB
     go_loopg [10] pl (fun gk s10 wx => ∃ t : Nat,s10 = .int .i64 (t : Int) ∧ t ≤ pl ∧ gk = pl - t ∧ SpJ w bp bf r c a l cap af capf wx ∧ SpB wx bs (psm c P Q R pv i j t) (szN k t))
     case atStart => exact H0.out
     case round =>
      clear H0;obtain ⟨t,rfl,htp,rfl,hJ,hsb⟩ := hrel;have J := hid hJ;have SB := hid hsb;have x0 := hJ.p.at (i := 0) rfl;have x1 := hJ.p.at (i := 1) rfl;have x2 := hJ.p.at (i := 2) rfl;have y0 := hJ.f.at (i := 0) rfl;have y1 := hJ.f.at (i := 1) rfl;have y2 := hJ.f.at (i := 2) rfl;clear hJ hsb
      by_cases htl : t < pl
      ·have htl' : (t : Int) < (pl : Int) := by omega
       have hwt := zVA (i := t) (by omega);have HMT : Hid (pl - (t + 1) < pl - t) := by unfold Hid;omega
       obtain ⟨vb,rfl⟩ : ∃ vb,va = some ⟨vb,0,none⟩ := by
        obtain ⟨a',cap',e1,e2,e3⟩ := HI.out.form;obtain ⟨g',e4⟩ := e3 (by have := HPL.out;omega);simp only [Value.slice.injEq] at e1;exact ⟨g',by rw [e1.1,e4]⟩
       have v0 := (HI.out.now J.out.b).at (i := t) (by rw [HPL.out];exact htl);have hgc := HPC.out t htl;obtain ⟨g,hg⟩ : ∃ g,pv.getD t 0 = g := ⟨_,rfl⟩
       rw [hg] at v0 hgc;have HG := hid hg;have hx1 : i * c + g < l := by rw [HL.out];exact zeA hlt hgc
       have hx2 : t * c + j < l := by rw [HL.out];exact zeA (by omega) hjl
       have HD1 : Hid (Q (i * c + g) ≠ 0) := HQ.out _ hx1;have HA1 : Hid (∀ {w' : World},Below wr.heap.size wr w' → Calls Tryz.prog 30 #[(.agg #[.int .i64 (r : Int),.int .i64 (c : Int),.slice a l cap]),.int .i64 (i : Int),.int .i64 (g : Int)] w' (Atd w' (P (i * c + g)) (Q (i * c + g)) k)) := fun h => at17 (r := (r : Int)) (HV.out.now (zAA J.out.b h)) (i := i) (j := g) (by omega) hc hx1 (by omega)
       have HA2 : Hid (∀ {w' : World},Below wr.heap.size wr w' → Calls Tryz.prog 30 #[(.agg #[.int .i64 (r : Int),.int .i64 (c : Int),.slice af l capf]),.int .i64 (t : Int),.int .i64 (j : Int)] w' (Atd w' (nmR R (t * c + j)) (dnR R (t * c + j)) k)) := fun h => at17 (r := (r : Int)) (HU.out.now (zAA J.out.b h)) (i := t) (j := j) (by omega) hc hx2 (by omega)
       have HDD : Hid (Q (i * c + g) * dnR R (t * c + j) ≠ 0) := Int.mul_ne_zero HD1.out (zZG R _);have HXV : Hid (Rat.divInt (P (i * c + g) * nmR R (t * c + j)) (Q (i * c + g) * dnR R (t * c + j)) = qfr c P Q i (pv.getD t 0) * R (t * c + j)) := by
        unfold Hid;rw [rat_mul17 HD1.out (zZG R _),HG.out];unfold qfr;rw [show Rat.divInt (nmR R (t * c + j)) (dnR R (t * c + j)) = R (t * c + j) from Rat.num_divInt_den _]
       clear hg hx1 hx2 hgc;go_wp2_with fail;have KB : Hid (∀ w',Below wr.heap.size wr w' → w'.cell? ⟨bp,0,none⟩ = some (.int .i64 (r : Int)) ∧ w'.cell? ⟨bp,1,none⟩ = some (.int .i64 (c : Int)) ∧ w'.cell? ⟨bp,2,none⟩ = some (.slice a l cap) ∧ w'.cell? ⟨bf,0,none⟩ = some (.int .i64 (r : Int)) ∧ w'.cell? ⟨bf,1,none⟩ = some (.int .i64 (c : Int)) ∧ w'.cell? ⟨bf,2,none⟩ = some (.slice af l capf) ∧ w'.cell? ⟨vb,t,none⟩ = some (.int .i64 (g : Int))) := fun w' h => ⟨cnow h x0,cnow h x1,cnow h x2,cnow h y0,cnow h y1,cnow h y2,cnow h v0⟩
       refine zFA (fun w' => w'.cell? ⟨bp,0,none⟩ = some (.int .i64 (r : Int)) ∧ w'.cell? ⟨bp,1,none⟩ = some (.int .i64 (c : Int)) ∧ w'.cell? ⟨bp,2,none⟩ = some (.slice a l cap) ∧ w'.cell? ⟨bf,0,none⟩ = some (.int .i64 (r : Int)) ∧ w'.cell? ⟨bf,1,none⟩ = some (.int .i64 (c : Int)) ∧ w'.cell? ⟨bf,2,none⟩ = some (.slice af l capf) ∧ w'.cell? ⟨vb,t,none⟩ = some (.int .i64 (g : Int))) 17 (by kernel_rfl) ?_;obtain ⟨D41,hD⟩ : ∃ D41,wr.drew = D41 := ⟨_,rfl⟩
       have GB : Hid (Below wr.heap.size wr D41) := by unfold Hid;rw [← hD];exact (Below.refl _ _).drew
       rw [hD];clear hD;have GZ : Hid (wr.heap.size ≤ D41.heap.size) := GB.out.size;refine zDA [(0,(.agg #[.int .i64 (r : Int),.int .i64 (c : Int),.slice a l cap])),(1,(.int .i64 (i : Int))),(2,(.slice (some ⟨vb,0,none⟩) pl vc)),(3,(.int .i64 (t : Int))),(4,(.pointer (some ⟨vb,t,none⟩))),(5,(.int .i64 (g : Int))),(7,(.agg #[.int .i64 (r : Int),.int .i64 (c : Int),.slice af l capf])),(8,(.int .i64 (t : Int))),(9,(.int .i64 (j : Int)))] 9 ?_ (KB.out _ GB.out) ?_
       ·simp only [zJA,gA9,g09,g19,Act.put,sI9,s09,s19]
        (repeat' (first | exact trivial | refine And.intro (Or.inl ⟨by rfl,?_⟩) ?_)) <;> (intro w hSw;(try dsimp only at hSw);go_simp)
       simp only [actV,gA9,g09,g19,Act.put,sI9,s09,s19];refine zRA (i := 6) (j := 15) (oi := ⟨some 41,.call { callee := .value (.func 30),args := #[.tmp 35,.tmp 36,.tmp 40],argTypes := #[24,3,3] },47, "outright.go:75",#[⟨0,.data⟩,⟨1,.data⟩,⟨5,.data⟩],none⟩) (oj := ⟨some 11,.alloc 47,0, "outright.go:75",#[],none⟩) (by kernel_rfl) rfl rfl (fun K hK => ?_) (fun K hK => ?_)
       ·skip
        go_simp;go_at_call 30;refine (HA1.out GB.out).mono ?_;rintro e w42 ⟨n1,a1,l1,c1,n2,a2,l2,c2,rfl,hz1,hz2,b⟩;have lz42 := (show Below _ _ _ from b).size;replace GB := hid (zAA GB.out b);have ZP := hid (And.intro hz1 hz2);clear hz1 hz2;replace GZ : Hid (wr.heap.size ≤ w42.heap.size) := GB.out.size;clear b;refine hK.out _ _ (fun _ => KB.out _ GB.out) ?_;clear hK;refine zRA (i := 10) (j := 15) (oi := ⟨some 45,.call { callee := .value (.func 30),args := #[.tmp 42,.tmp 43,.tmp 44],argTypes := #[24,3,3] },47, "outright.go:75",#[⟨7,.data⟩,⟨8,.data⟩,⟨9,.data⟩,⟨6,.chain⟩],none⟩) (oj := ⟨some 11,.alloc 47,0, "outright.go:75",#[],none⟩) (by kernel_rfl) rfl rfl (fun K hK => ?_) (fun K hK => ?_)
        ·skip
         go_simp;go_at_call 30;refine (HA2.out GB.out).mono ?_;rintro e w43 ⟨n3,a3,l3,c3,n4,a4,l4,c4,rfl,hz1,hz2,b⟩;have lz43 := (show Below _ _ _ from b).size;replace GB := hid (zAA GB.out b);have ZR := hid (And.intro hz1 hz2);replace ZP := hid (⟨ZP.out.1.now b,ZP.out.2.now b⟩ : _ ∧ _);clear hz1 hz2;replace GZ : Hid (wr.heap.size ≤ w43.heap.size) := GB.out.size;clear b;refine hK.out _ _ (fun _ => KB.out _ GB.out) ?_;clear hK;refine zRA (i := 11) (j := 15) (oi := ⟨some 46,.call { callee := .value (.func 32),args := #[.tmp 41,.tmp 45],argTypes := #[47,47] },74, "outright.go:75",#[⟨6,.data⟩,⟨10,.data⟩,⟨10,.chain⟩],none⟩) (oj := ⟨some 11,.alloc 47,0, "outright.go:75",#[],none⟩) (by kernel_rfl) rfl rfl (fun K hK => ?_) (fun K hK => ?_)
         ·skip
          go_simp;go_at_call 32;refine (zUG ZP.out.1 ZP.out.2 ZR.out.1 ZR.out.2 (by omega) HDD.out).mono ?_;rintro e w44 ⟨r0,r1,r2,r3,rfl,hm1,hm2,b⟩;have lz44 := (show Below _ _ _ from b).size;replace GB := hid (zAA GB.out b);obtain ⟨m1,o1,p1,q1,rfl,rfl⟩ : ∃ m1 o1 p1 q1,r0 = .bool m1 ∧ r1 = .slice o1 p1 q1 := hm1.zi.pts17;obtain ⟨m2,o2,p2,q2,rfl,rfl⟩ : ∃ m2 o2 p2 q2,r2 = .bool m2 ∧ r3 = .slice o2 p2 q2 := hm2.zi.pts17;rw [HXV.out] at hm1 hm2;have ZX := hid (And.intro (Zm.mono hm1 (Nat.zero_le _)) (Zm.mono hm2 (Nat.zero_le _)));clear hm1 hm2 ZP ZR;replace GZ : Hid (wr.heap.size ≤ w44.heap.size) := GB.out.size;clear b;refine hK.out _ _ (fun _ => KB.out _ GB.out) ?_;clear hK;refine zDA [(12,(.tuple #[(.agg #[.bool m1,.slice o1 p1 q1,.bool m2,.slice o2 p2 q2]),(.int .i64 0)])),(13,(.agg #[.bool m1,.slice o1 p1 q1,.bool m2,.slice o2 p2 q2])),(14,(.int .i64 0))] 3 ?_ (KB.out _ GB.out) ?_
          ·simp only [zJA,gA9,g09,g19,Act.put,sI9,s09,s19]
           (repeat' (first | exact trivial | refine And.intro (Or.inl ⟨by rfl,?_⟩) ?_)) <;> (intro w hSw;(try dsimp only at hSw);go_simp)
          simp only [actV,gA9,g09,g19,Act.put,sI9,s09,s19];refine zBA (i := 15) (o := ⟨some 11,.alloc 47,0, "outright.go:75",#[],none⟩) (by kernel_rfl) rfl (fun K hK => ?_);go_simp;obtain ⟨V45,hW⟩ : ∃ V45,w44.alloc (.cells #[.bool false,.slice none 0 0,.bool false,.slice none 0 0] 47) = V45 := ⟨_,rfl⟩
          obtain ⟨b,sz45⟩ := alo1 w44 (.cells #[.bool false,.slice none 0 0,.bool false,.slice none 0 0] 47);rw [hW] at b sz45;replace GB := hid (zAA GB.out b);have DX : Hid (Cel V45 w44.heap.size 47 [.bool false,.slice none 0 0,.bool false,.slice none 0 0]) := by unfold Hid;rw [← hW];exact Cel.new w44 _ _
          have HX9 : Hid (wr.heap.size ≤ w44.heap.size) := GZ.out;clear sz45
          try replace ZP := hid (⟨ZP.out.1.now b,ZP.out.2.now b⟩ : _ ∧ _)
          try replace ZR := hid (⟨ZR.out.1.now b,ZR.out.2.now b⟩ : _ ∧ _)
          try replace ZX := hid (⟨ZX.out.1.now b,ZX.out.2.now b⟩ : _ ∧ _)
          replace GZ : Hid (wr.heap.size ≤ V45.heap.size) := GB.out.size;rw [hW];clear hW b;refine hK.out _ _ (fun _ => KB.out _ GB.out) ?_;clear hK
          try simp only [Act.put]
          refine zBA (i := 16) (o := ⟨none,.store 47 (.tmp 11) (.tmp 47),0, "outright.go:75",#[⟨15,.data⟩,⟨13,.data⟩,⟨11,.chain⟩,⟨0,.phase⟩,⟨1,.phase⟩,⟨2,.phase⟩,⟨3,.phase⟩,⟨4,.phase⟩,⟨5,.phase⟩,⟨6,.phase⟩,⟨7,.phase⟩,⟨8,.phase⟩,⟨9,.phase⟩,⟨10,.phase⟩,⟨11,.phase⟩,⟨12,.phase⟩,⟨13,.phase⟩,⟨14,.textOnly .lateStores⟩,⟨15,.phase⟩],none⟩) (by kernel_rfl) rfl (fun K hK => ?_);have h0 := DX.out.at (i := 0) rfl;have k0 := DX.out.fz 0;have h1 := DX.out.at (i := 1) rfl;have k1 := DX.out.fz 1;have h2 := DX.out.at (i := 2) rfl;have k2 := DX.out.fz 2;have h3 := DX.out.at (i := 3) rfl;have k3 := DX.out.fz 3;go_simp;clear h0 k0 h1 k1 h2 k2 h3 k3;obtain ⟨V46,hW⟩ : ∃ V46,((((V45.setCell ⟨w44.heap.size,0,none⟩ (.bool m1)).setCell ⟨w44.heap.size,1,none⟩ (.slice o1 p1 q1)).setCell ⟨w44.heap.size,2,none⟩ (.bool m2)).setCell ⟨w44.heap.size,3,none⟩ (.slice o2 p2 q2)) = V46 := ⟨_,rfl⟩
          have BX : Below wr.heap.size wr V46 := by rw [← hW];exact bset (bset (bset (bset GB.out HX9.out) HX9.out) HX9.out) HX9.out
          have CX : Hid (Cel V46 w44.heap.size 47 [.bool m1,.slice o1 p1 q1,.bool m2,.slice o2 p2 q2]) := by unfold Hid;rw [← hW];exact DX.out.put4 _ _ _ _
          have J2 := hid (J.out.now BX);have SB2 := hid (SB.out.now BX);have ZX2 : Hid (Zm 0 V46 (.agg #[.bool m1,.slice o1 p1 q1]) (qfr c P Q i (pv.getD t 0) * R (t * c + j)).num (k + k) ∧ Zm 0 V46 (.agg #[.bool m2,.slice o2 p2 q2]) ((qfr c P Q i (pv.getD t 0) * R (t * c + j)).den : Int) (k + k)) := by
           have ty : Ty 47 V45 V46 := by rw [← hW];exact (((Ty.set DX.out).trans (Ty.set (DX.out.set _ _))).trans (Ty.set ((DX.out.set _ _).set _ _))).trans (Ty.set (((DX.out.set _ _).set _ _).set _ _))
           exact ⟨ZX.out.1.ty ty (by decide),ZX.out.2.ty ty (by decide)⟩
          have HXN : Hid (w44.heap.size ≠ bs) := by unfold Hid;obtain ⟨_,_,_,_,_,_,_,_,h1,_⟩ := SB.out;have := h1.blk;have := HX9.out;omega
          replace GB := hid BX;clear BX ZX;rw [hW];clear hW;refine hK.out _ _ (fun _ => KB.out _ GB.out) ?_;clear hK
          try simp only [Act.put]
          refine zBA (i := 17) (o := ⟨some 12,.assign (.tmp 48),27, "outright.go:75",#[⟨14,.data⟩,⟨16,.chain⟩,⟨0,.phase⟩,⟨1,.phase⟩,⟨2,.phase⟩,⟨3,.phase⟩,⟨4,.phase⟩,⟨5,.phase⟩,⟨6,.phase⟩,⟨7,.phase⟩,⟨8,.phase⟩,⟨9,.phase⟩,⟨10,.phase⟩,⟨11,.phase⟩,⟨12,.phase⟩,⟨13,.phase⟩,⟨14,.phase⟩,⟨15,.phase⟩,⟨16,.phase⟩],none⟩) (by kernel_rfl) rfl (fun K hK => ?_);go_simp;refine hK.out _ _ (fun h => absurd h (by decide)) ?_;clear hK
          try simp only [Act.put]
          refine zEA (by kernel_rfl) ?_ _;clear GB KB GZ DX J SB x0 x1 x2 y0 y1 y2 v0 HA1 HA2 HX9;obtain ⟨bx,hbx⟩ : ∃ bx,w44.heap.size = bx := ⟨_,rfl⟩
          rw [hbx] at CX HXN ⊢;clear hbx;obtain ⟨u1,d1,f1,g1,u2,d2,f2,g2,C1,Z1,Z2⟩ := SB2.out;have CB := hid C1;have HSZ : Hid (szN k t ≤ 134226113) := by
           unfold Hid szN;have : t * (2 * k + 1) ≤ 64 * 2097283 := Nat.mul_le_mul (by omega) (by omega);omega
          obtain ⟨s,hs⟩ : ∃ s,psm c P Q R pv i j t = s := ⟨_,rfl⟩
          obtain ⟨x,hx⟩ : ∃ x,qfr c P Q i (pv.getD t 0) * R (t * c + j) = x := ⟨_,rfl⟩
          rw [hs] at Z1 Z2;rw [hx] at ZX2;have FIT := hid (zcE Z1.zi.lt (by have := Z2.zi.lt;simpa using this) ZX2.out.1.zi.lt (by have := ZX2.out.2.zi.lt;simpa using this));have HPS : Hid (psm c P Q R pv i j (t + 1) = s + x) := by unfold Hid;rw [← hs,← hx];rfl
          have HADD := hid (zWG (Z1.more (show szN k t ≤ 134226113 from HSZ.out)).zi (Z2.more (show szN k t ≤ 134226113 from HSZ.out)).zi (ZX2.out.1.more (show k + k ≤ 134226113 by omega)).zi (ZX2.out.2.more (show k + k ≤ 134226113 by omega)).zi (by omega) (Int.mul_ne_zero (by have := s.den_pos;omega) (by have := x.den_pos;omega)));have t0 := C1.at (i := 0) rfl;have t1 := C1.at (i := 1) rfl;have t2 := C1.at (i := 2) rfl;have t3 := C1.at (i := 3) rfl;have r0 := CX.out.at (i := 0) rfl;have r1 := CX.out.at (i := 1) rfl;have r2 := CX.out.at (i := 2) rfl;have r3 := CX.out.at (i := 3) rfl;clear C1 Z1 Z2 SB2 ZX2 hs hx;go_wp2_with fail;refine HADD.out.mono ?_;rintro e w9 ⟨k0,k1,k2,k3,rfl,hm1,hm2,b9⟩;obtain ⟨m3,o3,p3,q3,rfl,rfl⟩ : ∃ m3 o3 p3 q3,k0 = .bool m3 ∧ k1 = .slice o3 p3 q3 := hm1.zi.pts17;obtain ⟨m4,o4,p4,q4,rfl,rfl⟩ : ∃ m4 o4 p4 q4,k2 = .bool m4 ∧ k3 = .slice o4 p4 q4 := hm2.zi.pts17;rw [FIT.out.1] at hm1 hm2;have D9 := CB.out.step b9;have J9 := J2.out.now b9;obtain ⟨V9,hV9⟩ : ∃ V9,(((w9.setCell ⟨bs,0,none⟩ (.bool m3)).setCell ⟨bs,1,none⟩ (.slice o3 p3 q3)).setCell ⟨bs,2,none⟩ (.bool m4)).setCell ⟨bs,3,none⟩ (.slice o4 p4 q4) = V9 := ⟨_,rfl⟩
          have HN1 : Hid (∃ t' : Nat,Value.int .i64 ((t + 1 : Nat) : Int) = .int .i64 (t' : Int) ∧ t' ≤ pl ∧ pl - (t + 1) = pl - t' ∧ SpJ w bp bf r c a l cap af capf V9 ∧ SpB V9 bs (psm c P Q R pv i j t') (szN k t')) := by
           have ty : Ty 47 w9 V9 := by rw [← hV9];exact (((Ty.set D9).trans (Ty.set (D9.set _ _))).trans (Ty.set ((D9.set _ _).set _ _))).trans (Ty.set (((D9.set _ _).set _ _).set _ _))
           have bz : Below w.heap.size w9 V9 := by rw [← hV9];exact bset (bset (bset (bset (Below.refl _ _) HB0.out.1) HB0.out.1) HB0.out.1) HB0.out.1
           refine ⟨t + 1,rfl,by omega,rfl,⟨J9.p.ty13 ty (by decide),J9.f.ty13 ty (by decide),J9.b.trans bz⟩,?_⟩
           ·rw [HPS.out]
            have ek : szN k (t + 1) = szN k t + (k + k) + 1 := by unfold szN;rw [Nat.succ_mul];omega
            refine ⟨m3,o3,p3,q3,m4,o4,p4,q4,by rw [← hV9];exact D9.put4 _ _ _ _,?_,?_⟩
            ·rw [ek];exact ((Zm.mono hm1 (Nat.zero_le _)).fit FIT.out.2.1).ty ty (by decide)
            ·rw [ek];exact ((Zm.mono hm2 (Nat.zero_le _)).fit (by simpa using FIT.out.2.2)).ty ty (by decide)
          have q0 := D9.at (i := 0) rfl;have q1' := D9.at (i := 1) rfl;have q2' := D9.at (i := 2) rfl;have q3' := D9.at (i := 3) rfl;have z0 := D9.fz 0;have z1 := D9.fz 1;have z2 := D9.fz 2;have z3 := D9.fz 3;have EV9 := hid hV9;clear HADD t0 t1 t2 t3 r0 r1 r2 r3 hm1 hm2 b9 D9 J9 hV9 FIT HPS J2 CB CX;go_wp2_with fail;rw [EV9.out];go_roundg (pl - (t + 1))
          case rel => exact HN1.out
          case measure => exact HMT.out
         ·skip
          go_simp;obtain ⟨V47,hW⟩ : ∃ V47,w43.alloc (.cells #[.bool false,.slice none 0 0,.bool false,.slice none 0 0] 47) = V47 := ⟨_,rfl⟩
          obtain ⟨b,sz47⟩ := alo1 w43 (.cells #[.bool false,.slice none 0 0,.bool false,.slice none 0 0] 47);rw [hW] at b sz47;replace GB := hid (zAA GB.out b);have DX : Hid (Cel V47 w43.heap.size 47 [.bool false,.slice none 0 0,.bool false,.slice none 0 0]) := by unfold Hid;rw [← hW];exact Cel.new w43 _ _
          have HX9 : Hid (wr.heap.size ≤ w43.heap.size) := GZ.out;clear sz47
          try replace ZP := hid (⟨ZP.out.1.now b,ZP.out.2.now b⟩ : _ ∧ _)
          try replace ZR := hid (⟨ZR.out.1.now b,ZR.out.2.now b⟩ : _ ∧ _)
          try replace ZX := hid (⟨ZX.out.1.now b,ZX.out.2.now b⟩ : _ ∧ _)
          replace GZ : Hid (wr.heap.size ≤ V47.heap.size) := GB.out.size;rw [hW];clear hW b;refine hK.out _ _ (fun _ => KB.out _ GB.out) ?_;clear hK
          try simp only [Act.put]
          refine zBA (i := 11) (o := ⟨some 46,.call { callee := .value (.func 32),args := #[.tmp 41,.tmp 45],argTypes := #[47,47] },74, "outright.go:75",#[⟨6,.data⟩,⟨10,.data⟩,⟨10,.chain⟩],none⟩) (by kernel_rfl) rfl (fun K hK => ?_);go_simp;go_at_call 32;refine (zUG ZP.out.1 ZP.out.2 ZR.out.1 ZR.out.2 (by omega) HDD.out).mono ?_;rintro e w48 ⟨r0,r1,r2,r3,rfl,hm1,hm2,b⟩;have lz48 := (show Below _ _ _ from b).size;replace GB := hid (zAA GB.out b);obtain ⟨m1,o1,p1,q1,rfl,rfl⟩ : ∃ m1 o1 p1 q1,r0 = .bool m1 ∧ r1 = .slice o1 p1 q1 := hm1.zi.pts17;obtain ⟨m2,o2,p2,q2,rfl,rfl⟩ : ∃ m2 o2 p2 q2,r2 = .bool m2 ∧ r3 = .slice o2 p2 q2 := hm2.zi.pts17;rw [HXV.out] at hm1 hm2;have ZX := hid (And.intro (Zm.mono hm1 (Nat.zero_le _)) (Zm.mono hm2 (Nat.zero_le _)));clear hm1 hm2 ZP ZR;replace GZ : Hid (wr.heap.size ≤ w48.heap.size) := GB.out.size;replace DX := hid (DX.out.step b);clear b;refine hK.out _ _ (fun _ => KB.out _ GB.out) ?_;clear hK;refine zDA [(12,(.tuple #[(.agg #[.bool m1,.slice o1 p1 q1,.bool m2,.slice o2 p2 q2]),(.int .i64 0)])),(13,(.agg #[.bool m1,.slice o1 p1 q1,.bool m2,.slice o2 p2 q2])),(14,(.int .i64 0))] 3 ?_ (KB.out _ GB.out) ?_
          ·simp only [zJA,gA9,g09,g19,Act.put,sI9,s09,s19]
           (repeat' (first | exact trivial | refine And.intro (Or.inl ⟨by rfl,?_⟩) ?_)) <;> (intro w hSw;(try dsimp only at hSw);go_simp)
          simp only [actV,gA9,g09,g19,Act.put,sI9,s09,s19];refine zBA (i := 16) (o := ⟨none,.store 47 (.tmp 11) (.tmp 47),0, "outright.go:75",#[⟨15,.data⟩,⟨13,.data⟩,⟨11,.chain⟩,⟨0,.phase⟩,⟨1,.phase⟩,⟨2,.phase⟩,⟨3,.phase⟩,⟨4,.phase⟩,⟨5,.phase⟩,⟨6,.phase⟩,⟨7,.phase⟩,⟨8,.phase⟩,⟨9,.phase⟩,⟨10,.phase⟩,⟨11,.phase⟩,⟨12,.phase⟩,⟨13,.phase⟩,⟨14,.textOnly .lateStores⟩,⟨15,.phase⟩],none⟩) (by kernel_rfl) rfl (fun K hK => ?_);have h0 := DX.out.at (i := 0) rfl;have k0 := DX.out.fz 0;have h1 := DX.out.at (i := 1) rfl;have k1 := DX.out.fz 1;have h2 := DX.out.at (i := 2) rfl;have k2 := DX.out.fz 2;have h3 := DX.out.at (i := 3) rfl;have k3 := DX.out.fz 3;go_simp;clear h0 k0 h1 k1 h2 k2 h3 k3;obtain ⟨V49,hW⟩ : ∃ V49,((((w48.setCell ⟨w43.heap.size,0,none⟩ (.bool m1)).setCell ⟨w43.heap.size,1,none⟩ (.slice o1 p1 q1)).setCell ⟨w43.heap.size,2,none⟩ (.bool m2)).setCell ⟨w43.heap.size,3,none⟩ (.slice o2 p2 q2)) = V49 := ⟨_,rfl⟩
          have BX : Below wr.heap.size wr V49 := by rw [← hW];exact bset (bset (bset (bset GB.out HX9.out) HX9.out) HX9.out) HX9.out
          have CX : Hid (Cel V49 w43.heap.size 47 [.bool m1,.slice o1 p1 q1,.bool m2,.slice o2 p2 q2]) := by unfold Hid;rw [← hW];exact DX.out.put4 _ _ _ _
          have J2 := hid (J.out.now BX);have SB2 := hid (SB.out.now BX);have ZX2 : Hid (Zm 0 V49 (.agg #[.bool m1,.slice o1 p1 q1]) (qfr c P Q i (pv.getD t 0) * R (t * c + j)).num (k + k) ∧ Zm 0 V49 (.agg #[.bool m2,.slice o2 p2 q2]) ((qfr c P Q i (pv.getD t 0) * R (t * c + j)).den : Int) (k + k)) := by
           have ty : Ty 47 w48 V49 := by rw [← hW];exact (((Ty.set DX.out).trans (Ty.set (DX.out.set _ _))).trans (Ty.set ((DX.out.set _ _).set _ _))).trans (Ty.set (((DX.out.set _ _).set _ _).set _ _))
           exact ⟨ZX.out.1.ty ty (by decide),ZX.out.2.ty ty (by decide)⟩
          have HXN : Hid (w43.heap.size ≠ bs) := by unfold Hid;obtain ⟨_,_,_,_,_,_,_,_,h1,_⟩ := SB.out;have := h1.blk;have := HX9.out;omega
          replace GB := hid BX;clear BX ZX;rw [hW];clear hW;refine hK.out _ _ (fun _ => KB.out _ GB.out) ?_;clear hK
          try simp only [Act.put]
          refine zBA (i := 17) (o := ⟨some 12,.assign (.tmp 48),27, "outright.go:75",#[⟨14,.data⟩,⟨16,.chain⟩,⟨0,.phase⟩,⟨1,.phase⟩,⟨2,.phase⟩,⟨3,.phase⟩,⟨4,.phase⟩,⟨5,.phase⟩,⟨6,.phase⟩,⟨7,.phase⟩,⟨8,.phase⟩,⟨9,.phase⟩,⟨10,.phase⟩,⟨11,.phase⟩,⟨12,.phase⟩,⟨13,.phase⟩,⟨14,.phase⟩,⟨15,.phase⟩,⟨16,.phase⟩],none⟩) (by kernel_rfl) rfl (fun K hK => ?_);go_simp;refine hK.out _ _ (fun h => absurd h (by decide)) ?_;clear hK
          try simp only [Act.put]
          refine zEA (by kernel_rfl) ?_ _;clear GB KB GZ DX J SB x0 x1 x2 y0 y1 y2 v0 HA1 HA2 HX9;obtain ⟨bx,hbx⟩ : ∃ bx,w43.heap.size = bx := ⟨_,rfl⟩
          rw [hbx] at CX HXN ⊢;clear hbx;obtain ⟨u1,d1,f1,g1,u2,d2,f2,g2,C1,Z1,Z2⟩ := SB2.out;have CB := hid C1;have HSZ : Hid (szN k t ≤ 134226113) := by
           unfold Hid szN;have : t * (2 * k + 1) ≤ 64 * 2097283 := Nat.mul_le_mul (by omega) (by omega);omega
          obtain ⟨s,hs⟩ : ∃ s,psm c P Q R pv i j t = s := ⟨_,rfl⟩
          obtain ⟨x,hx⟩ : ∃ x,qfr c P Q i (pv.getD t 0) * R (t * c + j) = x := ⟨_,rfl⟩
          rw [hs] at Z1 Z2;rw [hx] at ZX2;have FIT := hid (zcE Z1.zi.lt (by have := Z2.zi.lt;simpa using this) ZX2.out.1.zi.lt (by have := ZX2.out.2.zi.lt;simpa using this));have HPS : Hid (psm c P Q R pv i j (t + 1) = s + x) := by unfold Hid;rw [← hs,← hx];rfl
          have HADD := hid (zWG (Z1.more (show szN k t ≤ 134226113 from HSZ.out)).zi (Z2.more (show szN k t ≤ 134226113 from HSZ.out)).zi (ZX2.out.1.more (show k + k ≤ 134226113 by omega)).zi (ZX2.out.2.more (show k + k ≤ 134226113 by omega)).zi (by omega) (Int.mul_ne_zero (by have := s.den_pos;omega) (by have := x.den_pos;omega)));have t0 := C1.at (i := 0) rfl;have t1 := C1.at (i := 1) rfl;have t2 := C1.at (i := 2) rfl;have t3 := C1.at (i := 3) rfl;have r0 := CX.out.at (i := 0) rfl;have r1 := CX.out.at (i := 1) rfl;have r2 := CX.out.at (i := 2) rfl;have r3 := CX.out.at (i := 3) rfl;clear C1 Z1 Z2 SB2 ZX2 hs hx;go_wp2_with fail;refine HADD.out.mono ?_;rintro e w9 ⟨k0,k1,k2,k3,rfl,hm1,hm2,b9⟩;obtain ⟨m3,o3,p3,q3,rfl,rfl⟩ : ∃ m3 o3 p3 q3,k0 = .bool m3 ∧ k1 = .slice o3 p3 q3 := hm1.zi.pts17;obtain ⟨m4,o4,p4,q4,rfl,rfl⟩ : ∃ m4 o4 p4 q4,k2 = .bool m4 ∧ k3 = .slice o4 p4 q4 := hm2.zi.pts17;rw [FIT.out.1] at hm1 hm2;have D9 := CB.out.step b9;have J9 := J2.out.now b9;obtain ⟨V9,hV9⟩ : ∃ V9,(((w9.setCell ⟨bs,0,none⟩ (.bool m3)).setCell ⟨bs,1,none⟩ (.slice o3 p3 q3)).setCell ⟨bs,2,none⟩ (.bool m4)).setCell ⟨bs,3,none⟩ (.slice o4 p4 q4) = V9 := ⟨_,rfl⟩
          have HN1 : Hid (∃ t' : Nat,Value.int .i64 ((t + 1 : Nat) : Int) = .int .i64 (t' : Int) ∧ t' ≤ pl ∧ pl - (t + 1) = pl - t' ∧ SpJ w bp bf r c a l cap af capf V9 ∧ SpB V9 bs (psm c P Q R pv i j t') (szN k t')) := by
           have ty : Ty 47 w9 V9 := by rw [← hV9];exact (((Ty.set D9).trans (Ty.set (D9.set _ _))).trans (Ty.set ((D9.set _ _).set _ _))).trans (Ty.set (((D9.set _ _).set _ _).set _ _))
           have bz : Below w.heap.size w9 V9 := by rw [← hV9];exact bset (bset (bset (bset (Below.refl _ _) HB0.out.1) HB0.out.1) HB0.out.1) HB0.out.1
           refine ⟨t + 1,rfl,by omega,rfl,⟨J9.p.ty13 ty (by decide),J9.f.ty13 ty (by decide),J9.b.trans bz⟩,?_⟩
           ·rw [HPS.out]
            have ek : szN k (t + 1) = szN k t + (k + k) + 1 := by unfold szN;rw [Nat.succ_mul];omega
            refine ⟨m3,o3,p3,q3,m4,o4,p4,q4,by rw [← hV9];exact D9.put4 _ _ _ _,?_,?_⟩
            ·rw [ek];exact ((Zm.mono hm1 (Nat.zero_le _)).fit FIT.out.2.1).ty ty (by decide)
            ·rw [ek];exact ((Zm.mono hm2 (Nat.zero_le _)).fit (by simpa using FIT.out.2.2)).ty ty (by decide)
          have q0 := D9.at (i := 0) rfl;have q1' := D9.at (i := 1) rfl;have q2' := D9.at (i := 2) rfl;have q3' := D9.at (i := 3) rfl;have z0 := D9.fz 0;have z1 := D9.fz 1;have z2 := D9.fz 2;have z3 := D9.fz 3;have EV9 := hid hV9;clear HADD t0 t1 t2 t3 r0 r1 r2 r3 hm1 hm2 b9 D9 J9 hV9 FIT HPS J2 CB CX;go_wp2_with fail;rw [EV9.out];go_roundg (pl - (t + 1))
          case rel => exact HN1.out
          case measure => exact HMT.out
        ·skip
         go_simp;obtain ⟨V50,hW⟩ : ∃ V50,w42.alloc (.cells #[.bool false,.slice none 0 0,.bool false,.slice none 0 0] 47) = V50 := ⟨_,rfl⟩
         obtain ⟨b,sz50⟩ := alo1 w42 (.cells #[.bool false,.slice none 0 0,.bool false,.slice none 0 0] 47);rw [hW] at b sz50;replace GB := hid (zAA GB.out b);have DX : Hid (Cel V50 w42.heap.size 47 [.bool false,.slice none 0 0,.bool false,.slice none 0 0]) := by unfold Hid;rw [← hW];exact Cel.new w42 _ _
         have HX9 : Hid (wr.heap.size ≤ w42.heap.size) := GZ.out;clear sz50
         try replace ZP := hid (⟨ZP.out.1.now b,ZP.out.2.now b⟩ : _ ∧ _)
         try replace ZR := hid (⟨ZR.out.1.now b,ZR.out.2.now b⟩ : _ ∧ _)
         try replace ZX := hid (⟨ZX.out.1.now b,ZX.out.2.now b⟩ : _ ∧ _)
         replace GZ : Hid (wr.heap.size ≤ V50.heap.size) := GB.out.size;rw [hW];clear hW b;refine hK.out _ _ (fun _ => KB.out _ GB.out) ?_;clear hK
         try simp only [Act.put]
         refine zBA (i := 10) (o := ⟨some 45,.call { callee := .value (.func 30),args := #[.tmp 42,.tmp 43,.tmp 44],argTypes := #[24,3,3] },47, "outright.go:75",#[⟨7,.data⟩,⟨8,.data⟩,⟨9,.data⟩,⟨6,.chain⟩],none⟩) (by kernel_rfl) rfl (fun K hK => ?_);go_simp;go_at_call 30;refine (HA2.out GB.out).mono ?_;rintro e w51 ⟨n3,a3,l3,c3,n4,a4,l4,c4,rfl,hz1,hz2,b⟩;have lz51 := (show Below _ _ _ from b).size;replace GB := hid (zAA GB.out b);have ZR := hid (And.intro hz1 hz2);replace ZP := hid (⟨ZP.out.1.now b,ZP.out.2.now b⟩ : _ ∧ _);clear hz1 hz2;replace GZ : Hid (wr.heap.size ≤ w51.heap.size) := GB.out.size;replace DX := hid (DX.out.step b);clear b;refine hK.out _ _ (fun _ => KB.out _ GB.out) ?_;clear hK;refine zBA (i := 11) (o := ⟨some 46,.call { callee := .value (.func 32),args := #[.tmp 41,.tmp 45],argTypes := #[47,47] },74, "outright.go:75",#[⟨6,.data⟩,⟨10,.data⟩,⟨10,.chain⟩],none⟩) (by kernel_rfl) rfl (fun K hK => ?_);go_simp;go_at_call 32;refine (zUG ZP.out.1 ZP.out.2 ZR.out.1 ZR.out.2 (by omega) HDD.out).mono ?_;rintro e w52 ⟨r0,r1,r2,r3,rfl,hm1,hm2,b⟩;have lz52 := (show Below _ _ _ from b).size;replace GB := hid (zAA GB.out b);obtain ⟨m1,o1,p1,q1,rfl,rfl⟩ : ∃ m1 o1 p1 q1,r0 = .bool m1 ∧ r1 = .slice o1 p1 q1 := hm1.zi.pts17;obtain ⟨m2,o2,p2,q2,rfl,rfl⟩ : ∃ m2 o2 p2 q2,r2 = .bool m2 ∧ r3 = .slice o2 p2 q2 := hm2.zi.pts17;rw [HXV.out] at hm1 hm2;have ZX := hid (And.intro (Zm.mono hm1 (Nat.zero_le _)) (Zm.mono hm2 (Nat.zero_le _)));clear hm1 hm2 ZP ZR;replace GZ : Hid (wr.heap.size ≤ w52.heap.size) := GB.out.size;replace DX := hid (DX.out.step b);clear b;refine hK.out _ _ (fun _ => KB.out _ GB.out) ?_;clear hK;refine zDA [(12,(.tuple #[(.agg #[.bool m1,.slice o1 p1 q1,.bool m2,.slice o2 p2 q2]),(.int .i64 0)])),(13,(.agg #[.bool m1,.slice o1 p1 q1,.bool m2,.slice o2 p2 q2])),(14,(.int .i64 0))] 3 ?_ (KB.out _ GB.out) ?_
         ·simp only [zJA,gA9,g09,g19,Act.put,sI9,s09,s19]
          (repeat' (first | exact trivial | refine And.intro (Or.inl ⟨by rfl,?_⟩) ?_)) <;> (intro w hSw;(try dsimp only at hSw);go_simp)
         simp only [actV,gA9,g09,g19,Act.put,sI9,s09,s19];refine zBA (i := 16) (o := ⟨none,.store 47 (.tmp 11) (.tmp 47),0, "outright.go:75",#[⟨15,.data⟩,⟨13,.data⟩,⟨11,.chain⟩,⟨0,.phase⟩,⟨1,.phase⟩,⟨2,.phase⟩,⟨3,.phase⟩,⟨4,.phase⟩,⟨5,.phase⟩,⟨6,.phase⟩,⟨7,.phase⟩,⟨8,.phase⟩,⟨9,.phase⟩,⟨10,.phase⟩,⟨11,.phase⟩,⟨12,.phase⟩,⟨13,.phase⟩,⟨14,.textOnly .lateStores⟩,⟨15,.phase⟩],none⟩) (by kernel_rfl) rfl (fun K hK => ?_);have h0 := DX.out.at (i := 0) rfl;have k0 := DX.out.fz 0;have h1 := DX.out.at (i := 1) rfl;have k1 := DX.out.fz 1;have h2 := DX.out.at (i := 2) rfl;have k2 := DX.out.fz 2;have h3 := DX.out.at (i := 3) rfl;have k3 := DX.out.fz 3;go_simp;clear h0 k0 h1 k1 h2 k2 h3 k3;obtain ⟨V53,hW⟩ : ∃ V53,((((w52.setCell ⟨w42.heap.size,0,none⟩ (.bool m1)).setCell ⟨w42.heap.size,1,none⟩ (.slice o1 p1 q1)).setCell ⟨w42.heap.size,2,none⟩ (.bool m2)).setCell ⟨w42.heap.size,3,none⟩ (.slice o2 p2 q2)) = V53 := ⟨_,rfl⟩
         have BX : Below wr.heap.size wr V53 := by rw [← hW];exact bset (bset (bset (bset GB.out HX9.out) HX9.out) HX9.out) HX9.out
         have CX : Hid (Cel V53 w42.heap.size 47 [.bool m1,.slice o1 p1 q1,.bool m2,.slice o2 p2 q2]) := by unfold Hid;rw [← hW];exact DX.out.put4 _ _ _ _
         have J2 := hid (J.out.now BX);have SB2 := hid (SB.out.now BX);have ZX2 : Hid (Zm 0 V53 (.agg #[.bool m1,.slice o1 p1 q1]) (qfr c P Q i (pv.getD t 0) * R (t * c + j)).num (k + k) ∧ Zm 0 V53 (.agg #[.bool m2,.slice o2 p2 q2]) ((qfr c P Q i (pv.getD t 0) * R (t * c + j)).den : Int) (k + k)) := by
          have ty : Ty 47 w52 V53 := by rw [← hW];exact (((Ty.set DX.out).trans (Ty.set (DX.out.set _ _))).trans (Ty.set ((DX.out.set _ _).set _ _))).trans (Ty.set (((DX.out.set _ _).set _ _).set _ _))
          exact ⟨ZX.out.1.ty ty (by decide),ZX.out.2.ty ty (by decide)⟩
         have HXN : Hid (w42.heap.size ≠ bs) := by unfold Hid;obtain ⟨_,_,_,_,_,_,_,_,h1,_⟩ := SB.out;have := h1.blk;have := HX9.out;omega
         replace GB := hid BX;clear BX ZX;rw [hW];clear hW;refine hK.out _ _ (fun _ => KB.out _ GB.out) ?_;clear hK
         try simp only [Act.put]
         refine zBA (i := 17) (o := ⟨some 12,.assign (.tmp 48),27, "outright.go:75",#[⟨14,.data⟩,⟨16,.chain⟩,⟨0,.phase⟩,⟨1,.phase⟩,⟨2,.phase⟩,⟨3,.phase⟩,⟨4,.phase⟩,⟨5,.phase⟩,⟨6,.phase⟩,⟨7,.phase⟩,⟨8,.phase⟩,⟨9,.phase⟩,⟨10,.phase⟩,⟨11,.phase⟩,⟨12,.phase⟩,⟨13,.phase⟩,⟨14,.phase⟩,⟨15,.phase⟩,⟨16,.phase⟩],none⟩) (by kernel_rfl) rfl (fun K hK => ?_);go_simp;refine hK.out _ _ (fun h => absurd h (by decide)) ?_;clear hK
         try simp only [Act.put]
         refine zEA (by kernel_rfl) ?_ _;clear GB KB GZ DX J SB x0 x1 x2 y0 y1 y2 v0 HA1 HA2 HX9;obtain ⟨bx,hbx⟩ : ∃ bx,w42.heap.size = bx := ⟨_,rfl⟩
         rw [hbx] at CX HXN ⊢;clear hbx;obtain ⟨u1,d1,f1,g1,u2,d2,f2,g2,C1,Z1,Z2⟩ := SB2.out;have CB := hid C1;have HSZ : Hid (szN k t ≤ 134226113) := by
          unfold Hid szN;have : t * (2 * k + 1) ≤ 64 * 2097283 := Nat.mul_le_mul (by omega) (by omega);omega
         obtain ⟨s,hs⟩ : ∃ s,psm c P Q R pv i j t = s := ⟨_,rfl⟩
         obtain ⟨x,hx⟩ : ∃ x,qfr c P Q i (pv.getD t 0) * R (t * c + j) = x := ⟨_,rfl⟩
         rw [hs] at Z1 Z2;rw [hx] at ZX2;have FIT := hid (zcE Z1.zi.lt (by have := Z2.zi.lt;simpa using this) ZX2.out.1.zi.lt (by have := ZX2.out.2.zi.lt;simpa using this));have HPS : Hid (psm c P Q R pv i j (t + 1) = s + x) := by unfold Hid;rw [← hs,← hx];rfl
         have HADD := hid (zWG (Z1.more (show szN k t ≤ 134226113 from HSZ.out)).zi (Z2.more (show szN k t ≤ 134226113 from HSZ.out)).zi (ZX2.out.1.more (show k + k ≤ 134226113 by omega)).zi (ZX2.out.2.more (show k + k ≤ 134226113 by omega)).zi (by omega) (Int.mul_ne_zero (by have := s.den_pos;omega) (by have := x.den_pos;omega)));have t0 := C1.at (i := 0) rfl;have t1 := C1.at (i := 1) rfl;have t2 := C1.at (i := 2) rfl;have t3 := C1.at (i := 3) rfl;have r0 := CX.out.at (i := 0) rfl;have r1 := CX.out.at (i := 1) rfl;have r2 := CX.out.at (i := 2) rfl;have r3 := CX.out.at (i := 3) rfl;clear C1 Z1 Z2 SB2 ZX2 hs hx;go_wp2_with fail;refine HADD.out.mono ?_;rintro e w9 ⟨k0,k1,k2,k3,rfl,hm1,hm2,b9⟩;obtain ⟨m3,o3,p3,q3,rfl,rfl⟩ : ∃ m3 o3 p3 q3,k0 = .bool m3 ∧ k1 = .slice o3 p3 q3 := hm1.zi.pts17;obtain ⟨m4,o4,p4,q4,rfl,rfl⟩ : ∃ m4 o4 p4 q4,k2 = .bool m4 ∧ k3 = .slice o4 p4 q4 := hm2.zi.pts17;rw [FIT.out.1] at hm1 hm2;have D9 := CB.out.step b9;have J9 := J2.out.now b9;obtain ⟨V9,hV9⟩ : ∃ V9,(((w9.setCell ⟨bs,0,none⟩ (.bool m3)).setCell ⟨bs,1,none⟩ (.slice o3 p3 q3)).setCell ⟨bs,2,none⟩ (.bool m4)).setCell ⟨bs,3,none⟩ (.slice o4 p4 q4) = V9 := ⟨_,rfl⟩
         have HN1 : Hid (∃ t' : Nat,Value.int .i64 ((t + 1 : Nat) : Int) = .int .i64 (t' : Int) ∧ t' ≤ pl ∧ pl - (t + 1) = pl - t' ∧ SpJ w bp bf r c a l cap af capf V9 ∧ SpB V9 bs (psm c P Q R pv i j t') (szN k t')) := by
          have ty : Ty 47 w9 V9 := by rw [← hV9];exact (((Ty.set D9).trans (Ty.set (D9.set _ _))).trans (Ty.set ((D9.set _ _).set _ _))).trans (Ty.set (((D9.set _ _).set _ _).set _ _))
          have bz : Below w.heap.size w9 V9 := by rw [← hV9];exact bset (bset (bset (bset (Below.refl _ _) HB0.out.1) HB0.out.1) HB0.out.1) HB0.out.1
          refine ⟨t + 1,rfl,by omega,rfl,⟨J9.p.ty13 ty (by decide),J9.f.ty13 ty (by decide),J9.b.trans bz⟩,?_⟩
          ·rw [HPS.out]
           have ek : szN k (t + 1) = szN k t + (k + k) + 1 := by unfold szN;rw [Nat.succ_mul];omega
           refine ⟨m3,o3,p3,q3,m4,o4,p4,q4,by rw [← hV9];exact D9.put4 _ _ _ _,?_,?_⟩
           ·rw [ek];exact ((Zm.mono hm1 (Nat.zero_le _)).fit FIT.out.2.1).ty ty (by decide)
           ·rw [ek];exact ((Zm.mono hm2 (Nat.zero_le _)).fit (by simpa using FIT.out.2.2)).ty ty (by decide)
         have q0 := D9.at (i := 0) rfl;have q1' := D9.at (i := 1) rfl;have q2' := D9.at (i := 2) rfl;have q3' := D9.at (i := 3) rfl;have z0 := D9.fz 0;have z1 := D9.fz 1;have z2 := D9.fz 2;have z3 := D9.fz 3;have EV9 := hid hV9;clear HADD t0 t1 t2 t3 r0 r1 r2 r3 hm1 hm2 b9 D9 J9 hV9 FIT HPS J2 CB CX;go_wp2_with fail;rw [EV9.out];go_roundg (pl - (t + 1))
         case rel => exact HN1.out
         case measure => exact HMT.out
       ·skip
        go_simp;obtain ⟨V54,hW⟩ : ∃ V54,D41.alloc (.cells #[.bool false,.slice none 0 0,.bool false,.slice none 0 0] 47) = V54 := ⟨_,rfl⟩
        obtain ⟨b,sz54⟩ := alo1 D41 (.cells #[.bool false,.slice none 0 0,.bool false,.slice none 0 0] 47);rw [hW] at b sz54;replace GB := hid (zAA GB.out b);have DX : Hid (Cel V54 D41.heap.size 47 [.bool false,.slice none 0 0,.bool false,.slice none 0 0]) := by unfold Hid;rw [← hW];exact Cel.new D41 _ _
        have HX9 : Hid (wr.heap.size ≤ D41.heap.size) := GZ.out;clear sz54
        try replace ZP := hid (⟨ZP.out.1.now b,ZP.out.2.now b⟩ : _ ∧ _)
        try replace ZR := hid (⟨ZR.out.1.now b,ZR.out.2.now b⟩ : _ ∧ _)
        try replace ZX := hid (⟨ZX.out.1.now b,ZX.out.2.now b⟩ : _ ∧ _)
        replace GZ : Hid (wr.heap.size ≤ V54.heap.size) := GB.out.size;rw [hW];clear hW b;refine hK.out _ _ (fun _ => KB.out _ GB.out) ?_;clear hK
        try simp only [Act.put]
        refine zBA (i := 6) (o := ⟨some 41,.call { callee := .value (.func 30),args := #[.tmp 35,.tmp 36,.tmp 40],argTypes := #[24,3,3] },47, "outright.go:75",#[⟨0,.data⟩,⟨1,.data⟩,⟨5,.data⟩],none⟩) (by kernel_rfl) rfl (fun K hK => ?_);go_simp;go_at_call 30;refine (HA1.out GB.out).mono ?_;rintro e w55 ⟨n1,a1,l1,c1,n2,a2,l2,c2,rfl,hz1,hz2,b⟩;have lz55 := (show Below _ _ _ from b).size;replace GB := hid (zAA GB.out b);have ZP := hid (And.intro hz1 hz2);clear hz1 hz2;replace GZ : Hid (wr.heap.size ≤ w55.heap.size) := GB.out.size;replace DX := hid (DX.out.step b);clear b;refine hK.out _ _ (fun _ => KB.out _ GB.out) ?_;clear hK;refine zBA (i := 10) (o := ⟨some 45,.call { callee := .value (.func 30),args := #[.tmp 42,.tmp 43,.tmp 44],argTypes := #[24,3,3] },47, "outright.go:75",#[⟨7,.data⟩,⟨8,.data⟩,⟨9,.data⟩,⟨6,.chain⟩],none⟩) (by kernel_rfl) rfl (fun K hK => ?_);go_simp;go_at_call 30;refine (HA2.out GB.out).mono ?_;rintro e w56 ⟨n3,a3,l3,c3,n4,a4,l4,c4,rfl,hz1,hz2,b⟩;have lz56 := (show Below _ _ _ from b).size;replace GB := hid (zAA GB.out b);have ZR := hid (And.intro hz1 hz2);replace ZP := hid (⟨ZP.out.1.now b,ZP.out.2.now b⟩ : _ ∧ _);clear hz1 hz2;replace GZ : Hid (wr.heap.size ≤ w56.heap.size) := GB.out.size;replace DX := hid (DX.out.step b);clear b;refine hK.out _ _ (fun _ => KB.out _ GB.out) ?_;clear hK;refine zBA (i := 11) (o := ⟨some 46,.call { callee := .value (.func 32),args := #[.tmp 41,.tmp 45],argTypes := #[47,47] },74, "outright.go:75",#[⟨6,.data⟩,⟨10,.data⟩,⟨10,.chain⟩],none⟩) (by kernel_rfl) rfl (fun K hK => ?_);go_simp;go_at_call 32;refine (zUG ZP.out.1 ZP.out.2 ZR.out.1 ZR.out.2 (by omega) HDD.out).mono ?_;rintro e w57 ⟨r0,r1,r2,r3,rfl,hm1,hm2,b⟩;have lz57 := (show Below _ _ _ from b).size;replace GB := hid (zAA GB.out b);obtain ⟨m1,o1,p1,q1,rfl,rfl⟩ : ∃ m1 o1 p1 q1,r0 = .bool m1 ∧ r1 = .slice o1 p1 q1 := hm1.zi.pts17;obtain ⟨m2,o2,p2,q2,rfl,rfl⟩ : ∃ m2 o2 p2 q2,r2 = .bool m2 ∧ r3 = .slice o2 p2 q2 := hm2.zi.pts17;rw [HXV.out] at hm1 hm2;have ZX := hid (And.intro (Zm.mono hm1 (Nat.zero_le _)) (Zm.mono hm2 (Nat.zero_le _)));clear hm1 hm2 ZP ZR;replace GZ : Hid (wr.heap.size ≤ w57.heap.size) := GB.out.size;replace DX := hid (DX.out.step b);clear b;refine hK.out _ _ (fun _ => KB.out _ GB.out) ?_;clear hK;refine zDA [(12,(.tuple #[(.agg #[.bool m1,.slice o1 p1 q1,.bool m2,.slice o2 p2 q2]),(.int .i64 0)])),(13,(.agg #[.bool m1,.slice o1 p1 q1,.bool m2,.slice o2 p2 q2])),(14,(.int .i64 0))] 3 ?_ (KB.out _ GB.out) ?_
        ·simp only [zJA,gA9,g09,g19,Act.put,sI9,s09,s19]
         (repeat' (first | exact trivial | refine And.intro (Or.inl ⟨by rfl,?_⟩) ?_)) <;> (intro w hSw;(try dsimp only at hSw);go_simp)
        simp only [actV,gA9,g09,g19,Act.put,sI9,s09,s19];refine zBA (i := 16) (o := ⟨none,.store 47 (.tmp 11) (.tmp 47),0, "outright.go:75",#[⟨15,.data⟩,⟨13,.data⟩,⟨11,.chain⟩,⟨0,.phase⟩,⟨1,.phase⟩,⟨2,.phase⟩,⟨3,.phase⟩,⟨4,.phase⟩,⟨5,.phase⟩,⟨6,.phase⟩,⟨7,.phase⟩,⟨8,.phase⟩,⟨9,.phase⟩,⟨10,.phase⟩,⟨11,.phase⟩,⟨12,.phase⟩,⟨13,.phase⟩,⟨14,.textOnly .lateStores⟩,⟨15,.phase⟩],none⟩) (by kernel_rfl) rfl (fun K hK => ?_);have h0 := DX.out.at (i := 0) rfl;have k0 := DX.out.fz 0;have h1 := DX.out.at (i := 1) rfl;have k1 := DX.out.fz 1;have h2 := DX.out.at (i := 2) rfl;have k2 := DX.out.fz 2;have h3 := DX.out.at (i := 3) rfl;have k3 := DX.out.fz 3;go_simp;clear h0 k0 h1 k1 h2 k2 h3 k3;obtain ⟨V58,hW⟩ : ∃ V58,((((w57.setCell ⟨D41.heap.size,0,none⟩ (.bool m1)).setCell ⟨D41.heap.size,1,none⟩ (.slice o1 p1 q1)).setCell ⟨D41.heap.size,2,none⟩ (.bool m2)).setCell ⟨D41.heap.size,3,none⟩ (.slice o2 p2 q2)) = V58 := ⟨_,rfl⟩
        have BX : Below wr.heap.size wr V58 := by rw [← hW];exact bset (bset (bset (bset GB.out HX9.out) HX9.out) HX9.out) HX9.out
        have CX : Hid (Cel V58 D41.heap.size 47 [.bool m1,.slice o1 p1 q1,.bool m2,.slice o2 p2 q2]) := by unfold Hid;rw [← hW];exact DX.out.put4 _ _ _ _
        have J2 := hid (J.out.now BX);have SB2 := hid (SB.out.now BX);have ZX2 : Hid (Zm 0 V58 (.agg #[.bool m1,.slice o1 p1 q1]) (qfr c P Q i (pv.getD t 0) * R (t * c + j)).num (k + k) ∧ Zm 0 V58 (.agg #[.bool m2,.slice o2 p2 q2]) ((qfr c P Q i (pv.getD t 0) * R (t * c + j)).den : Int) (k + k)) := by
         have ty : Ty 47 w57 V58 := by rw [← hW];exact (((Ty.set DX.out).trans (Ty.set (DX.out.set _ _))).trans (Ty.set ((DX.out.set _ _).set _ _))).trans (Ty.set (((DX.out.set _ _).set _ _).set _ _))
         exact ⟨ZX.out.1.ty ty (by decide),ZX.out.2.ty ty (by decide)⟩
        have HXN : Hid (D41.heap.size ≠ bs) := by unfold Hid;obtain ⟨_,_,_,_,_,_,_,_,h1,_⟩ := SB.out;have := h1.blk;have := HX9.out;omega
        replace GB := hid BX;clear BX ZX;rw [hW];clear hW;refine hK.out _ _ (fun _ => KB.out _ GB.out) ?_;clear hK
        try simp only [Act.put]
        refine zBA (i := 17) (o := ⟨some 12,.assign (.tmp 48),27, "outright.go:75",#[⟨14,.data⟩,⟨16,.chain⟩,⟨0,.phase⟩,⟨1,.phase⟩,⟨2,.phase⟩,⟨3,.phase⟩,⟨4,.phase⟩,⟨5,.phase⟩,⟨6,.phase⟩,⟨7,.phase⟩,⟨8,.phase⟩,⟨9,.phase⟩,⟨10,.phase⟩,⟨11,.phase⟩,⟨12,.phase⟩,⟨13,.phase⟩,⟨14,.phase⟩,⟨15,.phase⟩,⟨16,.phase⟩],none⟩) (by kernel_rfl) rfl (fun K hK => ?_);go_simp;refine hK.out _ _ (fun h => absurd h (by decide)) ?_;clear hK
        try simp only [Act.put]
        refine zEA (by kernel_rfl) ?_ _;clear GB KB GZ DX J SB x0 x1 x2 y0 y1 y2 v0 HA1 HA2 HX9;obtain ⟨bx,hbx⟩ : ∃ bx,D41.heap.size = bx := ⟨_,rfl⟩
        rw [hbx] at CX HXN ⊢;clear hbx;obtain ⟨u1,d1,f1,g1,u2,d2,f2,g2,C1,Z1,Z2⟩ := SB2.out;have CB := hid C1;have HSZ : Hid (szN k t ≤ 134226113) := by
         unfold Hid szN;have : t * (2 * k + 1) ≤ 64 * 2097283 := Nat.mul_le_mul (by omega) (by omega);omega
        obtain ⟨s,hs⟩ : ∃ s,psm c P Q R pv i j t = s := ⟨_,rfl⟩
        obtain ⟨x,hx⟩ : ∃ x,qfr c P Q i (pv.getD t 0) * R (t * c + j) = x := ⟨_,rfl⟩
        rw [hs] at Z1 Z2;rw [hx] at ZX2;have FIT := hid (zcE Z1.zi.lt (by have := Z2.zi.lt;simpa using this) ZX2.out.1.zi.lt (by have := ZX2.out.2.zi.lt;simpa using this));have HPS : Hid (psm c P Q R pv i j (t + 1) = s + x) := by unfold Hid;rw [← hs,← hx];rfl
        have HADD := hid (zWG (Z1.more (show szN k t ≤ 134226113 from HSZ.out)).zi (Z2.more (show szN k t ≤ 134226113 from HSZ.out)).zi (ZX2.out.1.more (show k + k ≤ 134226113 by omega)).zi (ZX2.out.2.more (show k + k ≤ 134226113 by omega)).zi (by omega) (Int.mul_ne_zero (by have := s.den_pos;omega) (by have := x.den_pos;omega)));have t0 := C1.at (i := 0) rfl;have t1 := C1.at (i := 1) rfl;have t2 := C1.at (i := 2) rfl;have t3 := C1.at (i := 3) rfl;have r0 := CX.out.at (i := 0) rfl;have r1 := CX.out.at (i := 1) rfl;have r2 := CX.out.at (i := 2) rfl;have r3 := CX.out.at (i := 3) rfl;clear C1 Z1 Z2 SB2 ZX2 hs hx;go_wp2_with fail;refine HADD.out.mono ?_;rintro e w9 ⟨k0,k1,k2,k3,rfl,hm1,hm2,b9⟩;obtain ⟨m3,o3,p3,q3,rfl,rfl⟩ : ∃ m3 o3 p3 q3,k0 = .bool m3 ∧ k1 = .slice o3 p3 q3 := hm1.zi.pts17;obtain ⟨m4,o4,p4,q4,rfl,rfl⟩ : ∃ m4 o4 p4 q4,k2 = .bool m4 ∧ k3 = .slice o4 p4 q4 := hm2.zi.pts17;rw [FIT.out.1] at hm1 hm2;have D9 := CB.out.step b9;have J9 := J2.out.now b9;obtain ⟨V9,hV9⟩ : ∃ V9,(((w9.setCell ⟨bs,0,none⟩ (.bool m3)).setCell ⟨bs,1,none⟩ (.slice o3 p3 q3)).setCell ⟨bs,2,none⟩ (.bool m4)).setCell ⟨bs,3,none⟩ (.slice o4 p4 q4) = V9 := ⟨_,rfl⟩
        have HN1 : Hid (∃ t' : Nat,Value.int .i64 ((t + 1 : Nat) : Int) = .int .i64 (t' : Int) ∧ t' ≤ pl ∧ pl - (t + 1) = pl - t' ∧ SpJ w bp bf r c a l cap af capf V9 ∧ SpB V9 bs (psm c P Q R pv i j t') (szN k t')) := by
         have ty : Ty 47 w9 V9 := by rw [← hV9];exact (((Ty.set D9).trans (Ty.set (D9.set _ _))).trans (Ty.set ((D9.set _ _).set _ _))).trans (Ty.set (((D9.set _ _).set _ _).set _ _))
         have bz : Below w.heap.size w9 V9 := by rw [← hV9];exact bset (bset (bset (bset (Below.refl _ _) HB0.out.1) HB0.out.1) HB0.out.1) HB0.out.1
         refine ⟨t + 1,rfl,by omega,rfl,⟨J9.p.ty13 ty (by decide),J9.f.ty13 ty (by decide),J9.b.trans bz⟩,?_⟩
         ·rw [HPS.out]
          have ek : szN k (t + 1) = szN k t + (k + k) + 1 := by unfold szN;rw [Nat.succ_mul];omega
          refine ⟨m3,o3,p3,q3,m4,o4,p4,q4,by rw [← hV9];exact D9.put4 _ _ _ _,?_,?_⟩
          ·rw [ek];exact ((Zm.mono hm1 (Nat.zero_le _)).fit FIT.out.2.1).ty ty (by decide)
          ·rw [ek];exact ((Zm.mono hm2 (Nat.zero_le _)).fit (by simpa using FIT.out.2.2)).ty ty (by decide)
        have q0 := D9.at (i := 0) rfl;have q1' := D9.at (i := 1) rfl;have q2' := D9.at (i := 2) rfl;have q3' := D9.at (i := 3) rfl;have z0 := D9.fz 0;have z1 := D9.fz 1;have z2 := D9.fz 2;have z3 := D9.fz 3;have EV9 := hid hV9;clear HADD t0 t1 t2 t3 r0 r1 r2 r3 hm1 hm2 b9 D9 J9 hV9 FIT HPS J2 CB CX;go_wp2_with fail;rw [EV9.out];go_roundg (pl - (t + 1))
        case rel => exact HN1.out
        case measure => exact HMT.out
      ·have htl' : ¬ (t : Int) < (pl : Int) := by omega
       obtain rfl : t = pl := by omega
       have hx1 : i * c + j < l := by rw [HL.out];exact zeA hlt hjl
       have HD1 : Hid (Q (i * c + j) ≠ 0) := HQ.out _ hx1;have HA1 : Hid (∀ {w' : World},Below wr.heap.size wr w' → Calls Tryz.prog 30 #[(.agg #[.int .i64 (r : Int),.int .i64 (c : Int),.slice a l cap]),.int .i64 (i : Int),.int .i64 (j : Int)] w' (Atd w' (P (i * c + j)) (Q (i * c + j)) k)) := fun h => at17 (r := (r : Int)) (HV.out.now (zAA J.out.b h)) (i := i) (j := j) (by omega) hc hx1 (by omega)
       have HE : Hid (qfr c P Q i j = psm c P Q R pv i j t) := HS.out i j hlt hjl;obtain ⟨q,hq⟩ : ∃ q,psm c P Q R pv i j t = q := ⟨_,rfl⟩
       rw [hq] at SB HE;have HC0 : Hid ((0 : Int) = cmpI (q.den : Int) 0 * cmpI (Q (i * c + j)) 0 * cmpI (q.num * Q (i * c + j)) (P (i * c + j) * (q.den : Int))) := by
        unfold Hid;have e : q.num * Q (i * c + j) = P (i * c + j) * (q.den : Int) := by
         have h1 : Rat.divInt (P (i * c + j)) (Q (i * c + j)) = Rat.divInt q.num (q.den : Int) := by
          rw [Rat.num_divInt_den];exact HE.out
         exact ((Rat.divInt_eq_divInt_iff HD1.out (by have := q.den_pos;omega)).1 h1).symm
        rw [e,cmpI_self];simp
       have HSZ : Hid (szN k t ≤ 134226113) := by
        unfold Hid szN;have : t * (2 * k + 1) ≤ 64 * 2097283 := Nat.mul_le_mul (by omega) (by omega);omega
       obtain ⟨m1,o1,p1,q1,m2,o2,p2,q2,C1,Z1,Z2⟩ := SB.out;have CB := hid C1;have ZA := hid (Z1.more (show szN k t ≤ 134226113 from HSZ.out)).zi;have ZB := hid (Z2.more (show szN k t ≤ 134226113 from HSZ.out)).zi;have s0 := C1.at (i := 0) rfl;have s1 := C1.at (i := 1) rfl;have s2 := C1.at (i := 2) rfl;have s3 := C1.at (i := 3) rfl;clear hx1 hq C1 Z1 Z2 SB y0 y1 y2 HE;go_wp2_with fail;have KB : Hid (∀ w',Below wr.heap.size wr w' → w'.cell? ⟨bp,0,none⟩ = some (.int .i64 (r : Int)) ∧ w'.cell? ⟨bp,1,none⟩ = some (.int .i64 (c : Int)) ∧ w'.cell? ⟨bp,2,none⟩ = some (.slice a l cap) ∧ w'.cell? ⟨bs,0,none⟩ = some (.bool m1) ∧ w'.cell? ⟨bs,1,none⟩ = some (.slice o1 p1 q1) ∧ w'.cell? ⟨bs,2,none⟩ = some (.bool m2) ∧ w'.cell? ⟨bs,3,none⟩ = some (.slice o2 p2 q2)) := fun w' h => ⟨cnow h x0,cnow h x1,cnow h x2,cnow h s0,cnow h s1,cnow h s2,cnow h s3⟩
       refine zFA (fun w' => w'.cell? ⟨bp,0,none⟩ = some (.int .i64 (r : Int)) ∧ w'.cell? ⟨bp,1,none⟩ = some (.int .i64 (c : Int)) ∧ w'.cell? ⟨bp,2,none⟩ = some (.slice a l cap) ∧ w'.cell? ⟨bs,0,none⟩ = some (.bool m1) ∧ w'.cell? ⟨bs,1,none⟩ = some (.slice o1 p1 q1) ∧ w'.cell? ⟨bs,2,none⟩ = some (.bool m2) ∧ w'.cell? ⟨bs,3,none⟩ = some (.slice o2 p2 q2)) 10 (by kernel_rfl) ?_;obtain ⟨D71,hD⟩ : ∃ D71,wr.drew = D71 := ⟨_,rfl⟩
       have GB : Hid (Below wr.heap.size wr D71) := by unfold Hid;rw [← hD];exact (Below.refl _ _).drew
       rw [hD];clear hD;refine zDA [(0,(.agg #[.bool m1,.slice o1 p1 q1,.bool m2,.slice o2 p2 q2])),(1,(.agg #[.int .i64 (r : Int),.int .i64 (c : Int),.slice a l cap])),(2,(.int .i64 (i : Int))),(3,(.int .i64 (j : Int)))] 4 ?_ (KB.out _ GB.out) ?_
       ·simp only [zJA,gA9,g09,g19,Act.put,sI9,s09,s19]
        (repeat' (first | exact trivial | refine And.intro (Or.inl ⟨by rfl,?_⟩) ?_)) <;> (intro w hSw;(try dsimp only at hSw);go_simp)
       simp only [actV,gA9,g09,g19,Act.put,sI9,s09,s19];refine zBA (i := 4) (o := ⟨some 60,.call { callee := .value (.func 30),args := #[.tmp 57,.tmp 58,.tmp 59],argTypes := #[24,3,3] },47, "outright.go:78",#[⟨1,.data⟩,⟨2,.data⟩,⟨3,.data⟩],none⟩) (by kernel_rfl) rfl (fun K hK => ?_);go_simp;go_at_call 30;refine (HA1.out GB.out).mono ?_;rintro e w72 ⟨n1,a1,l1,c1,n2,a2,l2,c2,rfl,hz1,hz2,b⟩;have lz72 := (show Below _ _ _ from b).size;replace GB := hid (zAA GB.out b);have ZP := hid (And.intro hz1 hz2);clear hz1 hz2;clear b;refine hK.out _ _ (fun _ => KB.out _ GB.out) ?_;clear hK;refine zBA (i := 5) (o := ⟨some 61,.call { callee := .value (.func 34),args := #[.tmp 56,.tmp 60],argTypes := #[47,47] },38, "outright.go:78",#[⟨0,.data⟩,⟨4,.data⟩,⟨4,.chain⟩],none⟩) (by kernel_rfl) rfl (fun K hK => ?_);go_simp;go_at_call 34;refine (fcmp_z (ZA.out.now GB.out) (ZB.out.now GB.out) (ZP.out.1.more (show k ≤ 134226113 by omega)) (ZP.out.2.more (show k ≤ 134226113 by omega)) (by omega) (by have := q.den_pos;omega) HD1.out HC0.out).mono ?_;rintro e w73 ⟨rfl,b⟩;have lz73 := (show Below _ _ _ from b).size;replace GB := hid (zAA GB.out b);clear ZP;clear b;refine hK.out _ _ (fun _ => KB.out _ GB.out) ?_;clear hK;refine zDA [(6,(.tuple #[(.int .i64 0),(.int .i64 0)])),(7,(.int .i64 0)),(8,(.int .i64 0)),(9,(.int .i64 0))] 4 ?_ (KB.out _ GB.out) ?_
       ·simp only [zJA,gA9,g09,g19,Act.put,sI9,s09,s19]
        (repeat' (first | exact trivial | refine And.intro (Or.inl ⟨by rfl,?_⟩) ?_)) <;> (intro w hSw;(try dsimp only at hSw);go_simp)
       simp only [actV,gA9,g09,g19,Act.put,sI9,s09,s19];refine zBA (i := 10) (o := ⟨some 14,.assign (.tmp 63),27, "outright.go:78",#[⟨8,.data⟩,⟨9,.chain⟩,⟨0,.phase⟩,⟨1,.phase⟩,⟨2,.phase⟩,⟨3,.phase⟩,⟨4,.phase⟩,⟨5,.phase⟩,⟨6,.phase⟩,⟨7,.phase⟩,⟨8,.phase⟩,⟨9,.phase⟩],none⟩) (by kernel_rfl) rfl (fun K hK => ?_);go_simp;refine hK.out _ _ (fun h => absurd h (by decide)) ?_;clear hK
       try simp only [Act.put]
       refine zEA (by kernel_rfl) ?_ _;have HN1 : Hid (∃ j' : Nat,Value.int .i64 ((j + 1 : Nat) : Int) = .int .i64 (j' : Int) ∧ j' ≤ c ∧ c - (j + 1) = c - j' ∧ SpJ w bp bf r c a l cap af capf w73) := ⟨j + 1,rfl,by omega,rfl,J.out.now GB.out⟩
       clear GB KB J CB ZA ZB HA1 s0 s1 s2 s3 x0 x1 x2;go_wp2_with fail;go_roundg (c - (j + 1))
       case rel => exact HN1.out
       case measure => exact HMJ.out
    ·have hjl' : ¬ (j : Int) < (c : Int) := by omega
     have HN1 : Hid (∃ i' : Nat,Value.int .i64 ((i + 1 : Nat) : Int) = .int .i64 (i' : Int) ∧ i' ≤ r ∧ r - (i + 1) = r - i' ∧ SpJ w bp bf r c a l cap af capf wr) := ⟨i + 1,rfl,by omega,rfl,J.out⟩
     clear J;go_wp2_with fail;go_roundg (r - (i + 1))
     case rel => exact HN1.out
     case measure => exact HMO.out
  ·have hlt' : ¬ (i : Int) < (r : Int) := by omega
   have G := hid J.out.b;clear J;go_wp2;go_ret;exact ⟨rfl,G.out⟩
end Go.Proofs.YtffkmeocmjohmaaGreat
