/-
 QSm18ToLw21: Sm18, Wa18, Va16, Lw21, joined.
-/
import Derived.Test.YtbcgggadelnaaaaGreatQTp18
import Derived.Test.YtbcgggadelnaaaaGreatQUnit9ToOpenM9
import Derived.Test.YtbcgggadelnaaaaGreatQMat11ToHw18
import Derived.Test.YtbcgggadelnaaaaGreatQProd9ToMul9
import Derived.Test.YtbcgggadelnaaaaGreatQChkN9ToLn11
import Derived.Test.YtbcgggadelnaaaaGreatQRows9ToCat9
import Derived.Test.YtbcgggadelnaaaaGreatQTailLToTo18

set_option maxRecDepth 100000
set_option maxHeartbeats 6400000
set_option linter.unusedVariables false
set_option linter.unusedSimpArgs false
namespace Go.Proofs.YtbcgggadelnaaaaGreat
open Go.RowKit
def zAI (w : World) (n gk : Nat) (s : Value) (wx : World) : Prop := ∃ i : Nat,s = .int .i64 (i : Int) ∧ i ≤ n ∧ gk = n - i ∧ Below w.heap.size w wx
theorem sameRow18 {w : World} {va vb : Value} {ps qs : List (Value × Value)} {k l : Nat} {zs ys : List Int} (ha : Prs 0 w va ps) (hza : Zcs w ps zs k) (hb : Prs 0 w vb qs) (hzb : Zcs w qs ys l) (he : zs = ys) :
  Calls Tryz.prog 22 #[va,vb] w fun e w' => e = .returned (.bool true) ∧ Below w.heap.size w w' := by
 subst he;obtain ⟨aa,ca,rfl,hca,hna,-,hfa⟩ := ha.form;obtain ⟨ab,cb,rfl,hcb,hnb,-,hfb⟩ := hb.form;obtain ⟨n,hn⟩ : ∃ n,zs.length = n := ⟨_,rfl⟩
 have ea : ps.length = n := hza.1.trans hn;have eb : qs.length = n := hzb.1.trans hn;have A0 := hid ha;have B0 := hid hb;rw [ea] at A0 hna hca ⊢;rw [eb] at B0 hnb hcb ⊢;have q2 : ((n : Int) != (n : Int)) = false := by simp
 have ZA := hid hza;have ZB := hid hzb;have FA : Hid (n ≠ 0 → ∃ b off,aa = some ⟨b,off,none⟩) := fun h => by
  obtain ⟨b,off,e,-⟩ := hfa (fun e => h (by rw [← ea,e];rfl));exact ⟨b,off,e⟩
 have FB : Hid (n ≠ 0 → ∃ b off,ab = some ⟨b,off,none⟩) := fun h => by
  obtain ⟨b,off,e,-⟩ := hfb (fun e => h (by rw [← eb,e];rfl));exact ⟨b,off,e⟩
 have HN := hid hn;have H0 : Hid (zAI w n n (.int .i64 0) w) := ⟨0,rfl,Nat.zero_le _,by omega,Below.refl _ _⟩
 clear ha hza hb hzb hfa hfb hn ea eb;go_enter Tryz.func22,Tryz.ntmps22;go_wp2_with fail
 go_loopg [5] n (fun gk s5 wx => zAI w n gk s5 wx)
 case atStart => exact H0.out
 case round =>
  clear H0;obtain ⟨i,rfl,hin,hg,hG⟩ := hrel;have G := hid hG;have HG := hid hg;clear hG hg
  by_cases hlt : i < n
  ·have hlt' : (i : Int) < (n : Int) := by omega
   obtain ⟨b1,o1,rfl⟩ := FA.out (by omega);obtain ⟨b2,o2,rfl⟩ := FB.out (by omega);obtain ⟨nf,xf,adf,qf,k0,k1,zf⟩ := Zcs.at9 (A0.out.now G.out) (ZA.out.now G.out) (i := i) (by rw [HN.out];exact hlt);obtain ⟨ng,xg,adg,qg,k2,k3,zg⟩ := Zcs.at9 (B0.out.now G.out) (ZB.out.now G.out) (i := i) (by rw [HN.out];exact hlt);have HS : Hid (∀ w',Below wr.heap.size wr w' → Calls Tryz.prog 19 #[.agg #[.bool nf,.slice adf xf.length qf],.agg #[.bool ng,.slice adg xg.length qg]] w' fun e w'' => e = .returned (.bool true) ∧ Below w'.heap.size w' w'') := fun w' h => sameInt_yes (zf.now h) (zg.now h) rfl
   clear zf zg;have hw := zWA (i := i) (by omega);go_wp2_with fail;have KB : Hid (∀ w',Below wr.heap.size wr w' → w'.cell? ⟨b1,o1 + i * 2,none⟩ = some (.bool nf) ∧ w'.cell? ⟨b1,o1 + i * 2 + 1,none⟩ = some (.slice adf xf.length qf) ∧ w'.cell? ⟨b2,o2 + i * 2,none⟩ = some (.bool ng) ∧ w'.cell? ⟨b2,o2 + i * 2 + 1,none⟩ = some (.slice adg xg.length qg)) := fun w' h => ⟨cnow h k0,cnow h k1,cnow h k2,cnow h k3⟩
   refine zEA (fun w' => w'.cell? ⟨b1,o1 + i * 2,none⟩ = some (.bool nf) ∧ w'.cell? ⟨b1,o1 + i * 2 + 1,none⟩ = some (.slice adf xf.length qf) ∧ w'.cell? ⟨b2,o2 + i * 2,none⟩ = some (.bool ng) ∧ w'.cell? ⟨b2,o2 + i * 2 + 1,none⟩ = some (.slice adg xg.length qg)) 9 (by kernel_rfl) ?_;obtain ⟨D1,hD⟩ : ∃ D1,wr.drew = D1 := ⟨_,rfl⟩
   have GB : Hid (Below wr.heap.size wr D1) := by unfold Hid;rw [← hD];exact (Below.refl _ _).drew
   rw [hD];clear hD;refine zFA [(0,(.slice (some ⟨b1,o1,none⟩) n ca)),(1,(.int .i64 (i : Int))),(2,(.pointer (some ⟨b1,o1 + i * 2,none⟩))),(3,(.agg #[.bool nf,.slice adf xf.length qf])),(4,(.slice (some ⟨b2,o2,none⟩) n cb)),(5,(.int .i64 (i : Int))),(6,(.pointer (some ⟨b2,o2 + i * 2,none⟩))),(7,(.agg #[.bool ng,.slice adg xg.length qg]))] 8 ?_ (KB.out _ GB.out) ?_
   ·simp only [zNA,gA9,g09,g19,Act.put,sI9,s09,s19]
    (repeat' (first | exact trivial | refine And.intro (Or.inl ⟨by rfl,?_⟩) ?_)) <;> (intro w hSw;(try dsimp only at hSw);go_simp)
   simp only [actV,gA9,g09,g19,Act.put,sI9,s09,s19];refine zAA (i := 8) (o := ⟨some 25,.call { callee := .value (.func 19),args := #[.tmp 20,.tmp 24],argTypes := #[51,51] },4, "top.go:40",#[⟨3,.data⟩,⟨7,.data⟩],none⟩) (by kernel_rfl) rfl (fun K hK => ?_);go_simp;go_at_call 19;refine (HS.out _ GB.out).mono ?_;rintro e w2 ⟨rfl,b⟩;have lz2 := (show Below _ _ _ from b).size;replace GB := hid (below_step GB.out b);have G1 := hid (below_step G.out GB.out);clear b;refine hK.out _ _ (fun _ => KB.out _ GB.out) ?_;clear hK;refine zAA (i := 9) (o := ⟨some 26,.unOp .not 4 (.tmp 25),4, "top.go:40",#[⟨8,.data⟩],none⟩) (by kernel_rfl) rfl (fun K hK => ?_);go_simp;refine hK.out _ _ (fun h => absurd h (by decide)) ?_;clear hK
   try simp only [Act.put]
   refine zDA (by kernel_rfl) ?_ _;have HN1 : Hid (zAI w n (n - (i + 1)) (.int .i64 ((i + 1 : Nat) : Int)) w2) := ⟨i + 1,rfl,by omega,rfl,G1.out⟩
   have HMM : Hid (n - (i + 1) < gk) := by unfold Hid;rw [HG.out];omega
   clear HS G HG G1 GB KB k0 k1 k2 k3;go_wp2_with fail;go_roundg (n - (i + 1))
   case rel => exact HN1.out
   case measure => exact HMM.out
  ·have hlt' : ¬ (i : Int) < (n : Int) := by omega
   have FIN := hid G.out;clear HG G;go_wp2;go_ret;exact ⟨rfl,FIN.out⟩
theorem zyF {w : World} {va vb : Value} {r c k l : Nat} {zs ys : List Int} (ha : Mc w va r c zs k) (hb : Mc w vb r c ys l) (he : zs = ys) :
  Calls Tryz.prog 12 #[va,vb] w fun e w' => e = .returned (.bool true) ∧ Below w.heap.size w w' := by
 obtain ⟨ata,ps,rfl,pa1,pa2,hlz,hr,hc⟩ := ha;obtain ⟨atb,qs,rfl,pb1,pb2,-,-,-⟩ := hb;obtain ⟨W0,hW⟩ : ∃ W0,(w.alloc (matO r c ata)).alloc (matO r c atb) = W0 := ⟨_,rfl⟩
 obtain ⟨b0,sz0⟩ := zZA w (matO r c ata) (matO r c atb);rw [hW] at b0 sz0;have HR := hid (show ∀ w',Below W0.heap.size W0 w' → Calls Tryz.prog 22 #[ata,atb] w' fun e w'' => e = .returned (.bool true) ∧ Below w'.heap.size w' w'' from fun w' h => sameRow18 ((pa1.now b0).now h) ((pa2.now b0).now h) ((pb1.now b0).now h) ((pb2.now b0).now h) he);have hpl : ps.length = r * c := pa2.1.trans hlz;have hrc : r * c ≤ 64 * 64 := Nat.mul_le_mul hr hc;obtain ⟨aa,ca,rfl,-,-,-,-⟩ := pa1.form;obtain ⟨ab,cb,rfl,-,-,-,-⟩ := pb1.form;have HSO := hid (zBC (w := W0) (r := (r : Int)) (c := (c : Int)) (a := aa) (l := ps.length) (cap := ca) (by rw [hpl];omega));have hsn : Snd (r : Int) (c : Int) ps.length := ⟨by omega,by omega,by omega,by omega,by rw [hpl];simp⟩
 rw [decide_eq_true hsn] at HSO;clear hpl hrc hlz hsn;generalize ps.length = na at *;generalize qs.length = nb at *;have pa : Cel W0 w.heap.size 24 (matc r c (.slice aa na ca)) := by
  rw [← hW];exact (Cel.new w 24 (matc r c (.slice aa na ca))).step ((Below.refl _ _).alloc (Nat.le_refl _) _)
 have pb : Cel W0 (w.heap.size + 1) 24 (matc r c (.slice ab nb cb)) := by
  rw [← hW];have := Cel.new (w.alloc (matO r c (.slice aa na ca))) 24 (matc r c (.slice ab nb cb))
  simpa using this
 have x0 := pa.at (i := 0) rfl;have x1 := pa.at (i := 1) rfl;have x2 := pa.at (i := 2) rfl;have y0 := pb.at (i := 0) rfl;have y1 := pb.at (i := 1) rfl;have y2 := pb.at (i := 2) rfl;rw [← hW] at x0 x1 x2;have q0 : ((r : Int) == (r : Int)) = true := by simp
 have q1 : ((c : Int) == (c : Int)) = true := by simp
 have G0 := hid b0;have EW := hid hW;have PA := hid pa;have PB := hid pb;clear pa1 pa2 pb1 pb2 b0 sz0 hW pa pb y0 y1 y2;go_enter Tryz.func12,Tryz.ntmps12;go_wp2_with fail;rw [EW.out];refine HSO.out.mono ?_;rintro e w0 ⟨rfl,b⟩;have HR0 := hid (HR.out w0 b);have G1 := hid (below_step G0.out b);replace PA := PA.out.step b;replace PB := PB.out.step b;clear x0 x1 x2 EW HSO HR G0 b;have x0 := PA.at (i := 0) rfl;have x1 := PA.at (i := 1) rfl;have x2 := PA.at (i := 2) rfl;have y0 := PB.at (i := 0) rfl;have y1 := PB.at (i := 1) rfl;have y2 := PB.at (i := 2) rfl;clear PA PB;go_wp2_with fail;refine HR0.out.mono ?_;rintro e w1 ⟨rfl,b⟩;have FIN := hid (below_step G1.out b);clear x0 x1 x2 y0 y1 y2 b HR0 G1;go_wp2;go_ret;exact ⟨rfl,FIN.out⟩
theorem zbE {w : World} {a : Option Addr} {c : Nat} {n : Int} (h : Zi w (.agg #[.bool false,.slice a 1 c]) n 1) (h0 : 0 < n) (h1 : n ≤ 18446744073709551615) : Zc w (.agg #[.bool false,.slice a 1 c]) n 1 := by
 obtain ⟨nb,xs,a',c',e,s0,z0,k0⟩ := h;simp only [Value.agg.injEq] at e;have e' : nb = false ∧ a' = a ∧ xs.length = 1 ∧ c' = c := by simp at e;obtain ⟨rfl,rfl,q,rfl⟩ := e;exact ⟨rfl,rfl,q.symm,rfl⟩
 obtain ⟨rfl,rfl,hl,rfl⟩ := e'
 match xs,hl with
 | [x],_ =>
  have hx : x = n := by simpa [iv,val] using z0
  subst hx;exact ⟨false,[x],a',c',rfl,s0,can_one h0 h1,fun q => rfl,z0,k0⟩
theorem mc_four18 {V : World} {g : Nat} {n0 n1 n2 n3 : Bool} {a0 a1 a2 a3 : Option Addr} {l0 l1 l2 l3 c0 c1 c2 c3 : Nat} {z0 z1 z2 z3 : Int} {k : Nat} (d : Cel V g 51 [.bool n0,.slice a0 l0 c0,.bool n1,.slice a1 l1 c1,.bool n2,.slice a2 l2 c2,.bool n3,.slice a3 l3 c3])
  (h0 : Zc V (.agg #[.bool n0,.slice a0 l0 c0]) z0 k) (h1 : Zc V (.agg #[.bool n1,.slice a1 l1 c1]) z1 k) (h2 : Zc V (.agg #[.bool n2,.slice a2 l2 c2]) z2 k) (h3 : Zc V (.agg #[.bool n3,.slice a3 l3 c3]) z3 k) :
  Mc V (.agg #[.int .i64 2,.int .i64 2,.slice (some ⟨g,0,none⟩) 4 4]) 2 2 [z0,z1,z2,z3] k := by
 have ar : Arr V g [(.bool n0,.slice a0 l0 c0),(.bool n1,.slice a1 l1 c1),(.bool n2,.slice a2 l2 c2),(.bool n3,.slice a3 l3 c3)] := ⟨d,fun p hp => by
  simp at hp;rcases hp with rfl | rfl | rfl | rfl <;> exact ⟨_,_,_,_,rfl⟩⟩
 refine ⟨_,_,rfl,ar.prs (Nat.zero_le _) (by simp) (Nat.le_refl _),⟨rfl,fun j p z hp hz => ?_⟩,rfl,by decide,by decide⟩
 match j,hp,hz with
 | 0,hp,hz => simp at hp hz;subst hp hz;exact h0
 | 1,hp,hz => simp at hp hz;subst hp hz;exact h1
 | 2,hp,hz => simp at hp hz;subst hp hz;exact h2
 | 3,hp,hz => simp at hp hz;subst hp hz;exact h3
 | j + 4,hp,hz => simp at hp
def zzH (w : World) (e : Ending) (w' : World) : Prop := e = .returned (.bool true) ∧ Below w.heap.size w w'
def AllZ (w : World) (g : Nat) (zs : List Int) (k : Nat) : Prop := ∃ ps,Arr w g ps ∧ Zcs w ps zs k
theorem AllZ.step {w w' : World} {g k : Nat} {zs : List Int} (h : AllZ w g zs k) (hb : Below w.heap.size w w') : AllZ w' g zs k := by
 obtain ⟨ps,h1,h2⟩ := h;exact ⟨ps,h1.step hb,h2.now hb⟩
theorem AllZ.put {w : World} {g k i : Nat} {zs : List Int} {x y : Value} {z : Int} (h : AllZ w g zs k) (hi : i < zs.length) (hz : Zc w (.agg #[x,y]) z k) : AllZ ((w.setCell ⟨g,i * 2,none⟩ x).setCell ⟨g,i * 2 + 1,none⟩ y) g (zs.set i z) k := by
 obtain ⟨ps,h1,h2,h3⟩ := h;have hw := h1.wk (i := i) (by omega) x y;refine ⟨ps.set i (x,y),h1.put (by omega) hz.zi.isI,by simpa using h2,fun j p z' hp hz' => ?_⟩
 by_cases q : j = i
 ·subst q
  rw [List.getElem?_set_self (by omega),Option.some.injEq] at hp;rw [List.getElem?_set_self (by omega),Option.some.injEq] at hz';subst hp hz';exact hz.wk hw
 ·rw [List.getElem?_set_ne (by omega)] at hp hz'
  exact (h3 j p z' hp hz').wk hw
theorem AllZ.at {w : World} {g k i : Nat} {zs : List Int} (h : AllZ w g zs k) (hi : i < zs.length) : ∃ n,∃ xs : List Int,∃ a c,w.cell? ⟨g,i * 2,none⟩ = some (.bool n) ∧ w.cell? ⟨g,i * 2 + 1,none⟩ = some (.slice a xs.length c) ∧ w.frozen? ⟨g,i * 2,none⟩ = false ∧ w.frozen? ⟨g,i * 2 + 1,none⟩ = false ∧ Zc w (.agg #[.bool n,.slice a xs.length c]) (zs.getD i 0) k := by
 obtain ⟨ps,h1,h2,h3⟩ := h;have hp : ps[i]? = some (ps[i]'(by omega)) := List.getElem?_eq_getElem (by omega);have q := h1.at hp;have hz := h3 i _ _ hp (List.getElem?_eq_getElem hi);have hz' := hz;obtain ⟨n,xs,a,c,e,-⟩ := hz;simp only [Value.agg.injEq,Array.mk.injEq,List.cons.injEq,and_true] at e;obtain ⟨e1,e2⟩ := e;rw [e1,e2] at q hz';refine ⟨n,xs,a,c,q.1,q.2,h1.1.fz _,h1.1.fz _,?_⟩;have e3 : zs.getD i 0 = zs[i] := by simp [hi]
 rw [e3];exact hz'
theorem AllZ.prs {w : World} {g k B : Nat} {zs : List Int} (h : AllZ w g zs k) (hB : B ≤ g) (hn : zs.length ≤ 1048576) {n : Nat} (hl : zs.length = n) : ∃ ps,Prs B w (.slice (some ⟨g,0,none⟩) n n) ps ∧ Zcs w ps zs k := by
 obtain ⟨ps,h1,h2⟩ := h;have e : ps.length = n := h2.1.trans hl;have := h1.prs hB (by omega) (Nat.le_refl _);rw [e] at this;exact ⟨ps,this,h2⟩
theorem AllZ.start {w : World} {g n : Nat} (h : Arr w g (List.replicate n zhA)) (k : Nat) : AllZ w g (List.replicate n 0) k := by
 refine ⟨_,h,by simp,fun j p z hp hz => ?_⟩;have e1 := List.eq_of_mem_replicate (List.mem_of_getElem? hp);have e2 := List.eq_of_mem_replicate (List.mem_of_getElem? hz);subst e1 e2;exact ⟨false,[],none,0,rfl,Sl.nil w,⟨WF.nil,rfl⟩,fun _ => rfl,by simp [iv,val],Nat.zero_le _⟩
theorem zeros21 {w : World} {r c : Nat} (hr : r ≤ 64) (hc : c ≤ 64) : Calls Tryz.prog 38 #[.int .i64 (r : Int),.int .i64 (c : Int)] w fun e w' => ∃ g,e = .returned (.agg #[.int .i64 (r : Int),.int .i64 (c : Int),.slice (some ⟨g,0,none⟩) (r * c) (r * c)]) ∧ w.heap.size < g ∧ Arr w' g (List.replicate (r * c) zhA) ∧ Below w.heap.size w w' := by
 obtain ⟨W0,hW⟩ : ∃ W0,w.alloc mbox = W0 := ⟨_,rfl⟩
 obtain ⟨b0,sz0⟩ := alo1 w mbox;rw [hW] at b0 sz0;have P4 := hid (zvA hW);have hm0 := zqB (i := r) (c := c) hr hc;have hrc : r * c ≤ 64 * 64 := Nat.mul_le_mul hr hc;generalize r * c = n at *;have hm2 := hm0;rw [IntKind.wrap_i64] at hm2;have G0 := hid b0;have EW := hid hW;have SZ := hid sz0;clear b0 hW sz0;go_enter Tryz.func38,Tryz.ntmps38;go_upto_region 1 with fail
 rw [EW.out];go_wp2_with (at_make;refine zRA _ rfl _ _ rfl _ _ n n rfl rfl rfl rfl (Nat.le_refl _) (by omega) ?_)
 intro w2 hrow hb2 hsz2;have PR := hid (P4.out.step hb2);have r0 := PR.out.at (i := 0) rfl;have r1 := PR.out.at (i := 1) rfl;have r2 := PR.out.at (i := 2) rfl;have f0 := PR.out.fz 0;have f1 := PR.out.fz 1;have f2 := PR.out.fz 2;have FIN : Hid (∃ g,(Ending.returned (.agg #[.int .i64 (r : Int),.int .i64 (c : Int),.slice (some ⟨W0.heap.size,0,none⟩) n n])) = .returned (.agg #[.int .i64 (r : Int),.int .i64 (c : Int),.slice (some ⟨g,0,none⟩) n n]) ∧ w.heap.size < g ∧ Arr (put3 w2 w.heap.size (.int .i64 (r : Int)) (.int .i64 (c : Int)) (.slice (some ⟨W0.heap.size,0,none⟩) n n)) g (List.replicate n zhA) ∧ Below w.heap.size w (put3 w2 w.heap.size (.int .i64 (r : Int)) (.int .i64 (c : Int)) (.slice (some ⟨W0.heap.size,0,none⟩) n n))) :=
  ⟨_,rfl,by have := SZ.out;omega,hrow.put3 (by have := SZ.out;omega) _ _ _,zMA (below_step G0.out hb2) (Nat.le_refl _) _ _ _⟩
 have PF := hid (PR.out.put3 (.int .i64 (r : Int)) (.int .i64 (c : Int)) (.slice (some ⟨W0.heap.size,0,none⟩) n n));clear P4 hrow hb2 hsz2 G0;go_wp2;exact bodyPost_ret (zHE Tryz.results38 PF.out _ (by rfl)) rfl FIN.out
def zyH (w : World) (g bu n N : Nat) (gk : Nat) (s : Value) (wx : World) : Prop :=
 ∃ i : Nat,s = .int .i64 (i : Int) ∧ i ≤ n ∧ gk = n - i ∧ AllZ wx g (zIB n i) 1 ∧ Cel wx bu 24 [.int .i64 (n : Int),.int .i64 (n : Int),.slice (some ⟨g,0,none⟩) N N] ∧ Cel wx w.heap.size 24 [.int .i64 0,.int .i64 0,.slice none 0 0] ∧ Below w.heap.size w wx
theorem zcH {w : World} {n : Nat} (hn : n ≤ 64) : Calls Tryz.prog 13 #[.int .i64 (n : Int)] w (zMD w n n (zIB n n) 1) := by
 obtain ⟨W0,hW⟩ : ∃ W0,w.alloc mbox = W0 := ⟨_,rfl⟩
 obtain ⟨b0,sz0⟩ := alo1 w mbox;rw [hW] at b0 sz0;have P2 := hid (zvA hW);have HS := hid (zeros21 (w := W0) hn hn);have G0 := hid b0;have EW := hid hW;have SZ := hid sz0;have hnn : n * n ≤ 64 * 64 := Nat.mul_le_mul hn hn;obtain ⟨N,hN⟩ : ∃ N,n * n = N := ⟨_,rfl⟩
 have HNN := hid hN;rw [hN] at HS hnn;clear b0 hW sz0 hN;go_enter Tryz.func13,Tryz.ntmps13;go_wp2_with fail;rw [EW.out];refine HS.out.mono ?_;rintro e w1 ⟨g,rfl,hge,harr,b⟩;obtain ⟨V1,hV⟩ : ∃ V1,w1.alloc (.cells #[.int .i64 (n : Int),.int .i64 (n : Int),.slice (some ⟨g,0,none⟩) N N] 24) = V1 := ⟨_,rfl⟩
 obtain ⟨b1,sz1⟩ := alo1 w1 (.cells #[.int .i64 (n : Int),.int .i64 (n : Int),.slice (some ⟨g,0,none⟩) N N] 24);rw [hV] at b1 sz1;have dU : Cel V1 w1.heap.size 24 [.int .i64 (n : Int),.int .i64 (n : Int),.slice (some ⟨g,0,none⟩) N N] := by rw [← hV];exact Cel.new w1 _ _
 have HGW : Hid (w.heap.size < g ∧ g < w1.heap.size) := by unfold Hid;have h1 := SZ.out;have h2 := harr.1.blk;omega
 obtain ⟨bu,hbu⟩ : ∃ bu,w1.heap.size = bu := ⟨_,rfl⟩
 rw [hbu] at dU HGW;have HBU := hid hbu;have H0 : Hid (zyH w g bu n N n (.int .i64 0) V1) := by
  refine ⟨0,rfl,Nat.zero_le _,by omega,?_,dU,(P2.out.step b).step b1,below_step (below_step G0.out b) b1⟩;rw [zIB,HNN.out];exact AllZ.start (harr.step b1) 1
 have EV := hid hV;clear HS P2 G0 EW harr b b1 sz1 dU hV hge hbu;go_wp2_with fail;rw [EV.out,HBU.out];clear EV
 go_loopg [4] n (fun gk s4 wx => zyH w g bu n N gk s4 wx)
 case atStart => exact H0.out
 case round =>
  clear H0;obtain ⟨i,rfl,hin,hg,ha,hu,hre,hG⟩ := hrel;have AZ := hid ha;have PU := hid hu;have PR := hid hre;have G := hid hG;have HG := hid hg;clear ha hu hre hG hg
  by_cases hlt : i < n
  ·have hlt' : (i : Int) < (n : Int) := by omega
   have hw := zWA (i := i) (by omega);have hm0 := zqB (i := i) (c := n) (by omega) hn;have hix : i * n + i < N := by
    rw [← HNN.out];have h1 : (i + 1) * n ≤ n * n := Nat.mul_le_mul_right n hlt;have h2 : (i + 1) * n = i * n + n := by rw [Nat.add_mul,Nat.one_mul]
    omega
   have UL : Hid (zIB n (i + 1) = (zIB n i).set (i * n + i) 1) := rfl;obtain ⟨lo,hlo⟩ : ∃ lo,i * n = lo := ⟨_,rfl⟩
   rw [hlo] at hm0 hix UL;obtain ⟨ix,hix2⟩ : ∃ ix,lo + i = ix := ⟨_,rfl⟩
   rw [hix2] at hix UL;have ha0 : IntKind.i64.wrap ((lo : Int) + (i : Int)) = (ix : Int) := by rw [zbA] <;> omega
   have hixN : (ix : Int) < (N : Int) := by omega
   have HIL : Hid (ix < (zIB n i).length) := by unfold Hid;rw [zdA,HNN.out];exact hix
   have x2 := PU.out.at (i := 2) rfl;have HMM : Hid (n - (i + 1) < gk) := by unfold Hid;rw [HG.out];omega
   clear hlo hix2 HG;go_wp2_with fail;have KB : Hid (∀ w',Below wr.heap.size wr w' → w'.cell? ⟨bu,2,none⟩ = some (.slice (some ⟨g,0,none⟩) N N)) := fun w' h => cnow h x2
   refine zEA (fun w' => w'.cell? ⟨bu,2,none⟩ = some (.slice (some ⟨g,0,none⟩) N N)) 9 (by kernel_rfl) ?_;obtain ⟨D1,hD⟩ : ∃ D1,wr.drew = D1 := ⟨_,rfl⟩
   have GB : Hid (Below wr.heap.size wr D1) := by unfold Hid;rw [← hD];exact (Below.refl _ _).drew
   rw [hD];clear hD;refine zFA [(0,(.pointer (some ⟨bu,2,none⟩))),(1,(.slice (some ⟨g,0,none⟩) N N)),(2,(.int .i64 (i : Int))),(3,(.int .i64 (n : Int))),(4,(.int .i64 (lo : Int))),(5,(.int .i64 (i : Int))),(6,(.int .i64 (ix : Int)))] 7 ?_ (KB.out _ GB.out) ?_
   ·simp only [zNA,gA9,g09,g19,Act.put,sI9,s09,s19]
    (repeat' (first | exact trivial | refine And.intro (Or.inl ⟨by rfl,?_⟩) ?_)) <;> (intro w hSw;(try dsimp only at hSw);go_simp)
   simp only [actV,gA9,g09,g19,Act.put,sI9,s09,s19];refine zAA (i := 7) (o := ⟨some 20,.call { callee := .value (.func 24),args := #[.const (.int .u64 1)],argTypes := #[58] },51, "top.go:73",#[],none⟩) (by kernel_rfl) rfl (fun K hK => ?_);go_simp;go_at_call 24;refine (zfF (n := 1) (by decide) (by decide) _).mono ?_;rintro e w2 ⟨p1,q1,rfl,hz,b⟩;have lz2 := (show Below _ _ _ from b).size;replace GB := hid (below_step GB.out b);have ZW := hid (zbE hz (by decide) (by decide));have AZ1 := hid (AZ.out.step GB.out);clear hz;clear b;refine hK.out _ _ (fun _ => KB.out _ GB.out) ?_;clear hK;refine zFA [(8,(.pointer (some ⟨g,ix * 2,none⟩)))] 1 ?_ (KB.out _ GB.out) ?_
   ·simp only [zNA,gA9,g09,g19,Act.put,sI9,s09,s19]
    (repeat' (first | exact trivial | refine And.intro (Or.inl ⟨by rfl,?_⟩) ?_)) <;> (intro w hSw;(try dsimp only at hSw);go_simp)
   simp only [actV,gA9,g09,g19,Act.put,sI9,s09,s19];refine zAA (i := 9) (o := ⟨none,.store 51 (.tmp 21) (.tmp 20),0, "top.go:73",#[⟨8,.data⟩,⟨7,.data⟩,⟨7,.chain⟩,⟨0,.phase⟩,⟨1,.phase⟩,⟨2,.phase⟩,⟨3,.phase⟩,⟨4,.phase⟩,⟨5,.phase⟩,⟨6,.phase⟩,⟨7,.phase⟩],none⟩) (by kernel_rfl) rfl (fun K hK => ?_);obtain ⟨_,_,_,_,e0,e1,e2,e3,-⟩ := AZ1.out.at HIL.out;go_simp;clear e0 e1 e2 e3;obtain ⟨V3,hW⟩ : ∃ V3,((w2.setCell ⟨g,ix * 2,none⟩ (.bool false)).setCell ⟨g,ix * 2 + 1,none⟩ (.slice p1 1 q1)) = V3 := ⟨_,rfl⟩
   have HN1 : Hid (zyH w g bu n N (n - (i + 1)) (.int .i64 ((i + 1 : Nat) : Int)) V3) := by
    unfold Hid;rw [← hW];have hgw := HGW.out;exact ⟨i + 1,rfl,by omega,rfl,by rw [UL.out];exact AZ1.out.put HIL.out ZW.out,((PU.out.step GB.out).ne (by omega)).ne (by omega),((PR.out.step GB.out).ne (by omega)).ne (by omega),bset (bset (below_step G.out GB.out) (by omega)) (by omega)⟩
   rw [hW];clear hW;refine hK.out _ _ (fun h => absurd h (by decide)) ?_;clear hK
   try simp only [Act.put]
   refine zDA (by kernel_rfl) ?_ _;clear GB KB AZ AZ1 ZW PU PR G x2;go_wp2_with fail;go_roundg (n - (i + 1))
   case rel => exact HN1.out
   case measure => exact HMM.out
  ·have hlt' : ¬ (i : Int) < (n : Int) := by omega
   obtain rfl : i = n := by omega
   have x0 := PU.out.at (i := 0) rfl;have x1 := PU.out.at (i := 1) rfl;have x2 := PU.out.at (i := 2) rfl;have y0 := PR.out.at (i := 0) rfl;have y1 := PR.out.at (i := 1) rfl;have y2 := PR.out.at (i := 2) rfl;have f0 := PR.out.fz 0;have f1 := PR.out.fz 1;have f2 := PR.out.fz 2;have MM : Mc wr (.agg #[.int .i64 (i : Int),.int .i64 (i : Int),.slice (some ⟨g,0,none⟩) N N]) i i (zIB i i) 1 := by
    obtain ⟨ps,p1,p2⟩ := AZ.out.prs (B := 0) (Nat.zero_le _) (by rw [zdA,HNN.out];omega) (n := N) (by rw [zdA];exact HNN.out);exact ⟨_,ps,rfl,p1,p2,zdA i i,hn,hn⟩
   have FF : Hid (zMD w i i (zIB i i) 1 (.returned (.agg #[.int .i64 (i : Int),.int .i64 (i : Int),.slice (some ⟨g,0,none⟩) N N])) (put3 wr w.heap.size (.int .i64 (i : Int)) (.int .i64 (i : Int)) (.slice (some ⟨g,0,none⟩) N N)) ∧ Cel (put3 wr w.heap.size (.int .i64 (i : Int)) (.int .i64 (i : Int)) (.slice (some ⟨g,0,none⟩) N N)) w.heap.size 24 [.int .i64 (i : Int),.int .i64 (i : Int),.slice (some ⟨g,0,none⟩) N N]) :=
    ⟨⟨_,rfl,MM.wk PR.out _ _ _,zMA G.out (Nat.le_refl _) _ _ _⟩,PR.out.put3 _ _ _⟩
   clear AZ PU PR G HG MM;go_wp2;refine bodyPost_ret (zHE Tryz.results13 FF.out.2 _ (by rfl)) rfl ?_;exact FF.out.1
theorem Zc.neg21 {w : World} {n : Bool} {a : Option Addr} {l c k : Nat} {z : Int} (h : Zc w (.agg #[.bool n,.slice a l c]) z k) : (n = decide (z < 0)) ∧ (l = 0 ↔ z = 0) := by
 obtain ⟨n',xs,a',c',e,s0,q0,e0,z0,k0⟩ := h;simp only [Value.agg.injEq] at e;have e' : n = n' ∧ l = xs.length := by simp at e;exact ⟨e.1,e.2.2.1⟩
 obtain ⟨rfl,rfl⟩ := e';have hz : xs.length = 0 ↔ z = 0 := by
  constructor
  ·intro h
   have : xs = [] := List.length_eq_zero_iff.1 h;subst this;rw [← z0];cases n <;> simp [iv,val]
  ·intro h
   subst h;obtain ⟨-,q⟩ := zhH (n := n) (m := false) (xs := xs) (ys := []) (by rw [z0];simp [iv,val]) q0 ⟨WF.nil,rfl⟩ e0 (fun _ => rfl);rw [q];rfl
 refine ⟨?_,hz⟩;have h0 := zIA q0.1;cases n with
 | false =>
  have : z = val xs := by rw [← z0];simp [iv]
  symm
  exact decide_eq_false (by omega)
 | true =>
  have h1 : z = - val xs := by rw [← z0];simp [iv]
  have h2 : ¬ xs = [] := fun q => by have := e0 q;cases this
  have h3 : z ≠ 0 := fun q => h2 (List.length_eq_zero_iff.1 (hz.2 q))
  symm
  exact decide_eq_true (by omega)
theorem zLG {w : World} {n : Bool} {a : Option Addr} {l c k : Nat} {z : Int} (h : Zc w (.agg #[.bool n,.slice a l c]) z k) : Calls Tryz.prog 36 #[.agg #[.bool n,.slice a l c]] w fun e w' => e = .returned (.bool (decide (z = 0))) ∧ Below w.heap.size w w' := by
 obtain ⟨h1,h2⟩ := h.neg21;have HB := hid (alo1 w (duo (.bool n) (.slice a l c))).1;have P0 := Duo.new w (.bool n) (.slice a l c);have x0 := P0.c0;have x1 := P0.c1
 by_cases hz : z = 0
 ·have hl : l = 0 := h2.2 hz
  have hnn : n = false := by rw [h1];exact decide_eq_false (by omega)
  subst hl hnn;rw [decide_eq_true hz];clear h h1 h2 P0 hz;go_enter Tryz.func36,Tryz.ntmps36;go_wp2;go_ret;exact ⟨rfl,HB.out⟩
 ·have hl : ¬ (l : Int) = 0 := fun q => hz (h2.1 (by omega))
  have hl2 : ¬ l = 0 := by omega
  rw [decide_eq_false hz];clear h h1 h2 P0 hz;go_enter Tryz.func36,Tryz.ntmps36;go_wp2;go_ret;exact ⟨rfl,HB.out⟩
theorem row21 {w : World} {m n i l c b off : Nat} (hi : i < m) (hn0 : 0 < n) (hm : m ≤ 64) (hn : n ≤ 64) (hl : m * n ≤ c) :
  Calls Tryz.prog 35 #[.agg #[.int .i64 (m : Int),.int .i64 (n : Int),.slice (some ⟨b,off,none⟩) l c],.int .i64 (i : Int)] w fun e w' => ∃ c',e = .returned (.slice (some ⟨b,off + 2 * (i * n),none⟩) n c') ∧ n ≤ c' ∧ Below w.heap.size w w' := by
 obtain ⟨W0,hW⟩ : ∃ W0,w.alloc (.cells #[.int .i64 (m : Int),.int .i64 (n : Int),.slice (some ⟨b,off,none⟩) l c] 24) = W0 := ⟨_,rfl⟩
 obtain ⟨b0,sz0⟩ := alo1 w (.cells #[.int .i64 (m : Int),.int .i64 (n : Int),.slice (some ⟨b,off,none⟩) l c] 24);rw [hW] at b0 sz0;have dA : Cel W0 w.heap.size 24 [.int .i64 (m : Int),.int .i64 (n : Int),.slice (some ⟨b,off,none⟩) l c] := by rw [← hW];exact Cel.new w _ _
 have x1 := dA.at (i := 1) rfl;have x2 := dA.at (i := 2) rfl;have hm0 := zqB (i := i) (c := n) (by omega) hn;have hm1 := zqB (i := i + 1) (c := n) (by omega) hn;have hwi := zWA (i := i) (by omega);have hb1 : (i + 1) * n ≤ m * n := Nat.mul_le_mul_right n hi;have hb2 : (i + 1) * n = i * n + n := by rw [Nat.add_mul,Nat.one_mul]
 obtain ⟨lo,hlo⟩ : ∃ lo,i * n = lo := ⟨_,rfl⟩
 obtain ⟨hh,hhi⟩ : ∃ hh,(i + 1) * n = hh := ⟨_,rfl⟩
 rw [hlo] at hm0 hb2;rw [hhi] at hm1 hb1 hb2;rw [hlo];have hsl := zDF W0 b off l c lo hh (by omega) (by omega) (by omega);rw [show hh - lo = n by omega] at hsl;have FF : Hid (∃ c',(Ending.returned (.slice (some ⟨b,off + 2 * lo,none⟩) n (c - lo))) = .returned (.slice (some ⟨b,off + 2 * lo,none⟩) n c') ∧ n ≤ c' ∧ Below w.heap.size w W0) := ⟨_,rfl,by omega,b0⟩
 have EW := hid hW;have hm2 : IntKind.i64.wrap (((i : Int) + 1) * (n : Int)) = (hh : Int) := by simpa using hm1
 have hm3 := hm2;have hm4 := hm0;rw [IntKind.wrap_i64] at hm3 hm4;obtain ⟨bx,hbx⟩ : ∃ bx,w.heap.size = bx := ⟨_,rfl⟩
 rw [hbx] at x1 x2;have EBX := hid hbx;clear b0 sz0 hW dA hlo hhi hb1 hb2 hl hbx;go_enter Tryz.func35,Tryz.ntmps35;go_upto_region 1 with fail
 rw [EW.out,EBX.out];clear EW EBX;go_wp2;go_ret;exact FF.out
end Go.Proofs.YtbcgggadelnaaaaGreat
