/-
 QCo13ToLi17: Co13, En17, Sw17, Li17, joined.
-/
import Derived.Test.YtffkmeocmjohmaaGreatQSo13ToDt13
import Derived.Test.YtffkmeocmjohmaaGreatQVl13ToSl13
import Derived.Test.YtffkmeocmjohmaaGreatQROrderToZe17
import Derived.Test.YtffkmeocmjohmaaGreatQSp17
import Derived.Test.YtffkmeocmjohmaaGreatQCr17ToFar
import Derived.Test.YtffkmeocmjohmaaGreatQCy17ToIx13
import Derived.Test.YtffkmeocmjohmaaGreatQDim17ToCf8
import Derived.Test.YtffkmeocmjohmaaGreatQFb17ToLk17

set_option maxRecDepth 100000
set_option maxHeartbeats 6400000
set_option linter.unusedVariables false
set_option linter.unusedSimpArgs false
namespace Go.Proofs.YtffkmeocmjohmaaGreat
open Go.RowKit
def zrI (w : World) (r c : Nat) (zs : List Int) (kw : Nat) (e : Ending) (w' : World) : Prop :=
 ∃ rs cs odd rv cv n a l cc,e = .returned (.tuple #[rv,cv,.agg #[.bool n,.slice a l cc],.int .i64 0]) ∧ Stz (en c zs) c r rs cs odd ∧ Ivs w.heap.size w' rv rs ∧ Ivs w.heap.size w' cv (srt cs) ∧ Zm w.heap.size w' (.agg #[.bool n,.slice a l cc]) (detS (en c zs) rs cs odd) kw ∧ (∀ b,rv.ownBlock = some b → cv.ownBlock ≠ some b) ∧ Below w.heap.size w w'
theorem core_yes {w : World} {v : Value} {r c : Nat} {zs : List Int} {k : Nat} (h : Mx w v r c zs k) (hk : k ≤ 4000000000) : Calls Tryz.prog 36 #[v] w (zrI w r c zs (64 * k + 7)) := by
 have M0 := h;obtain ⟨aa,qa,rfl,hr64,hc64⟩ := h.form;obtain ⟨la,hla⟩ : ∃ la,r * c = la := ⟨_,rfl⟩
 rw [hla] at M0 ⊢;obtain ⟨W0,hW⟩ : ∃ W0,(w.alloc (matO r c (.slice aa la qa))).alloc zbox = W0 := ⟨_,rfl⟩
 obtain ⟨b0,sz0⟩ := zuA w (matO r c (.slice aa la qa)) zbox;rw [hW] at b0 sz0;have PR : Hid (Duo W0 (w.heap.size + 1) (.bool false) (.slice none 0 0)) := by
  unfold Hid;rw [← hW];have := Duo.new (w.alloc (matO r c (.slice aa la qa))) (.bool false) (.slice none 0 0)
  simpa using this
 have PM : Hid (Cel W0 w.heap.size 35 (matc r c (.slice aa la qa))) := by
  unfold Hid;rw [← hW];exact (Cel.new w 35 (matc r c (.slice aa la qa))).step ((Below.refl _ _).alloc (Nat.le_refl _) _)
 have M1 := hid (M0.now b0);have HC := hid (zLF M1.out);have G := hid b0;have EW := hid hW;have SZ := hid sz0;have HKK := hid hk;clear h M0 b0 sz0 hW hk hla;go_enter Tryz.func36,Tryz.ntmps36;go_wp2_with fail;rw [EW.out];clear EW;refine HC.out.mono ?_;rintro e w1 ⟨rfl,b⟩;replace PR := hid (PR.out.step b);replace PM := hid (PM.out.step b);replace M1 := hid (M1.out.now b);have G1 := hid (zAA G.out b);have HST := hid (stairsOf_any M1.out HKK.out);have lz1 := b.size;have x0 := PM.out.at (i := 0) rfl;have x1 := PM.out.at (i := 1) rfl;have x2 := PM.out.at (i := 2) rfl;clear HC b M1 G;go_wp2_with fail;clear x0 x1 x2;refine HST.out.mono ?_;rintro e w2 ⟨Bs,B,rs,cs,odd,ks,rfl,hs1,hz1,hb1,hb2,b⟩;have HS1 := hid hs1;have HZ1 := hid hz1;obtain ⟨rv,cv,lv,s1,s2,s3,s4,s5⟩ := hs1;obtain ⟨ra,rcap,rfl,-,-⟩ := s2.form;obtain ⟨ca,ccap,rfl,-,-⟩ := s3.form;have x0 := s1.at (i := 0) rfl;have x1 := s1.at (i := 1) rfl;have HR64 : Hid (rs.length ≤ 64) := Nat.le_trans hz1.le hr64;have HL64 : Hid (cs.length ≤ 64) := by unfold Hid;rw [hz1.len];exact HR64.out
 have HSS := hid hz1.srt;obtain ⟨rl,hrl⟩ : ∃ rl,rs.length = rl := ⟨_,rfl⟩
 obtain ⟨cl,hcl⟩ : ∃ cl,cs.length = cl := ⟨_,rfl⟩
 have HSL : Hid ((srt cs).length = cl) := by unfold Hid;rw [hz1.srt.2.1,hcl]
 rw [hrl] at x0 s2;rw [hcl] at x1 s3;have HI2 := hid s2;have HI3 := hid s3;have HBB : Hid (w.heap.size ≤ B) := by unfold Hid;have := G1.out.size;omega
 replace PR := hid (PR.out.step b);replace G1 := hid (zAA G1.out b);have hsz := SZ.out;have lz2 := b.size;clear s1 s2 s3 s4 s5 hz1 hb1 hb2 b HST PM hrl hcl;go_upto_region 5 with fail
 have KB : Hid (∀ w',Below w2.heap.size w2 w' → w'.cell? ⟨Bs,0,none⟩ = some (.slice ra rl rcap) ∧ w'.cell? ⟨Bs,1,none⟩ = some (.slice ca cl ccap)) := fun w' h => ⟨cnow h x0,cnow h x1⟩
 refine zFA (fun w' => w'.cell? ⟨Bs,0,none⟩ = some (.slice ra rl rcap) ∧ w'.cell? ⟨Bs,1,none⟩ = some (.slice ca cl ccap)) 12 (by kernel_rfl) ?_;obtain ⟨D41,hD⟩ : ∃ D41,w2.drew = D41 := ⟨_,rfl⟩
 have GB : Hid (Below w2.heap.size w2 D41) := by unfold Hid;rw [← hD];exact (Below.refl _ _).drew
 rw [hD];clear hD;have D5Z := GB.out.size;refine zDA [(0,(.pointer (some ⟨Bs,0,none⟩))),(1,(.pointer (some ⟨Bs,0,none⟩))),(2,(.pointer (some ⟨Bs,0,none⟩))),(3,(.slice ra rl rcap)),(4,(.pointer (some ⟨Bs,0,none⟩))),(5,(.pointer (some ⟨Bs,0,none⟩))),(6,(.pointer (some ⟨Bs,1,none⟩))),(7,(.slice ca cl ccap)),(10,(.pointer (some ⟨Bs,0,none⟩)))] 9 ?_ (KB.out _ GB.out) ?_
 ·simp only [zJA,gA9,g09,g19,Act.put,sI9,s09,s19];(repeat' (first | exact trivial | refine And.intro (Or.inl ⟨by rfl,?_⟩) ?_)) <;> (intro w hSw;(try dsimp only at hSw);go_simp)
 simp only [actV,gA9,g09,g19,Act.put,sI9,s09,s19];refine zBA (i := 8) (o := ⟨some 24,.call { callee := .value (.func 68),args := #[.tmp 23],argTypes := #[26] },109, "bareiss.go:44",#[⟨7,.data⟩],none⟩) (by kernel_rfl) rfl (fun K hK => ?_);go_simp;go_at_call 68;refine values13.mono ?_;rintro e w42 ⟨rfl,hw8⟩;have b : Below D41.heap.size D41 w42 := by rw [hw8];exact (Below.refl _ _).alloc (Nat.le_refl _) _
 have CB : Hid (w42.cell? ⟨D41.heap.size,0,none⟩ = some (.slice ca cl ccap)) := by unfold Hid;rw [hw8];exact (Cel.new D41 26 [(.slice ca cl ccap)]).at (i := 0) rfl
 replace GB := hid (zAA GB.out b);have lz8 := b.size;clear hw8 b;refine hK.out _ _ (fun _ => KB.out _ GB.out) ?_;clear hK;refine zBA (i := 9) (o := ⟨some 25,.call { callee := .value (.func 67),args := #[.tmp 24],argTypes := #[109] },26, "bareiss.go:44",#[⟨8,.data⟩,⟨8,.chain⟩],none⟩) (by kernel_rfl) rfl (fun K hK => ?_);go_simp;go_at_call 67;refine (sorted13 (HI3.out.now GB.out) CB.out HL64.out HSS.out).mono ?_;rintro e w43 ⟨sv,rfl,hsv,b⟩;have lz43 := (show Below _ _ _ from b).size;replace GB := hid (zAA GB.out b);have SV := hid hsv;obtain ⟨sa,scap,hsvf,-,-⟩ := hsv.form;rw [HSL.out] at hsvf;subst hsvf;clear hsv CB;clear b;refine hK.out _ _ (fun _ => KB.out _ GB.out) ?_;clear hK;refine zBA (i := 11) (o := ⟨some 27,.call { callee := .value (.func 69),args := #[.tmp 26],argTypes := #[103] },45, "bareiss.go:44",#[⟨10,.data⟩,⟨9,.chain⟩],none⟩) (by kernel_rfl) rfl (fun K hK => ?_);go_simp;go_at_call 69;refine (sdet_any (HS1.out.now GB.out) HZ1.out (by omega) hc64 HR64.out).mono ?_;rintro e w44 ⟨r0,rfl,m1,b⟩;have lz44 := (show Below _ _ _ from b).size;replace GB := hid (zAA GB.out b);replace SV := hid (SV.out.now b);obtain ⟨nr,xr,ar,cr,rfl⟩ := m1.parts;have M1 := hid m1;clear m1;clear b;refine hK.out _ _ (fun _ => KB.out _ GB.out) ?_;clear hK;refine zBA (i := 12) (o := ⟨some 2,.assign (.tmp 19),26, "bareiss.go:44",#[⟨3,.data⟩,⟨11,.chain⟩,⟨0,.phase⟩,⟨1,.phase⟩,⟨2,.phase⟩,⟨3,.phase⟩,⟨4,.textOnly .lateStores⟩,⟨5,.textOnly .lateStores⟩,⟨6,.textOnly .lateStores⟩,⟨7,.textOnly .lateStores⟩,⟨8,.textOnly .lateStoresUnsure⟩,⟨9,.textOnly .lateStoresUnsure⟩,⟨10,.textOnly .lateStores⟩,⟨11,.textOnly .lateStoresUnsure⟩],none⟩) (by kernel_rfl) rfl (fun K hK => ?_);go_simp;refine hK.out _ _ (fun h => absurd h (by decide)) ?_;clear hK
 try simp only [Act.put]
 refine zBA (i := 13) (o := ⟨some 3,.assign (.tmp 25),26, "bareiss.go:44",#[⟨9,.data⟩,⟨12,.chain⟩,⟨0,.phase⟩,⟨1,.phase⟩,⟨2,.phase⟩,⟨3,.phase⟩,⟨4,.phase⟩,⟨5,.phase⟩,⟨6,.phase⟩,⟨7,.phase⟩,⟨8,.phase⟩,⟨9,.phase⟩,⟨10,.textOnly .lateStores⟩,⟨11,.textOnly .lateStoresUnsure⟩,⟨12,.phase⟩],none⟩) (by kernel_rfl) rfl (fun K hK => ?_);go_simp;refine hK.out _ _ (fun h => absurd h (by decide)) ?_;clear hK
 try simp only [Act.put]
 refine zBA (i := 14) (o := ⟨none,.store 45 (.tmp 4) (.tmp 27),0, "bareiss.go:44",#[⟨11,.data⟩,⟨13,.chain⟩,⟨0,.phase⟩,⟨1,.phase⟩,⟨2,.phase⟩,⟨3,.phase⟩,⟨4,.phase⟩,⟨5,.phase⟩,⟨6,.phase⟩,⟨7,.phase⟩,⟨8,.phase⟩,⟨9,.phase⟩,⟨10,.phase⟩,⟨11,.phase⟩,⟨12,.phase⟩,⟨13,.phase⟩],none⟩) (by kernel_rfl) rfl (fun K hK => ?_);replace PR := hid (PR.out.step GB.out);have e0 := PR.out.c0;have e1 := PR.out.c1;have e2 := PR.out.fz 0;have e3 := PR.out.fz 1;go_simp;clear e0 e1 e2 e3;obtain ⟨V45,hW⟩ : ∃ V45,((w44.setCell ⟨w.heap.size + 1,0,none⟩ (.bool nr)).setCell ⟨w.heap.size + 1,1,none⟩ (.slice ar xr.length cr)) = V45 := ⟨_,rfl⟩
 have FIN : Hid (zrI w r c zs (64 * k + 7) (.returned (.tuple #[(.slice ra rl rcap),.slice sa cl scap,.agg #[.bool nr,.slice ar xr.length cr],.int .i64 0])) V45 ∧ Duo V45 (w.heap.size + 1) (.bool nr) (.slice ar xr.length cr)) := by
  unfold Hid;rw [← hW];have ty := PR.out.ty13 (.bool nr) (.slice ar xr.length cr);have g := zsF M1.out (zAA G1.out GB.out) (show w.heap.size ≤ w.heap.size + 1 by omega) (show w.heap.size + 1 < _ by omega);obtain ⟨_,e,g1,g2⟩ := g;simp only [Ending.returned.injEq] at e;subst e;have i1 : Ivs w.heap.size _ (.slice ra rl rcap) rs := znA ((HI2.out.now GB.out).ty ty (by decide)) HBB.out;have i2 : Ivs w.heap.size _ (.slice sa cl scap) (srt cs) := znA (SV.out.ty ty (by decide)) (by omega);refine ⟨⟨rs,cs,odd,_,_,_,_,_,_,rfl,HZ1.out,i1,i2,g1,fun b hb1 hb2 => ?_,g2⟩,PR.out.set _ _⟩;have l1 := (Array.getElem?_eq_some_iff.1 (HI2.out.blk hb1).2.choose_spec).1;have l2 := (SV.out.blk hb2).1;omega
 rw [hW];clear hW;refine hK.out _ _ (fun h => absurd h (by decide)) ?_;clear hK
 try simp only [Act.put]
 refine zBA (i := 15) (o := ⟨some 5,.assign (.const (.int .i64 0)),27, "bareiss.go:44",#[⟨14,.chain⟩,⟨0,.phase⟩,⟨1,.phase⟩,⟨2,.phase⟩,⟨3,.phase⟩,⟨4,.phase⟩,⟨5,.phase⟩,⟨6,.phase⟩,⟨7,.phase⟩,⟨8,.phase⟩,⟨9,.phase⟩,⟨10,.phase⟩,⟨11,.phase⟩,⟨12,.phase⟩,⟨13,.phase⟩,⟨14,.phase⟩],none⟩) (by kernel_rfl) rfl (fun K hK => ?_);go_simp;refine hK.out _ _ (fun h => absurd h (by decide)) ?_;clear hK
 try simp only [Act.put]
 refine zEA (by kernel_rfl) ?_ _;clear HS1 HZ1 M1 GB KB SV HI2 HI3;have z0 := FIN.out.2.c0;have z1 := FIN.out.2.c1;go_wp2_with fail;exact bodyPost_ret (by simp [results,Tryz.results36,go_sem,z0,z1]) rfl FIN.out.1
def Num1 (w : World) (x : Int) (e : Ending) (w' : World) : Prop := e = .returned (.tuple #[.int .i64 x,.int .i64 0]) ∧ Below w.heap.size w w'
theorem rank_yes {w : World} {v : Value} {r c : Nat} {zs : List Int} {k : Nat} (h : Mx w v r c zs k) (hk : k ≤ 4000000000) : Calls Tryz.prog 11 #[v] w fun e w' => ∃ rs cs odd,Stz (en c zs) c r rs cs odd ∧ Num1 w (rs.length : Int) e w' := by
 have M0 := h;obtain ⟨aa,qa,rfl,hr64,hc64⟩ := h.form;obtain ⟨la,hla⟩ : ∃ la,r * c = la := ⟨_,rfl⟩
 rw [hla] at M0 ⊢;obtain ⟨W0,hW⟩ : ∃ W0,w.alloc (matO r c (.slice aa la qa)) = W0 := ⟨_,rfl⟩
 obtain ⟨b0,sz0⟩ := alo1 w (matO r c (.slice aa la qa));rw [hW] at b0 sz0;have HC := hid (core_yes (M0.now b0) hk);have G := hid b0;have EW := hid hW;clear h M0 b0 sz0 hW hk hla;go_enter Tryz.func11,Tryz.ntmps11;go_wp2_with fail;rw [EW.out];clear EW;refine HC.out.mono ?_;rintro e w1 ⟨rs,cs,odd,rv,cv,n,a,l,cc,rfl,hz,i1,i2,m,-,b⟩;obtain ⟨ra,rcap,rfl,-,-⟩ := i1.form;obtain ⟨ca,ccap,rfl,-,-⟩ := i2.form;have FIN : Hid (∃ rs' cs' odd',Stz (en c zs) c r rs' cs' odd' ∧ Num1 w (rs'.length : Int) (.returned (.tuple #[.int .i64 (rs.length : Int),.int .i64 0])) (w1.alloc (.cells #[.bool n,.slice a l cc] 45))) := ⟨rs,cs,odd,hz,rfl,zAA (zAA G.out b) ((Below.refl _ _).alloc (Nat.le_refl _) _)⟩
 clear hz i1 i2 m b HC;generalize rs.length = rl at *;generalize (srt cs).length = cl at *;go_wp2;go_ret2;exact FIN.out
open Q17 (Rref Eqv Comb sm vm dlt)
def eR (c : Nat) (E : Nat → Nat → Rat) (t : Nat) : Rat := E (t / c) (t % c)
theorem zWI {c i j : Nat} {E : Nat → Nat → Rat} (hj : j < c) : eR c E (i * c + j) = E i j := by
 unfold eR;rw [(zhD hj).1,(zhD hj).2]
theorem ech_self {r c : Nat} {E : Nat → Nat → Rat} {pv : List Nat} (h : Rref r c E pv) : Rref r c (fun i j => eR c E (i * c + j)) pv := h.congr (Nat.le_refl _) fun i j hi hj => zWI hj
theorem ech_spans {r c : Nat} {P Q : Nat → Int} {E : Nat → Nat → Rat} {pv : List Nat} (h : Rref r c E pv) (he : Eqv c r E (qfr c P Q)) {i j : Nat} (hi : i < r) (hj : j < c) : qfr c P Q i j = psm c P Q (eR c E) pv i j pv.length := by
 rw [h.spans he.2 hi hj];unfold psm;exact Q17.sm_congr fun k hk => by rw [zWI hj]
theorem ech_same {r c : Nat} {E E2 : Nat → Nat → Rat} {pv pv2 : List Nat} (h : Rref r c E pv) (h2 : Rref r c E2 pv2) (he : Eqv c r E2 (qfr c (nmR (eR c E)) (dnR (eR c E)))) : pv2 = pv ∧ ∀ t,t < r * c → eR c E2 t = eR c E t := by
 have e1 : Eqv c r E2 E := he.trans (Q17.Eqv.same fun i j hi hj => by rw [qfr_num,zWI hj]);obtain ⟨q1,q2⟩ := Q17.Rref.unique Q17.fld17 h2 h e1;refine ⟨q1,fun t ht => ?_⟩;have hc : 0 < c := Nat.pos_of_ne_zero fun e => by subst e;simp at ht
 exact q2 _ _ ((Nat.div_lt_iff_lt_mul hc).2 ht) (Nat.mod_lt _ hc)
theorem ech_rank {r c : Nat} {P Q : Nat → Int} {E : Nat → Nat → Rat} {pv rs cs : List Nat} {odd : Bool} (h : Rref r c E pv) (he : Eqv c r E (qfr c P Q)) (hs : Stz (en c (whF r c P Q)) c r rs cs odd) : rs.length = pv.length := by
 have e1 : Eqv c r (qm (en c (whF r c P Q))) (qm (wha c (rwP c P) (rwP c Q))) := Q17.Eqv.same fun i j hi hj => by
  unfold qm en whF;rw [zGF (zeA hi hj),(zhD hj).1,(zhD hj).2]
 have e2 : Eqv c r E (qm (en c (whF r c P Q))) := he.trans (zlG.symm.trans e1.symm);exact rank17 hs h e2.1 e2.2
def swp (c i j t x : Nat) : Nat := if x % c < t then (if x / c = i then j * c + x % c else if x / c = j then i * c + x % c else x) else x
theorem swp_zero (c i j x : Nat) : swp c i j 0 x = x := by unfold swp;rw [if_neg (by omega)]
theorem zwH {r c i j t x : Nat} (hi : i < r) (hj : j < r) (hx : x < r * c) : swp c i j t x < r * c := by
 have hc : 0 < c := Nat.pos_of_ne_zero fun e => by subst e;simp at hx
 have hm := Nat.mod_lt x hc;unfold swp
 by_cases q : x % c < t
 ·rw [if_pos q]
  by_cases q1 : x / c = i
  ·rw [if_pos q1];exact zeA hj hm
  ·rw [if_neg q1]
   by_cases q2 : x / c = j
   ·rw [if_pos q2];exact zeA hi hm
   ·rw [if_neg q2];exact hx
 ·rw [if_neg q];exact hx
theorem swp_step {l c i j t : Nat} {C : Nat → Nat → Value} (ht : t < c) : cl4 l (up4 (up4 (fun x => C (swp c i j t x)) (i * c + t) (C (j * c + t))) (j * c + t) (C (i * c + t))) = cl4 l (fun x => C (swp c i j (t + 1) x)) := zKF fun x hx => by
 have hc : 0 < c := by omega
 have hm := Nat.mod_lt x hc;have ex : x = x / c * c + x % c := by rw [Nat.mul_comm];exact (Nat.div_add_mod x c).symm
 funext s
 unfold up4 swp
 by_cases q1 : x = j * c + t
 ·rw [if_pos q1]
  have d1 : x / c = j := by rw [q1];exact (zhD ht).1
  have d2 : x % c = t := by rw [q1];exact (zhD ht).2
  rw [if_pos (by omega),d1,d2]
  by_cases e : j = i
  ·rw [if_pos e,e]
  ·rw [if_neg e,if_pos rfl]
 ·rw [if_neg q1]
  by_cases q2 : x = i * c + t
  ·rw [if_pos q2]
   have d1 : x / c = i := by rw [q2];exact (zhD ht).1
   have d2 : x % c = t := by rw [q2];exact (zhD ht).2
   rw [if_pos (show x % c < t + 1 by omega),if_pos d1,d2]
  ·rw [if_neg q2]
   dsimp only
   by_cases q3 : x % c < t
   ·rw [if_pos q3,if_pos (show x % c < t + 1 by omega)]
   ·rw [if_neg q3]
    by_cases q4 : x % c < t + 1
    ·have d2 : x % c = t := by omega
     rw [d2] at ex;rw [if_pos q4,if_neg (fun e => q2 (by rw [e] at ex;exact ex)),if_neg (fun e => q1 (by rw [e] at ex;exact ex))]
    ·rw [if_neg q4]
theorem znB {c i j t : Nat} (ht : t < c) (a : Nat) : swp c i j t (a * c + t) = a * c + t := by
 unfold swp;rw [if_neg (by rw [(zhD ht).2];omega)]
theorem swp_qfr {c i j a b : Nat} {P Q : Nat → Int} (hb : b < c) : qfr c (fun x => P (swp c i j c x)) (fun x => Q (swp c i j c x)) a b = qfr c P Q (if a = i then j else if a = j then i else a) b := by
 unfold qfr swp;dsimp only;rw [(zhD hb).1,(zhD hb).2,if_pos hb]
 by_cases q1 : a = i
 ·rw [if_pos q1,if_pos q1]
 ·rw [if_neg q1,if_neg q1]
  by_cases q2 : a = j
  ·rw [if_pos q2,if_pos q2]
  ·rw [if_neg q2,if_neg q2]
theorem ech_swap {r c i j : Nat} {P Q : Nat → Int} {E E3 : Nat → Nat → Rat} {pv pv3 : List Nat} (hi : i < r) (hj : j < r) (h : Rref r c E pv) (he : Eqv c r E (qfr c P Q)) (h3 : Rref r c E3 pv3) (he3 : Eqv c r E3 (qfr c (fun x => P (swp c i j c x)) (fun x => Q (swp c i j c x)))) : pv3 = pv ∧ ∀ t,t < r * c → eR c E3 t = eR c E t := by
 have e1 : Eqv c r E3 E := he3.trans ((Q17.eqv_swap hi hj fun a b ha hb => swp_qfr hb).trans he.symm);obtain ⟨q1,q2⟩ := Q17.Rref.unique Q17.fld17 h3 h e1;refine ⟨q1,fun t ht => ?_⟩;have hc : 0 < c := Nat.pos_of_ne_zero fun e => by subst e;simp at ht
 exact q2 _ _ ((Nat.div_lt_iff_lt_mul hc).2 ht) (Nat.mod_lt _ hc)
theorem Qs.even {w : World} {v : Value} {n k : Nat} {P Q : Nat → Int} (h : Qs w v n P Q k) (hz : ∀ t,t < n → Q t ≠ 0) : Wd17 n P Q (fun _ => 2 * k) (n * (2 * k)) := zVF hz fun t ht => by
 obtain ⟨a,c,e,_,_,hf⟩ := h.form;subst e;obtain ⟨b,off,rfl⟩ := hf (by omega);obtain ⟨n1,a1,l1,c1,n2,a2,l2,c2,_,_,_,_,z1,z2⟩ := h.at ht;have := z1.lt;have := z2.lt;omega
end Go.Proofs.YtffkmeocmjohmaaGreat
namespace Go.Proofs.YtffkmeocmjohmaaGreat
open Go.RowKit
structure SwJ (W : World) (bc gp rn cn l : Nat) (C : Nat → Nat → Value) (P Q : Nat → Int) (i j t : Nat) (wx : World) : Prop where
 p : Cel wx bc 24 [.int .i64 (rn : Int),.int .i64 (cn : Int),.slice (some ⟨gp,0,none⟩) l l]
 c : Cel wx gp 47 (cl4 l (fun x => C (swp cn i j t x)) ++ [])
 z : ∀ x,x < l → Zi wx (.agg #[C x 0,C x 1]) (P x) 1048576 ∧ Zi wx (.agg #[C x 2,C x 3]) (Q x) 1048576
 b : Below W.heap.size W wx
theorem SwJ.now {W : World} {bc gp rn cn l : Nat} {C : Nat → Nat → Value} {P Q : Nat → Int} {i j t : Nat} {wx wy : World} (h : SwJ W bc gp rn cn l C P Q i j t wx) (hb : Below wx.heap.size wx wy) : SwJ W bc gp rn cn l C P Q i j t wy :=
 ⟨h.p.step hb,h.c.step hb,fun x hx => ⟨(h.z x hx).1.now hb,(h.z x hx).2.now hb⟩,zAA h.b hb⟩
theorem zGE {w : World} {gp l cn i j t x : Nat} {C : Nat → Nat → Value} (h : Cel w gp 47 (cl4 l (fun x => C (swp cn i j t x)) ++ [])) (hx : x < l) (e : swp cn i j t x = x) : w.cell? ⟨gp,x * 4,none⟩ = some (C x 0) ∧ w.cell? ⟨gp,x * 4 + 1,none⟩ = some (C x 1) ∧ w.cell? ⟨gp,x * 4 + 2,none⟩ = some (C x 2) ∧ w.cell? ⟨gp,x * 4 + 3,none⟩ = some (C x 3) := by
 have g0 := zWA h hx (show 0 < 4 by omega);have g1 := zWA h hx (show 1 < 4 by omega);have g2 := zWA h hx (show 2 < 4 by omega);have g3 := zWA h hx (show 3 < 4 by omega)
 try dsimp only at g0 g1 g2 g3
 rw [e] at g0 g1 g2 g3;exact ⟨g0,g1,g2,g3⟩
theorem zlD {w : World} {gp l cn i j t x : Nat} {C : Nat → Nat → Value} (h : Cel w gp 47 (cl4 l (fun x => C (swp cn i j t x)) ++ [])) (hx : x < l) (hq : ∀ x,x < l → IsQ (C x)) (e : swp cn i j t x = x) : ∃ n1 a1 l1 c1 n2 a2 l2 c2,C x 0 = .bool n1 ∧ C x 1 = .slice a1 l1 c1 ∧ C x 2 = .bool n2 ∧ C x 3 = .slice a2 l2 c2 ∧ w.cell? ⟨gp,x * 4,none⟩ = some (.bool n1) ∧ w.cell? ⟨gp,x * 4 + 1,none⟩ = some (.slice a1 l1 c1) ∧ w.cell? ⟨gp,x * 4 + 2,none⟩ = some (.bool n2) ∧ w.cell? ⟨gp,x * 4 + 3,none⟩ = some (.slice a2 l2 c2) := by
 obtain ⟨n1,a1,l1,c1,n2,a2,l2,c2,e0,e1,e2,e3⟩ := hq x hx;obtain ⟨g0,g1,g2,g3⟩ := zGE h hx e;rw [e0] at g0;rw [e1] at g1;rw [e2] at g2;rw [e3] at g3;exact ⟨n1,a1,l1,c1,n2,a2,l2,c2,e0,e1,e2,e3,g0,g1,g2,g3⟩
theorem SwJ.at17 {W : World} {bc gp rn cn l : Nat} {C : Nat → Nat → Value} {P Q : Nat → Int} {i j t x : Nat} {wx : World} {v0 v1 v2 v3 : Value} (h : SwJ W bc gp rn cn l C P Q i j t wx) (hx : x < l) (he : C x 0 = v0 ∧ C x 1 = v1 ∧ C x 2 = v2 ∧ C x 3 = v3) (e : swp cn i j t x = x) : wx.cell? ⟨gp,x * 4,none⟩ = some v0 ∧ wx.cell? ⟨gp,x * 4 + 1,none⟩ = some v1 ∧ wx.cell? ⟨gp,x * 4 + 2,none⟩ = some v2 ∧ wx.cell? ⟨gp,x * 4 + 3,none⟩ = some v3 := by
 obtain ⟨g0,g1,g2,g3⟩ := zGE h.c hx e;obtain ⟨e0,e1,e2,e3⟩ := he;rw [e0] at g0;rw [e1] at g1;rw [e2] at g2;rw [e3] at g3;exact ⟨g0,g1,g2,g3⟩
theorem SwJ.put17 {W : World} {bc gp rn cn l : Nat} {C : Nat → Nat → Value} {P Q : Nat → Int} {i j t xi xj : Nat} {X : World} {n1 n2 m1 m2 : Bool} {a1 a2 o1 o2 : Option Addr} {l1 c1 l2 c2 p1 q1 p2 q2 : Nat} (h : SwJ W bc gp rn cn l C P Q i j t X) (hi : xi < l) (hj : xj < l) (exi : xi = i * cn + t) (exj : xj = j * cn + t) (ht : t < cn) (hq : ∀ x,x < l → IsQ (C x))
  (hei : C xi 0 = .bool n1 ∧ C xi 1 = .slice a1 l1 c1 ∧ C xi 2 = .bool n2 ∧ C xi 3 = .slice a2 l2 c2) (hej : C xj 0 = .bool m1 ∧ C xj 1 = .slice o1 p1 q1 ∧ C xj 2 = .bool m2 ∧ C xj 3 = .slice o2 p2 q2) (hg : W.heap.size ≤ gp) (hb : W.heap.size ≤ bc) :
  Cel ((((X.setCell ⟨gp,xi * 4,none⟩ (.bool m1)).setCell ⟨gp,xi * 4 + 1,none⟩ (.slice o1 p1 q1)).setCell ⟨gp,xi * 4 + 2,none⟩ (.bool m2)).setCell ⟨gp,xi * 4 + 3,none⟩ (.slice o2 p2 q2)) bc 24 [.int .i64 (rn : Int),.int .i64 (cn : Int),.slice (some ⟨gp,0,none⟩) l l]
  ∧ (((((X.setCell ⟨gp,xi * 4,none⟩ (.bool m1)).setCell ⟨gp,xi * 4 + 1,none⟩ (.slice o1 p1 q1)).setCell ⟨gp,xi * 4 + 2,none⟩ (.bool m2)).setCell ⟨gp,xi * 4 + 3,none⟩ (.slice o2 p2 q2)).cell? ⟨gp,xj * 4,none⟩ = some (.bool m1)
   ∧ ((((X.setCell ⟨gp,xi * 4,none⟩ (.bool m1)).setCell ⟨gp,xi * 4 + 1,none⟩ (.slice o1 p1 q1)).setCell ⟨gp,xi * 4 + 2,none⟩ (.bool m2)).setCell ⟨gp,xi * 4 + 3,none⟩ (.slice o2 p2 q2)).cell? ⟨gp,xj * 4 + 1,none⟩ = some (.slice o1 p1 q1)
   ∧ ((((X.setCell ⟨gp,xi * 4,none⟩ (.bool m1)).setCell ⟨gp,xi * 4 + 1,none⟩ (.slice o1 p1 q1)).setCell ⟨gp,xi * 4 + 2,none⟩ (.bool m2)).setCell ⟨gp,xi * 4 + 3,none⟩ (.slice o2 p2 q2)).cell? ⟨gp,xj * 4 + 2,none⟩ = some (.bool m2)
   ∧ ((((X.setCell ⟨gp,xi * 4,none⟩ (.bool m1)).setCell ⟨gp,xi * 4 + 1,none⟩ (.slice o1 p1 q1)).setCell ⟨gp,xi * 4 + 2,none⟩ (.bool m2)).setCell ⟨gp,xi * 4 + 3,none⟩ (.slice o2 p2 q2)).cell? ⟨gp,xj * 4 + 3,none⟩ = some (.slice o2 p2 q2)
   ∧ ((((X.setCell ⟨gp,xi * 4,none⟩ (.bool m1)).setCell ⟨gp,xi * 4 + 1,none⟩ (.slice o1 p1 q1)).setCell ⟨gp,xi * 4 + 2,none⟩ (.bool m2)).setCell ⟨gp,xi * 4 + 3,none⟩ (.slice o2 p2 q2)).frozen? ⟨gp,xj * 4,none⟩ = false
   ∧ ((((X.setCell ⟨gp,xi * 4,none⟩ (.bool m1)).setCell ⟨gp,xi * 4 + 1,none⟩ (.slice o1 p1 q1)).setCell ⟨gp,xi * 4 + 2,none⟩ (.bool m2)).setCell ⟨gp,xi * 4 + 3,none⟩ (.slice o2 p2 q2)).frozen? ⟨gp,xj * 4 + 1,none⟩ = false
   ∧ ((((X.setCell ⟨gp,xi * 4,none⟩ (.bool m1)).setCell ⟨gp,xi * 4 + 1,none⟩ (.slice o1 p1 q1)).setCell ⟨gp,xi * 4 + 2,none⟩ (.bool m2)).setCell ⟨gp,xi * 4 + 3,none⟩ (.slice o2 p2 q2)).frozen? ⟨gp,xj * 4 + 2,none⟩ = false
   ∧ ((((X.setCell ⟨gp,xi * 4,none⟩ (.bool m1)).setCell ⟨gp,xi * 4 + 1,none⟩ (.slice o1 p1 q1)).setCell ⟨gp,xi * 4 + 2,none⟩ (.bool m2)).setCell ⟨gp,xi * 4 + 3,none⟩ (.slice o2 p2 q2)).frozen? ⟨gp,xj * 4 + 3,none⟩ = false)
  ∧ SwJ W bc gp rn cn l C P Q i j (t + 1) ((((((((X.setCell ⟨gp,xi * 4,none⟩ (.bool m1)).setCell ⟨gp,xi * 4 + 1,none⟩ (.slice o1 p1 q1)).setCell ⟨gp,xi * 4 + 2,none⟩ (.bool m2)).setCell ⟨gp,xi * 4 + 3,none⟩ (.slice o2 p2 q2)).setCell ⟨gp,xj * 4,none⟩ (.bool n1)).setCell ⟨gp,xj * 4 + 1,none⟩ (.slice a1 l1 c1)).setCell ⟨gp,xj * 4 + 2,none⟩ (.bool n2)).setCell ⟨gp,xj * 4 + 3,none⟩ (.slice a2 l2 c2))
  ∧ Below W.heap.size W ((((X.setCell ⟨gp,xi * 4,none⟩ (.bool m1)).setCell ⟨gp,xi * 4 + 1,none⟩ (.slice o1 p1 q1)).setCell ⟨gp,xi * 4 + 2,none⟩ (.bool m2)).setCell ⟨gp,xi * 4 + 3,none⟩ (.slice o2 p2 q2)) := by
 have hne : gp ≠ bc := fun e => by
  have h1 := h.c;have h2 := h.p;unfold Cel at h1 h2;rw [e] at h1;rw [h1] at h2;simp only [Option.some.injEq,Obj.cells.injEq] at h2;exact absurd h2.2.1 (by decide)
 have w1 := zUF h.c hi (hq _ (by rw [exi,znB ht];rw [← exi];exact hi)) (C xj 0) (C xj 1) (C xj 2) (C xj 3);have s1 := zmF h.c hi (C xj);have hqU : IsQ (up4 (fun x => C (swp cn i j t x)) xi (C xj) xj) := by
  unfold up4
  by_cases q : xj = xi
  ·simp only [q,if_true];exact hq xi hi
  ·simp only [q,if_false];rw [exj,znB ht,← exj];exact hq xj hj
 have eU : ∀ s,up4 (fun x => C (swp cn i j t x)) xi (C xj) xj s = C xj s := fun s => by
  unfold up4
  by_cases q : xj = xi
  ·rw [if_pos q]
  ·rw [if_neg q];dsimp only;rw [exj,znB ht]
 have w2 := zUF s1 hj hqU (C xi 0) (C xi 1) (C xi 2) (C xi 3);have s2 := zmF s1 hj (C xi);have es : cl4 l (up4 (up4 (fun x => C (swp cn i j t x)) xi (C xj)) xj (C xi)) = cl4 l (fun x => C (swp cn i j (t + 1) x)) := by rw [exi,exj];exact swp_step ht
 rw [es] at s2;have g0 := zWA s1 hj (show 0 < 4 by omega);have g1 := zWA s1 hj (show 1 < 4 by omega);have g2 := zWA s1 hj (show 2 < 4 by omega);have g3 := zWA s1 hj (show 3 < 4 by omega);rw [eU] at g0 g1 g2 g3;have z1 : ∀ x,x < l → _ := fun x hx => (⟨(h.z x hx).1.wk (w1.trans w2),(h.z x hx).2.wk (w1.trans w2)⟩ : _ ∧ _)
 obtain ⟨e0,e1,e2,e3⟩ := hei;obtain ⟨f0,f1,f2,f3⟩ := hej;have k1 := fun i' => s1.fz i'
 unfold zHD at *;rw [f0,f1,f2,f3] at s1 s2 g0 g1 g2 g3 z1 k1;rw [e0,e1,e2,e3] at s2 z1;refine ⟨(((h.p.ne hne).ne hne).ne hne).ne hne,⟨g0,g1,g2,g3,k1 _,k1 _,k1 _,k1 _⟩,⟨?_,s2,z1,?_⟩,?_⟩
 ·exact (((((((h.p.ne hne).ne hne).ne hne).ne hne).ne hne).ne hne).ne hne).ne hne
 ·exact bset (bset (bset (bset (bset (bset (bset (bset h.b hg) hg) hg) hg) hg) hg) hg) hg
 ·exact bset (bset (bset (bset h.b hg) hg) hg) hg
theorem SwJ.qs {W : World} {bc gp rn cn l : Nat} {C : Nat → Nat → Value} {P Q : Nat → Int} {i j : Nat} {wx : World} (h : SwJ W bc gp rn cn l C P Q i j cn wx) (hq : ∀ x,x < l → IsQ (C x)) (hs : ∀ x,x < l → swp cn i j cn x < l) (hl : l ≤ 1048576) : Qs wx (.slice (some ⟨gp,0,none⟩) l l) l (fun x => P (swp cn i j cn x)) (fun x => Q (swp cn i j cn x)) 1048576 :=
 FilP.qs (P := fun x => P (swp cn i j cn x)) (Q := fun x => Q (swp cn i j cn x)) ⟨_,h.c,fun x hx => hq _ (hs x hx),fun x hx => h.z _ (hs x hx)⟩ hl
theorem zmD : ∀ (xs : List Int),wid xs = xs.length → ∀ h : xs.length - 1 < xs.length,xs[xs.length - 1] ≠ 0
 | [x],hw,_ => by
  intro e;have e' : x = 0 := by simpa using e
  subst e';simp [wid] at hw
 | x :: y :: r,hw,_ => by
  have h1 : wid (y :: r) = (y :: r).length := by
   have := zSA (y :: r);rw [wid] at hw;have e : (x :: y :: r).length = (y :: r).length + 1 := rfl;rw [e] at hw
   by_cases q : wid (y :: r) = 0
   ·rw [if_pos q] at hw
    have e2 : (y :: r).length = r.length + 1 := rfl
    by_cases q2 : x = 0
    ·rw [if_pos q2] at hw;omega
    ·rw [if_neg q2] at hw;omega
   ·rw [if_neg q] at hw;omega
  have := zmD (y :: r) h1 (by simp)
  simpa using this
theorem zzD {w : World} {v : Value} {z : Int} {k : Nat} (h : Zc w v z k) : Calls Tryz.prog 62 #[v] w fun e w' => e = .returned (.bool true) ∧ Below w.heap.size w w' := by
 obtain ⟨n,xs,a,c,rfl,hs,hc,hn,-,-⟩ := h;obtain ⟨W0,hW⟩ : ∃ W0,w.alloc (duo (.bool n) (.slice a xs.length c)) = W0 := ⟨_,rfl⟩
 obtain ⟨b0,sz0⟩ := alo1 w (duo (.bool n) (.slice a xs.length c));rw [hW] at b0 sz0;have P1 : Duo W0 w.heap.size (.bool n) (.slice a xs.length c) := by rw [← hW];exact Duo.new w _ _
 have x0 := P1.c0;have x1 := P1.c1;have G := hid b0;have EW := hid hW
 by_cases hx : xs = []
 ·obtain rfl := hn hx
  subst hx;rw [← hW] at x0 x1;clear hs hc hn b0 sz0 hW P1;simp only [List.length_nil] at x1 EW ⊢;go_enter Tryz.func62,Tryz.ntmps62;go_wp2_with fail;rw [EW.out];go_ret;exact ⟨rfl,G.out⟩
 ·obtain ⟨hwf,a',cap,he,hcap,hlen,hq⟩ := hs
  simp only [Value.slice.injEq] at he;obtain ⟨rfl,-,rfl⟩ := he;rcases hq with hq | ⟨b,off,rfl,hb,hq⟩
  ·exact absurd hq hx
  ·have hpos : 0 < xs.length := List.length_pos_iff.2 hx
   have htop := zmD xs hc.2 (by omega);have y0 := cnow b0 (hq (xs.length - 1) (by omega));obtain ⟨m,hm⟩ : ∃ m,xs.length = m + 1 := ⟨xs.length - 1,by omega⟩
   have hwm : IntKind.i64.wrap (((m + 1 : Nat) : Int) - 1) = (m : Int) := by rw [zmA] <;> omega
   obtain ⟨t,ht⟩ : ∃ t,xs[xs.length - 1]'(by omega) = t := ⟨_,rfl⟩
   rw [ht] at htop y0;have hoff : xs.length - 1 = m := by omega
   rw [hoff] at y0;rw [hm] at x1 EW ⊢;have hne : (t != 0) = true := by simpa using htop
   have hlt : (m : Int) < ((m + 1 : Nat) : Int) := by omega
   have hz : (((m + 1 : Nat) : Int) == 0) = false := by simp;omega
   have hz2 : ¬ ((m + 1 : Nat) : Int) = 0 := by omega
   rw [hm] at hW hlen hcap;rw [← hW] at x0 x1 y0;obtain ⟨l1,hl1⟩ : ∃ l1,m + 1 = l1 := ⟨_,rfl⟩
   rw [hl1] at hwm x0 x1 y0 EW hlt hz hz2 hcap ⊢;clear hc hn b0 sz0 hW P1 hq ht htop hoff hpos hx hm hwf;go_enter Tryz.func62,Tryz.ntmps62;go_wp2_with fail;rw [EW.out];go_ret;exact ⟨rfl,G.out⟩
end Go.Proofs.YtffkmeocmjohmaaGreat
