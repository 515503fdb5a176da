import Derived.Test.YtmnecbniappnaaaGreatQLe18
set_option maxRecDepth 100000
set_option maxHeartbeats 6400000
set_option linter.unusedVariables false
set_option linter.unusedSimpArgs false
namespace Go.Proofs.YtmnecbniappnaaaGreat
open Go.RowKit
theorem fdv_ediv18 {z p : Int} (hp : 0 < p) : fdv z p = z / p := by
 have e := Int.mul_tdiv_add_tmod z p;have c2 : cmpI p 0 = 1 := by unfold cmpI;split <;> (try split) <;> omega
 have l1 := Int.tmod_lt_of_pos z hp;have l2 : -p < z.tmod p := by
  have := Int.tmod_lt_of_pos (-z) hp;rw [Int.neg_tmod] at this;omega
 unfold fdv;rw [c2,Int.mul_one]
 by_cases q : z.tmod p < 0
 ·have : cmpI (z.tmod p) 0 < 0 := by unfold cmpI;split <;> (try split) <;> omega
  rw [if_pos this];have := (Int.ediv_emod_unique (a := z) (b := p) (r := z.tmod p + p) (q := z.tdiv p - 1) hp).2 ⟨by rw [Int.mul_sub];omega,by omega,by omega⟩;omega
 ·have : ¬ cmpI (z.tmod p) 0 < 0 := by unfold cmpI;split <;> (try split) <;> omega
  rw [if_neg this];have := (Int.ediv_emod_unique (a := z) (b := p) (r := z.tmod p) (q := z.tdiv p) hp).2 ⟨by omega,by omega,by omega⟩;omega
theorem zpD {w : World} {n n' : Bool} {a a' : Option Addr} {l l' c c' : Nat} {z y : Int} {k : Nat} (h : Zm 0 w (.agg #[.bool n,.slice a l c]) z k) (h' : Zm 0 w (.agg #[.bool n',.slice a' l' c']) y k) : Calls Tryz.prog 83 #[.agg #[.bool n,.slice a l c],.agg #[.bool n',.slice a' l' c']] w fun e w' => e = .returned (.bool (decide (0 ≤ z ∧ z < y))) ∧ Below w.heap.size w w' := by
 obtain ⟨W0,hW0⟩ : ∃ W0,(w.alloc (duo (.bool n) (.slice a l c))).alloc (duo (.bool n') (.slice a' l' c')) = W0 := ⟨_,rfl⟩
 obtain ⟨b0,sz0⟩ := zYA w (duo (.bool n) (.slice a l c)) (duo (.bool n') (.slice a' l' c'));rw [hW0] at b0 sz0;have p0 : Duo W0 (w.heap.size) (.bool n) (.slice a l c) := by rw [← hW0];exact zBA (zEA (by simp)) _
 have p1 : Duo W0 (w.heap.size + 1) (.bool n') (.slice a' l' c') := by rw [← hW0];exact zEA (by simp)
 have HS := hid (zqA (h.now b0).zi);have Z0 := hid (h.now b0);have Z1 := hid (h'.now b0);have B0 := hid b0;have D0 := hid p0;have D1 := hid p1;have i0 := p0.c0;have i1 := p0.c1;have EW := hid hW0;rw [← hW0] at i0 i1;obtain ⟨sd,hsd⟩ : ∃ sd,decide (0 ≤ z ∧ z < y) = sd := ⟨_,rfl⟩
 have HSD := hid hsd;rw [hsd];have hsz : cmpI z 0 = -1 ∧ z < 0 ∨ 0 ≤ cmpI z 0 ∧ 0 ≤ z := by unfold cmpI;split <;> (try split) <;> omega
 obtain ⟨sg,hsg⟩ : ∃ sg,cmpI z 0 = sg := ⟨_,rfl⟩
 rw [hsg] at hsz HS;have HSZ := hid hsz;clear h h' b0 sz0 p0 p1 hW0 hsd hsg hsz;go_enter Tryz.func83,Tryz.ntmps83;go_upto_region 1 with fail
 rw [EW.out];rw [EW.out] at i0 i1;go_wp2_with fail;refine HS.out.mono ?_;rintro e w1 ⟨rfl,b⟩;rcases HSZ.out with ⟨hq,hz⟩ | ⟨hq,hz⟩
 ·subst hq
  have FF : Hid (false = sd ∧ Below w.heap.size w w1) := ⟨by rw [← HSD.out];exact (decide_eq_false (by omega)).symm,below_step B0.out b⟩
  clear HS b hz HSD HSZ EW i0 i1;go_wp2;go_ret;exact ⟨by rw [FF.out.1];rfl,FF.out.2⟩
 ·have hq2 : (0 : Int) ≤ sg := hq
  have HC := hid (cmp_z (Z0.out.now b).zi (Z1.out.now b).zi);have j0 := (D0.out.step b).c0;have j1 := (D0.out.step b).c1;have k0 := (D1.out.step b).c0;have k1 := (D1.out.step b).c1;have hcy : cmpI z y = -1 ∧ z < y ∨ 0 ≤ cmpI z y ∧ ¬ z < y := by unfold cmpI;split <;> (try split) <;> omega
  obtain ⟨cy,hcye⟩ : ∃ cy,cmpI z y = cy := ⟨_,rfl⟩
  rw [hcye] at hcy HC;have HCY := hid hcy;have BB := hid b;have HZ := hid hz;clear HS b hz HSZ EW i0 i1 hcy hcye hq;go_wp2_with fail;refine HC.out.mono ?_;rintro e w2 ⟨rfl,b⟩;rcases HCY.out with ⟨hq,hl⟩ | ⟨hq,hl⟩
  ·subst hq
   have FF : Hid (true = sd ∧ Below w.heap.size w w2) := ⟨by rw [← HSD.out];exact (decide_eq_true ⟨HZ.out,hl⟩).symm,below_step (below_step B0.out BB.out) b⟩
   clear HC b hl HSD HCY BB HZ j0 j1 k0 k1;go_wp2;go_ret;exact ⟨by rw [FF.out.1];rfl,FF.out.2⟩
  ·have hq3 : ¬ cy < 0 := by omega
   have FF : Hid (false = sd ∧ Below w.heap.size w w2) := ⟨by rw [← HSD.out];exact (decide_eq_false (by omega)).symm,below_step (below_step B0.out BB.out) b⟩
   clear HC b hl HSD HCY BB HZ j0 j1 k0 k1 hq;go_wp2;go_ret;have q0 : decide (cy < 0) = sd := by rw [← FF.out.1];exact decide_eq_false (by omega)
   exact ⟨by rw [← q0];rfl,FF.out.2⟩
def zaH (B : Nat) (w : World) (bs Bl Bh Ba : Nat) (lv sv : Value) (m n r : Nat) (ρ γ gs : Nat → Nat) (A : Nat → Nat → Int) (kw K T a b : Nat) (e : Ending) (w' : World) : Prop :=
 ∃ X,e = .returned (.tuple #[]) ∧ Wk18 B w' bs Bl Bh Ba lv sv m n r ρ γ gs X kw ∧ Lw18 m n K r ρ γ X A T a b ∧ Touch (tl18 gs m) w w'
theorem Lw18.pw {m n K r T a b kw : Nat} {ρ γ : Nat → Nat} {X A : Nat → Nat → Int} (h : Lw18 m n K r ρ γ X A T a b) (hTb : Tb18 m n A T) (hb : b ≤ a + 65) (hT : ((bd18 T 128 : Nat) : Int) < Proofs.YtmnecbniappnaaaGreat.pw kw) : ∀ t j,t < K → j < n → ((X t j).natAbs : Int) < Proofs.YtmnecbniappnaaaGreat.pw kw := fun t j ht hj => by
 have a := h.any hTb hb t j ht hj;omega
abbrev oRe0 : Oper := { dst := some 15,op := Op.call { callee := Callee.value (Operand.func 67),args := #[Operand.tmp 11,Operand.tmp 12,Operand.tmp 14],argTypes := #[83,3,3] },type := 40,pos := "stairs.go:92",after := #[{ on := 0,ground := Ground.data },{ on := 1,ground := Ground.data },{ on := 3,ground := Ground.data }],guard := none }
abbrev oRe1 : Oper := { dst := some 6,op := Op.alloc 40,type := 0,pos := "stairs.go:92",after := #[],guard := none }
abbrev oRe2 : Oper := { dst := some 7,op := Op.alloc 40,type := 0,pos := "stairs.go:92",after := #[],guard := none }
abbrev oRe3 : Oper := { dst := some 21,op := Op.call { callee := Callee.value (Operand.func 67),args := #[Operand.tmp 16,Operand.tmp 18,Operand.tmp 20],argTypes := #[83,3,3] },type := 40,pos := "stairs.go:92",after := #[{ on := 5,ground := Ground.data },{ on := 7,ground := Ground.data },{ on := 9,ground := Ground.data },{ on := 4,ground := Ground.chain }],guard := none }
abbrev oRe4 : Oper := { dst := none,op := Op.store 40 (Operand.tmp 6) (Operand.tmp 15),type := 0,pos := "stairs.go:92",after := #[{ on := 11,ground := Ground.data },{ on := 4,ground := Ground.data },{ on := 10,ground := Ground.chain },{ on := 0,ground := Ground.phase },{ on := 1,ground := Ground.phase },{ on := 2,ground := Ground.phase },{ on := 3,ground := Ground.phase },{ on := 4,ground := Ground.phase },{ on := 5,ground := Ground.textOnly Departure.lateStores },{ on := 6,ground := Ground.textOnly Departure.lateStores },{ on := 7,ground := Ground.textOnly Departure.lateStores },{ on := 8,ground := Ground.textOnly Departure.lateStores },{ on := 9,ground := Ground.textOnly Departure.lateStores },{ on := 10,ground := Ground.textOnly Departure.lateStoresUnsure },{ on := 11,ground := Ground.phase },{ on := 12,ground := Ground.phase }],guard := none }
abbrev oRe5 : Oper := { dst := none,op := Op.store 40 (Operand.tmp 7) (Operand.tmp 21),type := 0,pos := "stairs.go:92",after := #[{ on := 12,ground := Ground.data },{ on := 10,ground := Ground.data },{ on := 13,ground := Ground.chain },{ on := 0,ground := Ground.phase },{ on := 1,ground := Ground.phase },{ on := 2,ground := Ground.phase },{ on := 3,ground := Ground.phase },{ on := 4,ground := Ground.phase },{ on := 5,ground := Ground.phase },{ on := 6,ground := Ground.phase },{ on := 7,ground := Ground.phase },{ on := 8,ground := Ground.phase },{ on := 9,ground := Ground.phase },{ on := 10,ground := Ground.phase },{ on := 11,ground := Ground.phase },{ on := 12,ground := Ground.phase },{ on := 13,ground := Ground.phase }],guard := none }
theorem reduce18 {B bs Bl Bh Ba m n r kw K T a b : Nat} {w : World} {lv sv : Value} {ρ γ gs : Nat → Nat} {X A : Nat → Nat → Int} (h : Wk18 B w bs Bl Bh Ba lv sv m n r ρ γ gs X kw) (hL : Lw18 m n K r ρ γ X A T a b) (hTb : Tb18 m n A T) (hab : a < b) (hb : b < r) (hKm : K ≤ m) (hm : m ≤ 65) (hn : n ≤ 64) (hT : ((bd18 T 128 : Nat) : Int) < pw kw) (hk1 : 1 ≤ kw) (hK : kw ≤ 68719476736) :
  Calls Tryz.prog 72 #[.pointer (some ⟨bs,0,none⟩),.int .i64 (ρ a : Int),.agg #[.int .i64 (ρ b : Int),.int .i64 (γ b : Int)]] w (zaH B w bs Bl Bh Ba lv sv m n r ρ γ gs A kw K T a (b + 1)) := by
 have hcn := hL.ec.cl b hb;have hrm : ρ b < m := by have := hL.ec.rl b hb;omega
 have him : ρ a < m := by have := hL.ec.rl a (by omega);omega
 have hri : ρ a ≠ ρ b := fun q => by have := hL.ec.inj a b (by omega) hb q;omega
 have hpv := hL.ec.pos b hb;have hr64 : r ≤ 64 := by have := hL.ec.few;omega
 obtain ⟨c,hce⟩ : ∃ c,γ b = c := ⟨_,rfl⟩
 rw [hce] at hcn hpv;obtain ⟨V0,hV0⟩ : ∃ V0,w.alloc (.cells #[.int .i64 (ρ b : Int),.int .i64 (c : Int)] 65) = V0 := ⟨_,rfl⟩
 obtain ⟨b0,sz0⟩ := alo1 w (.cells #[.int .i64 (ρ b : Int),.int .i64 (c : Int)] 65);rw [hV0] at b0 sz0;have dB : Cel V0 w.heap.size 65 [.int .i64 (ρ b : Int),.int .i64 (c : Int)] := by rw [← hV0];exact Cel.new w _ _
 have WK := hid (h.now b0);have HL := hid hL;have HTB := hid hTb;have DB := hid dB;have B0 := hid b0;have EV0 := hid hV0;have HAB := hid (show a < b ∧ b < r ∧ r ≤ 64 ∧ K ≤ m from ⟨hab,hb,hr64,hKm⟩);have HI := hid (show ρ a < m ∧ ρ b < m ∧ c < n ∧ ρ a ≠ ρ b from ⟨him,hrm,hcn,hri⟩);have HP0 : Hid (0 < X (ρ b) c) := hpv;have HT := hid hT;have Hk1 := hid hk1;have HK := hid hK;have HCE := hid hce;have FI0 : Hid (∀ Y,Below w.heap.size w Y → 0 ≤ X (ρ a) c ∧ X (ρ a) c < X (ρ b) c → Wk18 B Y bs Bl Bh Ba lv sv m n r ρ γ gs X kw → zaH B w bs Bl Bh Ba lv sv m n r ρ γ gs A kw K T a (b + 1) (.returned (.tuple #[])) Y) := fun Y hY hq hw => ⟨X,rfl,hw,hL.stay hab hTb (by rw [hce];exact hq),Touch.ofBelow hY⟩
 have HL2 := hid (hL.step hab hb hTb);rw [hce] at HL2;have FI1 : Hid (∀ W Y,Below w.heap.size w W → zEE (· = gs (ρ a)) B W bs Bl Bh Ba lv sv m n r ρ γ gs (lesX X (ρ a) (ρ b) (X (ρ a) c / X (ρ b) c)) kw (.returned (.tuple #[])) Y → zaH B w bs Bl Bh Ba lv sv m n r ρ γ gs A kw K T a (b + 1) (.returned (.tuple #[])) Y) := by
  rintro W Y hY ⟨-,h1,h2⟩;exact ⟨_,rfl,h1,HL2.out,(Touch.ofBelow hY).trans (h2.mono18 fun b q => ⟨ρ a,HI.out.1,q⟩)⟩
 have HQ2 := hid (HL2.out.pw hTb (by omega) hT);have HQB : Hid (((X (ρ a) c / X (ρ b) c).natAbs : Int) < pw kw) := by
  unfold Hid;have h1 := hL.pw hTb (by omega) hT (ρ a) c (hL.ec.rl a (by omega)) hcn;have h2 := zXF (X (ρ a) c) hpv;omega
 have HRK := hid (hL.ec.rl a (by omega));rw [hce];obtain ⟨rp,hrp⟩ : ∃ rp,ρ b = rp := ⟨_,rfl⟩
 obtain ⟨i,hie⟩ : ∃ i,ρ a = i := ⟨_,rfl⟩
 have s0 := dB.at (i := 0) rfl;have s1 := dB.at (i := 1) rfl;rw [hrp] at s0 DB EV0 HP0 HI FI0 FI1 HL2 HQ2 HQB ⊢;rw [hie] at HI FI0 FI1 HL2 HQ2 HQB HRK ⊢;obtain ⟨bx,hbx⟩ : ∃ bx,w.heap.size = bx := ⟨_,rfl⟩
 rw [hbx] at s0 s1 DB;have EBX := hid hbx;clear h hL hTb hab hb hKm hT hk1 hK hcn hrm him hri hpv hr64 hce b0 sz0 hV0 dB hrp hie hbx;go_enter Tryz.func72,Tryz.ntmps72;go_upto_region 1 with fail
 rw [EV0.out,EBX.out]
 go_cut [6,7] from 8 (fun s1 s2 wx => Mq18 V0 wx s1 s2 (X i c) (X rp c) kw)
 case first =>
  clear EV0 EBX;have KB : Hid (∀ w',Below V0.heap.size V0 w' → w'.cell? ⟨bx,0,none⟩ = some (.int .i64 (rp : Int)) ∧ w'.cell? ⟨bx,1,none⟩ = some (.int .i64 (c : Int))) := fun w' h => ⟨cnow h s0,cnow h s1⟩
  refine zFA (fun w' => w'.cell? ⟨bx,0,none⟩ = some (.int .i64 (rp : Int)) ∧ w'.cell? ⟨bx,1,none⟩ = some (.int .i64 (c : Int))) 13 (by kernel_rfl) ?_;obtain ⟨D1,hD⟩ : ∃ D1,V0.drew = D1 := ⟨_,rfl⟩
  have GB : Hid (Below V0.heap.size V0 D1) := by unfold Hid;rw [← hD];exact (Below.refl _ _).drew
  rw [hD];clear hD;have HB : Hid (BX18 V0 D1 []) := BX18.nil GB.out;refine zHA [(0,(.pointer (some ⟨bs,0,none⟩))),(1,(.int .i64 (i : Int))),(2,(.pointer (some ⟨bx,1,none⟩))),(3,(.int .i64 (c : Int))),(5,(.pointer (some ⟨bs,0,none⟩))),(6,(.pointer (some ⟨bx,0,none⟩))),(7,(.int .i64 (rp : Int))),(8,(.pointer (some ⟨bx,1,none⟩))),(9,(.int .i64 (c : Int)))] 9 ?_ (KB.out _ GB.out) ?_
  ·simp only [zSA,gA9,g09,g19,Act.put,sI9,s09,s19]
   (repeat' (first | exact trivial | refine And.intro (Or.inl ⟨by rfl,?_⟩) ?_)) <;> (intro w hSw;(try dsimp only at hSw);go_simp)
  simp only [actV,gA9,g09,g19,Act.put,sI9,s09,s19];refine zZB (i := 4) (j := 11) (l := 12) (oi := oRe0) (oj := oRe1) (ol := oRe2) (by kernel_rfl) rfl rfl rfl (fun K hK => ?_) (fun K hK => ?_) (fun K hK => ?_)
  ·dsimp only [oRe0]
   go_simp;go_at_call 67;refine (at18 (WK.out.now GB.out) HI.out.1 HI.out.2.2.1 hm hn).mono ?_;rintro e w2 ⟨na,aa,la,ca,rfl,mq,b⟩;have lz2 := (show Below _ _ _ from b).size;replace GB := hid (below_step GB.out b);have Ma := hid mq;clear mq;replace HB := hid (HB.out.step b);clear b;refine hK.out _ _ (fun _ => KB.out _ GB.out) ?_;clear hK;refine zZB (i := 10) (j := 11) (l := 12) (oi := oRe3) (oj := oRe1) (ol := oRe2) (by kernel_rfl) rfl rfl rfl (fun K hK => ?_) (fun K hK => ?_) (fun K hK => ?_)
   ·dsimp only [oRe3]
    go_simp;go_at_call 67;refine (at18 (WK.out.now GB.out) HI.out.2.1 HI.out.2.2.1 hm hn).mono ?_;rintro e w3 ⟨nd,ad,ld,cd,rfl,mq,b⟩;have lz3 := (show Below _ _ _ from b).size;replace GB := hid (below_step GB.out b);have Md := hid mq;clear mq;replace HB := hid (HB.out.step b);replace Ma := hid (Ma.out.now b);clear b;refine hK.out _ _ (fun _ => KB.out _ GB.out) ?_;clear hK;refine zQA (i := 11) (j := 12) (oi := oRe1) (oj := oRe2) (by kernel_rfl) rfl rfl (fun K hK => ?_) (fun K hK => ?_)
    ·dsimp only [oRe1]
     go_simp;obtain ⟨V4,hW⟩ : ∃ V4,w3.alloc zbox = V4 := ⟨_,rfl⟩
     obtain ⟨b,sz4⟩ := alo1 w3 zbox;rw [hW] at b sz4;replace GB := hid (below_step GB.out b);replace Ma := hid (Ma.out.now b);replace Md := hid (Md.out.now b);replace HB : Hid (BX18 V0 V4 [w3.heap.size]) := by unfold Hid;rw [← hW];exact HB.out.new
     clear sz4;rw [hW];clear hW b;refine hK.out _ _ (fun _ => KB.out _ GB.out) ?_;clear hK
     try simp only [Act.put]
     refine zAA (i := 12) (o := oRe2) (by kernel_rfl) rfl (fun K hK => ?_);dsimp only [oRe2];go_simp;obtain ⟨V5,hW⟩ : ∃ V5,V4.alloc zbox = V5 := ⟨_,rfl⟩
     obtain ⟨b,sz5⟩ := alo1 V4 zbox;rw [hW] at b sz5;replace GB := hid (below_step GB.out b);replace Ma := hid (Ma.out.now b);replace Md := hid (Md.out.now b);replace HB : Hid (BX18 V0 V5 [V4.heap.size,w3.heap.size]) := by unfold Hid;rw [← hW];exact HB.out.new
     clear sz5;rw [hW];clear hW b;refine hK.out _ _ (fun _ => KB.out _ GB.out) ?_;clear hK
     try simp only [Act.put]
     refine zAA (i := 13) (o := oRe4) (by kernel_rfl) rfl (fun K hK => ?_);dsimp only [oRe4];obtain ⟨⟨Sd,Dd⟩,⟨Sa,Da⟩,NN⟩ := HB.out.two;have e0 := Da.c0;have e1 := Da.c1;have e2 := Da.fz 0;have e3 := Da.fz 1;go_simp;clear e0 e1 e2 e3;obtain ⟨V6,hW⟩ : ∃ V6,((V5.setCell ⟨w3.heap.size,0,none⟩ (.bool na)).setCell ⟨w3.heap.size,1,none⟩ (.slice aa la ca)) = V6 := ⟨_,rfl⟩
     replace Ma := hid (Ma.out.ty (Da.ty18 (.bool na) (.slice aa la ca)) (by decide));replace Md := hid (Md.out.ty (Da.ty18 (.bool na) (.slice aa la ca)) (by decide));replace Dd := Dd.box (Ne.symm NN) (.bool na) (.slice aa la ca);replace Da := Da.set (.bool na) (.slice aa la ca);replace GB := hid (bset (u := .slice aa la ca) (j := 1) (bset (u := .bool na) (j := 0) GB.out Sa) Sa);rw [hW] at Ma Md Da Dd GB;rw [hW];clear hW;refine hK.out _ _ (fun h => absurd h (by decide)) ?_;clear hK
     try simp only [Act.put]
     refine zAA (i := 14) (o := oRe5) (by kernel_rfl) rfl (fun K hK => ?_);dsimp only [oRe5];have e0 := Dd.c0;have e1 := Dd.c1;have e2 := Dd.fz 0;have e3 := Dd.fz 1;go_simp;clear e0 e1 e2 e3;obtain ⟨V7,hW⟩ : ∃ V7,((V6.setCell ⟨V4.heap.size,0,none⟩ (.bool nd)).setCell ⟨V4.heap.size,1,none⟩ (.slice ad ld cd)) = V7 := ⟨_,rfl⟩
     replace Ma := hid (Ma.out.ty (Dd.ty18 (.bool nd) (.slice ad ld cd)) (by decide));replace Md := hid (Md.out.ty (Dd.ty18 (.bool nd) (.slice ad ld cd)) (by decide));replace Da := Da.box NN (.bool nd) (.slice ad ld cd);replace Dd := Dd.set (.bool nd) (.slice ad ld cd);replace GB := hid (bset (u := .slice ad ld cd) (j := 1) (bset (u := .bool nd) (j := 0) GB.out Sd) Sd);rw [hW] at Ma Md Da Dd GB;rw [hW];clear hW;refine hK.out _ _ (fun h => absurd h (by decide)) ?_;clear hK
     try simp only [Act.put]
     refine zDA (by kernel_rfl) ?_ _;have FN : Hid (Mq18 V0 V7 (.pointer (some ⟨w3.heap.size,0,none⟩)) (.pointer (some ⟨V4.heap.size,0,none⟩)) (X i c) (X rp c) kw) := ⟨_,_,na,aa,la,ca,nd,ad,ld,cd,rfl,rfl,Sa,Sd,Da,Dd,Ma.out,Md.out,GB.out⟩
     clear GB KB HB Ma Md Da Dd Sa Sd;go_wp2_with fail;go_meet;exact FN.out
    ·dsimp only [oRe2]
     go_simp;obtain ⟨V8,hW⟩ : ∃ V8,w3.alloc zbox = V8 := ⟨_,rfl⟩
     obtain ⟨b,sz8⟩ := alo1 w3 zbox;rw [hW] at b sz8;replace GB := hid (below_step GB.out b);replace Ma := hid (Ma.out.now b);replace Md := hid (Md.out.now b);replace HB : Hid (BX18 V0 V8 [w3.heap.size]) := by unfold Hid;rw [← hW];exact HB.out.new
     clear sz8;rw [hW];clear hW b;refine hK.out _ _ (fun _ => KB.out _ GB.out) ?_;clear hK
     try simp only [Act.put]
     refine zAA (i := 11) (o := oRe1) (by kernel_rfl) rfl (fun K hK => ?_);dsimp only [oRe1];go_simp;obtain ⟨V9,hW⟩ : ∃ V9,V8.alloc zbox = V9 := ⟨_,rfl⟩
     obtain ⟨b,sz9⟩ := alo1 V8 zbox;rw [hW] at b sz9;replace GB := hid (below_step GB.out b);replace Ma := hid (Ma.out.now b);replace Md := hid (Md.out.now b);replace HB : Hid (BX18 V0 V9 [V8.heap.size,w3.heap.size]) := by unfold Hid;rw [← hW];exact HB.out.new
     clear sz9;rw [hW];clear hW b;refine hK.out _ _ (fun _ => KB.out _ GB.out) ?_;clear hK
     try simp only [Act.put]
     refine zAA (i := 13) (o := oRe4) (by kernel_rfl) rfl (fun K hK => ?_);dsimp only [oRe4];obtain ⟨⟨Sa,Da⟩,⟨Sd,Dd⟩,NN⟩ := HB.out.two;have e0 := Da.c0;have e1 := Da.c1;have e2 := Da.fz 0;have e3 := Da.fz 1;go_simp;clear e0 e1 e2 e3;obtain ⟨V10,hW⟩ : ∃ V10,((V9.setCell ⟨V8.heap.size,0,none⟩ (.bool na)).setCell ⟨V8.heap.size,1,none⟩ (.slice aa la ca)) = V10 := ⟨_,rfl⟩
     replace Ma := hid (Ma.out.ty (Da.ty18 (.bool na) (.slice aa la ca)) (by decide));replace Md := hid (Md.out.ty (Da.ty18 (.bool na) (.slice aa la ca)) (by decide));replace Dd := Dd.box NN (.bool na) (.slice aa la ca);replace Da := Da.set (.bool na) (.slice aa la ca);replace GB := hid (bset (u := .slice aa la ca) (j := 1) (bset (u := .bool na) (j := 0) GB.out Sa) Sa);rw [hW] at Ma Md Da Dd GB;rw [hW];clear hW;refine hK.out _ _ (fun h => absurd h (by decide)) ?_;clear hK
     try simp only [Act.put]
     refine zAA (i := 14) (o := oRe5) (by kernel_rfl) rfl (fun K hK => ?_);dsimp only [oRe5];have e0 := Dd.c0;have e1 := Dd.c1;have e2 := Dd.fz 0;have e3 := Dd.fz 1;go_simp;clear e0 e1 e2 e3;obtain ⟨V11,hW⟩ : ∃ V11,((V10.setCell ⟨w3.heap.size,0,none⟩ (.bool nd)).setCell ⟨w3.heap.size,1,none⟩ (.slice ad ld cd)) = V11 := ⟨_,rfl⟩
     replace Ma := hid (Ma.out.ty (Dd.ty18 (.bool nd) (.slice ad ld cd)) (by decide));replace Md := hid (Md.out.ty (Dd.ty18 (.bool nd) (.slice ad ld cd)) (by decide));replace Da := Da.box (Ne.symm NN) (.bool nd) (.slice ad ld cd);replace Dd := Dd.set (.bool nd) (.slice ad ld cd);replace GB := hid (bset (u := .slice ad ld cd) (j := 1) (bset (u := .bool nd) (j := 0) GB.out Sd) Sd);rw [hW] at Ma Md Da Dd GB;rw [hW];clear hW;refine hK.out _ _ (fun h => absurd h (by decide)) ?_;clear hK
     try simp only [Act.put]
     refine zDA (by kernel_rfl) ?_ _;have FN : Hid (Mq18 V0 V11 (.pointer (some ⟨V8.heap.size,0,none⟩)) (.pointer (some ⟨w3.heap.size,0,none⟩)) (X i c) (X rp c) kw) := ⟨_,_,na,aa,la,ca,nd,ad,ld,cd,rfl,rfl,Sa,Sd,Da,Dd,Ma.out,Md.out,GB.out⟩
     clear GB KB HB Ma Md Da Dd Sa Sd;go_wp2_with fail;go_meet;exact FN.out
   ·dsimp only [oRe1]
    go_simp;obtain ⟨V12,hW⟩ : ∃ V12,w2.alloc zbox = V12 := ⟨_,rfl⟩
    obtain ⟨b,sz12⟩ := alo1 w2 zbox;rw [hW] at b sz12;replace GB := hid (below_step GB.out b);replace Ma := hid (Ma.out.now b);replace HB : Hid (BX18 V0 V12 [w2.heap.size]) := by unfold Hid;rw [← hW];exact HB.out.new
    clear sz12;rw [hW];clear hW b;refine hK.out _ _ (fun _ => KB.out _ GB.out) ?_;clear hK
    try simp only [Act.put]
    refine zQA (i := 10) (j := 12) (oi := oRe3) (oj := oRe2) (by kernel_rfl) rfl rfl (fun K hK => ?_) (fun K hK => ?_)
    ·dsimp only [oRe3]
     go_simp;go_at_call 67;refine (at18 (WK.out.now GB.out) HI.out.2.1 HI.out.2.2.1 hm hn).mono ?_;rintro e w13 ⟨nd,ad,ld,cd,rfl,mq,b⟩;have lz13 := (show Below _ _ _ from b).size;replace GB := hid (below_step GB.out b);have Md := hid mq;clear mq;replace HB := hid (HB.out.step b);replace Ma := hid (Ma.out.now b);clear b;refine hK.out _ _ (fun _ => KB.out _ GB.out) ?_;clear hK;refine zAA (i := 12) (o := oRe2) (by kernel_rfl) rfl (fun K hK => ?_);dsimp only [oRe2];go_simp;obtain ⟨V14,hW⟩ : ∃ V14,w13.alloc zbox = V14 := ⟨_,rfl⟩
     obtain ⟨b,sz14⟩ := alo1 w13 zbox;rw [hW] at b sz14;replace GB := hid (below_step GB.out b);replace Ma := hid (Ma.out.now b);replace Md := hid (Md.out.now b);replace HB : Hid (BX18 V0 V14 [w13.heap.size,w2.heap.size]) := by unfold Hid;rw [← hW];exact HB.out.new
     clear sz14;rw [hW];clear hW b;refine hK.out _ _ (fun _ => KB.out _ GB.out) ?_;clear hK
     try simp only [Act.put]
     refine zAA (i := 13) (o := oRe4) (by kernel_rfl) rfl (fun K hK => ?_);dsimp only [oRe4];obtain ⟨⟨Sd,Dd⟩,⟨Sa,Da⟩,NN⟩ := HB.out.two;have e0 := Da.c0;have e1 := Da.c1;have e2 := Da.fz 0;have e3 := Da.fz 1;go_simp;clear e0 e1 e2 e3;obtain ⟨V15,hW⟩ : ∃ V15,((V14.setCell ⟨w2.heap.size,0,none⟩ (.bool na)).setCell ⟨w2.heap.size,1,none⟩ (.slice aa la ca)) = V15 := ⟨_,rfl⟩
     replace Ma := hid (Ma.out.ty (Da.ty18 (.bool na) (.slice aa la ca)) (by decide));replace Md := hid (Md.out.ty (Da.ty18 (.bool na) (.slice aa la ca)) (by decide));replace Dd := Dd.box (Ne.symm NN) (.bool na) (.slice aa la ca);replace Da := Da.set (.bool na) (.slice aa la ca);replace GB := hid (bset (u := .slice aa la ca) (j := 1) (bset (u := .bool na) (j := 0) GB.out Sa) Sa);rw [hW] at Ma Md Da Dd GB;rw [hW];clear hW;refine hK.out _ _ (fun h => absurd h (by decide)) ?_;clear hK
     try simp only [Act.put]
     refine zAA (i := 14) (o := oRe5) (by kernel_rfl) rfl (fun K hK => ?_);dsimp only [oRe5];have e0 := Dd.c0;have e1 := Dd.c1;have e2 := Dd.fz 0;have e3 := Dd.fz 1;go_simp;clear e0 e1 e2 e3;obtain ⟨V16,hW⟩ : ∃ V16,((V15.setCell ⟨w13.heap.size,0,none⟩ (.bool nd)).setCell ⟨w13.heap.size,1,none⟩ (.slice ad ld cd)) = V16 := ⟨_,rfl⟩
     replace Ma := hid (Ma.out.ty (Dd.ty18 (.bool nd) (.slice ad ld cd)) (by decide));replace Md := hid (Md.out.ty (Dd.ty18 (.bool nd) (.slice ad ld cd)) (by decide));replace Da := Da.box NN (.bool nd) (.slice ad ld cd);replace Dd := Dd.set (.bool nd) (.slice ad ld cd);replace GB := hid (bset (u := .slice ad ld cd) (j := 1) (bset (u := .bool nd) (j := 0) GB.out Sd) Sd);rw [hW] at Ma Md Da Dd GB;rw [hW];clear hW;refine hK.out _ _ (fun h => absurd h (by decide)) ?_;clear hK
     try simp only [Act.put]
     refine zDA (by kernel_rfl) ?_ _;have FN : Hid (Mq18 V0 V16 (.pointer (some ⟨w2.heap.size,0,none⟩)) (.pointer (some ⟨w13.heap.size,0,none⟩)) (X i c) (X rp c) kw) := ⟨_,_,na,aa,la,ca,nd,ad,ld,cd,rfl,rfl,Sa,Sd,Da,Dd,Ma.out,Md.out,GB.out⟩
     clear GB KB HB Ma Md Da Dd Sa Sd;go_wp2_with fail;go_meet;exact FN.out
    ·dsimp only [oRe2]
     go_simp;obtain ⟨V17,hW⟩ : ∃ V17,V12.alloc zbox = V17 := ⟨_,rfl⟩
     obtain ⟨b,sz17⟩ := alo1 V12 zbox;rw [hW] at b sz17;replace GB := hid (below_step GB.out b);replace Ma := hid (Ma.out.now b);replace HB : Hid (BX18 V0 V17 [V12.heap.size,w2.heap.size]) := by unfold Hid;rw [← hW];exact HB.out.new
     clear sz17;rw [hW];clear hW b;refine hK.out _ _ (fun _ => KB.out _ GB.out) ?_;clear hK
     try simp only [Act.put]
     refine zAA (i := 10) (o := oRe3) (by kernel_rfl) rfl (fun K hK => ?_);dsimp only [oRe3];go_simp;go_at_call 67;refine (at18 (WK.out.now GB.out) HI.out.2.1 HI.out.2.2.1 hm hn).mono ?_;rintro e w18 ⟨nd,ad,ld,cd,rfl,mq,b⟩;have lz18 := (show Below _ _ _ from b).size;replace GB := hid (below_step GB.out b);have Md := hid mq;clear mq;replace HB := hid (HB.out.step b);replace Ma := hid (Ma.out.now b);clear b;refine hK.out _ _ (fun _ => KB.out _ GB.out) ?_;clear hK;refine zAA (i := 13) (o := oRe4) (by kernel_rfl) rfl (fun K hK => ?_);dsimp only [oRe4];obtain ⟨⟨Sd,Dd⟩,⟨Sa,Da⟩,NN⟩ := HB.out.two;have e0 := Da.c0;have e1 := Da.c1;have e2 := Da.fz 0;have e3 := Da.fz 1;go_simp;clear e0 e1 e2 e3;obtain ⟨V19,hW⟩ : ∃ V19,((w18.setCell ⟨w2.heap.size,0,none⟩ (.bool na)).setCell ⟨w2.heap.size,1,none⟩ (.slice aa la ca)) = V19 := ⟨_,rfl⟩
     replace Ma := hid (Ma.out.ty (Da.ty18 (.bool na) (.slice aa la ca)) (by decide));replace Md := hid (Md.out.ty (Da.ty18 (.bool na) (.slice aa la ca)) (by decide));replace Dd := Dd.box (Ne.symm NN) (.bool na) (.slice aa la ca);replace Da := Da.set (.bool na) (.slice aa la ca);replace GB := hid (bset (u := .slice aa la ca) (j := 1) (bset (u := .bool na) (j := 0) GB.out Sa) Sa);rw [hW] at Ma Md Da Dd GB;rw [hW];clear hW;refine hK.out _ _ (fun h => absurd h (by decide)) ?_;clear hK
     try simp only [Act.put]
     refine zAA (i := 14) (o := oRe5) (by kernel_rfl) rfl (fun K hK => ?_);dsimp only [oRe5];have e0 := Dd.c0;have e1 := Dd.c1;have e2 := Dd.fz 0;have e3 := Dd.fz 1;go_simp;clear e0 e1 e2 e3;obtain ⟨V20,hW⟩ : ∃ V20,((V19.setCell ⟨V12.heap.size,0,none⟩ (.bool nd)).setCell ⟨V12.heap.size,1,none⟩ (.slice ad ld cd)) = V20 := ⟨_,rfl⟩
     replace Ma := hid (Ma.out.ty (Dd.ty18 (.bool nd) (.slice ad ld cd)) (by decide));replace Md := hid (Md.out.ty (Dd.ty18 (.bool nd) (.slice ad ld cd)) (by decide));replace Da := Da.box NN (.bool nd) (.slice ad ld cd);replace Dd := Dd.set (.bool nd) (.slice ad ld cd);replace GB := hid (bset (u := .slice ad ld cd) (j := 1) (bset (u := .bool nd) (j := 0) GB.out Sd) Sd);rw [hW] at Ma Md Da Dd GB;rw [hW];clear hW;refine hK.out _ _ (fun h => absurd h (by decide)) ?_;clear hK
     try simp only [Act.put]
     refine zDA (by kernel_rfl) ?_ _;have FN : Hid (Mq18 V0 V20 (.pointer (some ⟨w2.heap.size,0,none⟩)) (.pointer (some ⟨V12.heap.size,0,none⟩)) (X i c) (X rp c) kw) := ⟨_,_,na,aa,la,ca,nd,ad,ld,cd,rfl,rfl,Sa,Sd,Da,Dd,Ma.out,Md.out,GB.out⟩
     clear GB KB HB Ma Md Da Dd Sa Sd;go_wp2_with fail;go_meet;exact FN.out
   ·dsimp only [oRe2]
    go_simp;obtain ⟨V21,hW⟩ : ∃ V21,w2.alloc zbox = V21 := ⟨_,rfl⟩
    obtain ⟨b,sz21⟩ := alo1 w2 zbox;rw [hW] at b sz21;replace GB := hid (below_step GB.out b);replace Ma := hid (Ma.out.now b);replace HB : Hid (BX18 V0 V21 [w2.heap.size]) := by unfold Hid;rw [← hW];exact HB.out.new
    clear sz21;rw [hW];clear hW b;refine hK.out _ _ (fun _ => KB.out _ GB.out) ?_;clear hK
    try simp only [Act.put]
    refine zQA (i := 10) (j := 11) (oi := oRe3) (oj := oRe1) (by kernel_rfl) rfl rfl (fun K hK => ?_) (fun K hK => ?_)
    ·dsimp only [oRe3]
     go_simp;go_at_call 67;refine (at18 (WK.out.now GB.out) HI.out.2.1 HI.out.2.2.1 hm hn).mono ?_;rintro e w22 ⟨nd,ad,ld,cd,rfl,mq,b⟩;have lz22 := (show Below _ _ _ from b).size;replace GB := hid (below_step GB.out b);have Md := hid mq;clear mq;replace HB := hid (HB.out.step b);replace Ma := hid (Ma.out.now b);clear b;refine hK.out _ _ (fun _ => KB.out _ GB.out) ?_;clear hK;refine zAA (i := 11) (o := oRe1) (by kernel_rfl) rfl (fun K hK => ?_);dsimp only [oRe1];go_simp;obtain ⟨V23,hW⟩ : ∃ V23,w22.alloc zbox = V23 := ⟨_,rfl⟩
     obtain ⟨b,sz23⟩ := alo1 w22 zbox;rw [hW] at b sz23;replace GB := hid (below_step GB.out b);replace Ma := hid (Ma.out.now b);replace Md := hid (Md.out.now b);replace HB : Hid (BX18 V0 V23 [w22.heap.size,w2.heap.size]) := by unfold Hid;rw [← hW];exact HB.out.new
     clear sz23;rw [hW];clear hW b;refine hK.out _ _ (fun _ => KB.out _ GB.out) ?_;clear hK
     try simp only [Act.put]
     refine zAA (i := 13) (o := oRe4) (by kernel_rfl) rfl (fun K hK => ?_);dsimp only [oRe4];obtain ⟨⟨Sa,Da⟩,⟨Sd,Dd⟩,NN⟩ := HB.out.two;have e0 := Da.c0;have e1 := Da.c1;have e2 := Da.fz 0;have e3 := Da.fz 1;go_simp;clear e0 e1 e2 e3;obtain ⟨V24,hW⟩ : ∃ V24,((V23.setCell ⟨w22.heap.size,0,none⟩ (.bool na)).setCell ⟨w22.heap.size,1,none⟩ (.slice aa la ca)) = V24 := ⟨_,rfl⟩
     replace Ma := hid (Ma.out.ty (Da.ty18 (.bool na) (.slice aa la ca)) (by decide));replace Md := hid (Md.out.ty (Da.ty18 (.bool na) (.slice aa la ca)) (by decide));replace Dd := Dd.box NN (.bool na) (.slice aa la ca);replace Da := Da.set (.bool na) (.slice aa la ca);replace GB := hid (bset (u := .slice aa la ca) (j := 1) (bset (u := .bool na) (j := 0) GB.out Sa) Sa);rw [hW] at Ma Md Da Dd GB;rw [hW];clear hW;refine hK.out _ _ (fun h => absurd h (by decide)) ?_;clear hK
     try simp only [Act.put]
     refine zAA (i := 14) (o := oRe5) (by kernel_rfl) rfl (fun K hK => ?_);dsimp only [oRe5];have e0 := Dd.c0;have e1 := Dd.c1;have e2 := Dd.fz 0;have e3 := Dd.fz 1;go_simp;clear e0 e1 e2 e3;obtain ⟨V25,hW⟩ : ∃ V25,((V24.setCell ⟨w2.heap.size,0,none⟩ (.bool nd)).setCell ⟨w2.heap.size,1,none⟩ (.slice ad ld cd)) = V25 := ⟨_,rfl⟩
     replace Ma := hid (Ma.out.ty (Dd.ty18 (.bool nd) (.slice ad ld cd)) (by decide));replace Md := hid (Md.out.ty (Dd.ty18 (.bool nd) (.slice ad ld cd)) (by decide));replace Da := Da.box (Ne.symm NN) (.bool nd) (.slice ad ld cd);replace Dd := Dd.set (.bool nd) (.slice ad ld cd);replace GB := hid (bset (u := .slice ad ld cd) (j := 1) (bset (u := .bool nd) (j := 0) GB.out Sd) Sd);rw [hW] at Ma Md Da Dd GB;rw [hW];clear hW;refine hK.out _ _ (fun h => absurd h (by decide)) ?_;clear hK
     try simp only [Act.put]
     refine zDA (by kernel_rfl) ?_ _;have FN : Hid (Mq18 V0 V25 (.pointer (some ⟨w22.heap.size,0,none⟩)) (.pointer (some ⟨w2.heap.size,0,none⟩)) (X i c) (X rp c) kw) := ⟨_,_,na,aa,la,ca,nd,ad,ld,cd,rfl,rfl,Sa,Sd,Da,Dd,Ma.out,Md.out,GB.out⟩
     clear GB KB HB Ma Md Da Dd Sa Sd;go_wp2_with fail;go_meet;exact FN.out
    ·dsimp only [oRe1]
     go_simp;obtain ⟨V26,hW⟩ : ∃ V26,V21.alloc zbox = V26 := ⟨_,rfl⟩
     obtain ⟨b,sz26⟩ := alo1 V21 zbox;rw [hW] at b sz26;replace GB := hid (below_step GB.out b);replace Ma := hid (Ma.out.now b);replace HB : Hid (BX18 V0 V26 [V21.heap.size,w2.heap.size]) := by unfold Hid;rw [← hW];exact HB.out.new
     clear sz26;rw [hW];clear hW b;refine hK.out _ _ (fun _ => KB.out _ GB.out) ?_;clear hK
     try simp only [Act.put]
     refine zAA (i := 10) (o := oRe3) (by kernel_rfl) rfl (fun K hK => ?_);dsimp only [oRe3];go_simp;go_at_call 67;refine (at18 (WK.out.now GB.out) HI.out.2.1 HI.out.2.2.1 hm hn).mono ?_;rintro e w27 ⟨nd,ad,ld,cd,rfl,mq,b⟩;have lz27 := (show Below _ _ _ from b).size;replace GB := hid (below_step GB.out b);have Md := hid mq;clear mq;replace HB := hid (HB.out.step b);replace Ma := hid (Ma.out.now b);clear b;refine hK.out _ _ (fun _ => KB.out _ GB.out) ?_;clear hK;refine zAA (i := 13) (o := oRe4) (by kernel_rfl) rfl (fun K hK => ?_);dsimp only [oRe4];obtain ⟨⟨Sa,Da⟩,⟨Sd,Dd⟩,NN⟩ := HB.out.two;have e0 := Da.c0;have e1 := Da.c1;have e2 := Da.fz 0;have e3 := Da.fz 1;go_simp;clear e0 e1 e2 e3;obtain ⟨V28,hW⟩ : ∃ V28,((w27.setCell ⟨V21.heap.size,0,none⟩ (.bool na)).setCell ⟨V21.heap.size,1,none⟩ (.slice aa la ca)) = V28 := ⟨_,rfl⟩
     replace Ma := hid (Ma.out.ty (Da.ty18 (.bool na) (.slice aa la ca)) (by decide));replace Md := hid (Md.out.ty (Da.ty18 (.bool na) (.slice aa la ca)) (by decide));replace Dd := Dd.box NN (.bool na) (.slice aa la ca);replace Da := Da.set (.bool na) (.slice aa la ca);replace GB := hid (bset (u := .slice aa la ca) (j := 1) (bset (u := .bool na) (j := 0) GB.out Sa) Sa);rw [hW] at Ma Md Da Dd GB;rw [hW];clear hW;refine hK.out _ _ (fun h => absurd h (by decide)) ?_;clear hK
     try simp only [Act.put]
     refine zAA (i := 14) (o := oRe5) (by kernel_rfl) rfl (fun K hK => ?_);dsimp only [oRe5];have e0 := Dd.c0;have e1 := Dd.c1;have e2 := Dd.fz 0;have e3 := Dd.fz 1;go_simp;clear e0 e1 e2 e3;obtain ⟨V29,hW⟩ : ∃ V29,((V28.setCell ⟨w2.heap.size,0,none⟩ (.bool nd)).setCell ⟨w2.heap.size,1,none⟩ (.slice ad ld cd)) = V29 := ⟨_,rfl⟩
     replace Ma := hid (Ma.out.ty (Dd.ty18 (.bool nd) (.slice ad ld cd)) (by decide));replace Md := hid (Md.out.ty (Dd.ty18 (.bool nd) (.slice ad ld cd)) (by decide));replace Da := Da.box (Ne.symm NN) (.bool nd) (.slice ad ld cd);replace Dd := Dd.set (.bool nd) (.slice ad ld cd);replace GB := hid (bset (u := .slice ad ld cd) (j := 1) (bset (u := .bool nd) (j := 0) GB.out Sd) Sd);rw [hW] at Ma Md Da Dd GB;rw [hW];clear hW;refine hK.out _ _ (fun h => absurd h (by decide)) ?_;clear hK
     try simp only [Act.put]
     refine zDA (by kernel_rfl) ?_ _;have FN : Hid (Mq18 V0 V29 (.pointer (some ⟨V21.heap.size,0,none⟩)) (.pointer (some ⟨w2.heap.size,0,none⟩)) (X i c) (X rp c) kw) := ⟨_,_,na,aa,la,ca,nd,ad,ld,cd,rfl,rfl,Sa,Sd,Da,Dd,Ma.out,Md.out,GB.out⟩
     clear GB KB HB Ma Md Da Dd Sa Sd;go_wp2_with fail;go_meet;exact FN.out
  ·dsimp only [oRe1]
   go_simp;obtain ⟨V30,hW⟩ : ∃ V30,D1.alloc zbox = V30 := ⟨_,rfl⟩
   obtain ⟨b,sz30⟩ := alo1 D1 zbox;rw [hW] at b sz30;replace GB := hid (below_step GB.out b);replace HB : Hid (BX18 V0 V30 [D1.heap.size]) := by unfold Hid;rw [← hW];exact HB.out.new
   clear sz30;rw [hW];clear hW b;refine hK.out _ _ (fun _ => KB.out _ GB.out) ?_;clear hK
   try simp only [Act.put]
   refine zQA (i := 4) (j := 12) (oi := oRe0) (oj := oRe2) (by kernel_rfl) rfl rfl (fun K hK => ?_) (fun K hK => ?_)
   ·dsimp only [oRe0]
    go_simp;go_at_call 67;refine (at18 (WK.out.now GB.out) HI.out.1 HI.out.2.2.1 hm hn).mono ?_;rintro e w31 ⟨na,aa,la,ca,rfl,mq,b⟩;have lz31 := (show Below _ _ _ from b).size;replace GB := hid (below_step GB.out b);have Ma := hid mq;clear mq;replace HB := hid (HB.out.step b);clear b;refine hK.out _ _ (fun _ => KB.out _ GB.out) ?_;clear hK;refine zQA (i := 10) (j := 12) (oi := oRe3) (oj := oRe2) (by kernel_rfl) rfl rfl (fun K hK => ?_) (fun K hK => ?_)
    ·dsimp only [oRe3]
     go_simp;go_at_call 67;refine (at18 (WK.out.now GB.out) HI.out.2.1 HI.out.2.2.1 hm hn).mono ?_;rintro e w32 ⟨nd,ad,ld,cd,rfl,mq,b⟩;have lz32 := (show Below _ _ _ from b).size;replace GB := hid (below_step GB.out b);have Md := hid mq;clear mq;replace HB := hid (HB.out.step b);replace Ma := hid (Ma.out.now b);clear b;refine hK.out _ _ (fun _ => KB.out _ GB.out) ?_;clear hK;refine zAA (i := 12) (o := oRe2) (by kernel_rfl) rfl (fun K hK => ?_);dsimp only [oRe2];go_simp;obtain ⟨V33,hW⟩ : ∃ V33,w32.alloc zbox = V33 := ⟨_,rfl⟩
     obtain ⟨b,sz33⟩ := alo1 w32 zbox;rw [hW] at b sz33;replace GB := hid (below_step GB.out b);replace Ma := hid (Ma.out.now b);replace Md := hid (Md.out.now b);replace HB : Hid (BX18 V0 V33 [w32.heap.size,D1.heap.size]) := by unfold Hid;rw [← hW];exact HB.out.new
     clear sz33;rw [hW];clear hW b;refine hK.out _ _ (fun _ => KB.out _ GB.out) ?_;clear hK
     try simp only [Act.put]
     refine zAA (i := 13) (o := oRe4) (by kernel_rfl) rfl (fun K hK => ?_);dsimp only [oRe4];obtain ⟨⟨Sd,Dd⟩,⟨Sa,Da⟩,NN⟩ := HB.out.two;have e0 := Da.c0;have e1 := Da.c1;have e2 := Da.fz 0;have e3 := Da.fz 1;go_simp;clear e0 e1 e2 e3;obtain ⟨V34,hW⟩ : ∃ V34,((V33.setCell ⟨D1.heap.size,0,none⟩ (.bool na)).setCell ⟨D1.heap.size,1,none⟩ (.slice aa la ca)) = V34 := ⟨_,rfl⟩
     replace Ma := hid (Ma.out.ty (Da.ty18 (.bool na) (.slice aa la ca)) (by decide));replace Md := hid (Md.out.ty (Da.ty18 (.bool na) (.slice aa la ca)) (by decide));replace Dd := Dd.box (Ne.symm NN) (.bool na) (.slice aa la ca);replace Da := Da.set (.bool na) (.slice aa la ca);replace GB := hid (bset (u := .slice aa la ca) (j := 1) (bset (u := .bool na) (j := 0) GB.out Sa) Sa);rw [hW] at Ma Md Da Dd GB;rw [hW];clear hW;refine hK.out _ _ (fun h => absurd h (by decide)) ?_;clear hK
     try simp only [Act.put]
     refine zAA (i := 14) (o := oRe5) (by kernel_rfl) rfl (fun K hK => ?_);dsimp only [oRe5];have e0 := Dd.c0;have e1 := Dd.c1;have e2 := Dd.fz 0;have e3 := Dd.fz 1;go_simp;clear e0 e1 e2 e3;obtain ⟨V35,hW⟩ : ∃ V35,((V34.setCell ⟨w32.heap.size,0,none⟩ (.bool nd)).setCell ⟨w32.heap.size,1,none⟩ (.slice ad ld cd)) = V35 := ⟨_,rfl⟩
     replace Ma := hid (Ma.out.ty (Dd.ty18 (.bool nd) (.slice ad ld cd)) (by decide));replace Md := hid (Md.out.ty (Dd.ty18 (.bool nd) (.slice ad ld cd)) (by decide));replace Da := Da.box NN (.bool nd) (.slice ad ld cd);replace Dd := Dd.set (.bool nd) (.slice ad ld cd);replace GB := hid (bset (u := .slice ad ld cd) (j := 1) (bset (u := .bool nd) (j := 0) GB.out Sd) Sd);rw [hW] at Ma Md Da Dd GB;rw [hW];clear hW;refine hK.out _ _ (fun h => absurd h (by decide)) ?_;clear hK
     try simp only [Act.put]
     refine zDA (by kernel_rfl) ?_ _;have FN : Hid (Mq18 V0 V35 (.pointer (some ⟨D1.heap.size,0,none⟩)) (.pointer (some ⟨w32.heap.size,0,none⟩)) (X i c) (X rp c) kw) := ⟨_,_,na,aa,la,ca,nd,ad,ld,cd,rfl,rfl,Sa,Sd,Da,Dd,Ma.out,Md.out,GB.out⟩
     clear GB KB HB Ma Md Da Dd Sa Sd;go_wp2_with fail;go_meet;exact FN.out
    ·dsimp only [oRe2]
     go_simp;obtain ⟨V36,hW⟩ : ∃ V36,w31.alloc zbox = V36 := ⟨_,rfl⟩
     obtain ⟨b,sz36⟩ := alo1 w31 zbox;rw [hW] at b sz36;replace GB := hid (below_step GB.out b);replace Ma := hid (Ma.out.now b);replace HB : Hid (BX18 V0 V36 [w31.heap.size,D1.heap.size]) := by unfold Hid;rw [← hW];exact HB.out.new
     clear sz36;rw [hW];clear hW b;refine hK.out _ _ (fun _ => KB.out _ GB.out) ?_;clear hK
     try simp only [Act.put]
     refine zAA (i := 10) (o := oRe3) (by kernel_rfl) rfl (fun K hK => ?_);dsimp only [oRe3];go_simp;go_at_call 67;refine (at18 (WK.out.now GB.out) HI.out.2.1 HI.out.2.2.1 hm hn).mono ?_;rintro e w37 ⟨nd,ad,ld,cd,rfl,mq,b⟩;have lz37 := (show Below _ _ _ from b).size;replace GB := hid (below_step GB.out b);have Md := hid mq;clear mq;replace HB := hid (HB.out.step b);replace Ma := hid (Ma.out.now b);clear b;refine hK.out _ _ (fun _ => KB.out _ GB.out) ?_;clear hK;refine zAA (i := 13) (o := oRe4) (by kernel_rfl) rfl (fun K hK => ?_);dsimp only [oRe4];obtain ⟨⟨Sd,Dd⟩,⟨Sa,Da⟩,NN⟩ := HB.out.two;have e0 := Da.c0;have e1 := Da.c1;have e2 := Da.fz 0;have e3 := Da.fz 1;go_simp;clear e0 e1 e2 e3;obtain ⟨V38,hW⟩ : ∃ V38,((w37.setCell ⟨D1.heap.size,0,none⟩ (.bool na)).setCell ⟨D1.heap.size,1,none⟩ (.slice aa la ca)) = V38 := ⟨_,rfl⟩
     replace Ma := hid (Ma.out.ty (Da.ty18 (.bool na) (.slice aa la ca)) (by decide));replace Md := hid (Md.out.ty (Da.ty18 (.bool na) (.slice aa la ca)) (by decide));replace Dd := Dd.box (Ne.symm NN) (.bool na) (.slice aa la ca);replace Da := Da.set (.bool na) (.slice aa la ca);replace GB := hid (bset (u := .slice aa la ca) (j := 1) (bset (u := .bool na) (j := 0) GB.out Sa) Sa);rw [hW] at Ma Md Da Dd GB;rw [hW];clear hW;refine hK.out _ _ (fun h => absurd h (by decide)) ?_;clear hK
     try simp only [Act.put]
     refine zAA (i := 14) (o := oRe5) (by kernel_rfl) rfl (fun K hK => ?_);dsimp only [oRe5];have e0 := Dd.c0;have e1 := Dd.c1;have e2 := Dd.fz 0;have e3 := Dd.fz 1;go_simp;clear e0 e1 e2 e3;obtain ⟨V39,hW⟩ : ∃ V39,((V38.setCell ⟨w31.heap.size,0,none⟩ (.bool nd)).setCell ⟨w31.heap.size,1,none⟩ (.slice ad ld cd)) = V39 := ⟨_,rfl⟩
     replace Ma := hid (Ma.out.ty (Dd.ty18 (.bool nd) (.slice ad ld cd)) (by decide));replace Md := hid (Md.out.ty (Dd.ty18 (.bool nd) (.slice ad ld cd)) (by decide));replace Da := Da.box NN (.bool nd) (.slice ad ld cd);replace Dd := Dd.set (.bool nd) (.slice ad ld cd);replace GB := hid (bset (u := .slice ad ld cd) (j := 1) (bset (u := .bool nd) (j := 0) GB.out Sd) Sd);rw [hW] at Ma Md Da Dd GB;rw [hW];clear hW;refine hK.out _ _ (fun h => absurd h (by decide)) ?_;clear hK
     try simp only [Act.put]
     refine zDA (by kernel_rfl) ?_ _;have FN : Hid (Mq18 V0 V39 (.pointer (some ⟨D1.heap.size,0,none⟩)) (.pointer (some ⟨w31.heap.size,0,none⟩)) (X i c) (X rp c) kw) := ⟨_,_,na,aa,la,ca,nd,ad,ld,cd,rfl,rfl,Sa,Sd,Da,Dd,Ma.out,Md.out,GB.out⟩
     clear GB KB HB Ma Md Da Dd Sa Sd;go_wp2_with fail;go_meet;exact FN.out
   ·dsimp only [oRe2]
    go_simp;obtain ⟨V40,hW⟩ : ∃ V40,V30.alloc zbox = V40 := ⟨_,rfl⟩
    obtain ⟨b,sz40⟩ := alo1 V30 zbox;rw [hW] at b sz40;replace GB := hid (below_step GB.out b);replace HB : Hid (BX18 V0 V40 [V30.heap.size,D1.heap.size]) := by unfold Hid;rw [← hW];exact HB.out.new
    clear sz40;rw [hW];clear hW b;refine hK.out _ _ (fun _ => KB.out _ GB.out) ?_;clear hK
    try simp only [Act.put]
    refine zAA (i := 4) (o := oRe0) (by kernel_rfl) rfl (fun K hK => ?_);dsimp only [oRe0];go_simp;go_at_call 67;refine (at18 (WK.out.now GB.out) HI.out.1 HI.out.2.2.1 hm hn).mono ?_;rintro e w41 ⟨na,aa,la,ca,rfl,mq,b⟩;have lz41 := (show Below _ _ _ from b).size;replace GB := hid (below_step GB.out b);have Ma := hid mq;clear mq;replace HB := hid (HB.out.step b);clear b;refine hK.out _ _ (fun _ => KB.out _ GB.out) ?_;clear hK;refine zAA (i := 10) (o := oRe3) (by kernel_rfl) rfl (fun K hK => ?_);dsimp only [oRe3];go_simp;go_at_call 67;refine (at18 (WK.out.now GB.out) HI.out.2.1 HI.out.2.2.1 hm hn).mono ?_;rintro e w42 ⟨nd,ad,ld,cd,rfl,mq,b⟩;have lz42 := (show Below _ _ _ from b).size;replace GB := hid (below_step GB.out b);have Md := hid mq;clear mq;replace HB := hid (HB.out.step b);replace Ma := hid (Ma.out.now b);clear b;refine hK.out _ _ (fun _ => KB.out _ GB.out) ?_;clear hK;refine zAA (i := 13) (o := oRe4) (by kernel_rfl) rfl (fun K hK => ?_);dsimp only [oRe4];obtain ⟨⟨Sd,Dd⟩,⟨Sa,Da⟩,NN⟩ := HB.out.two;have e0 := Da.c0;have e1 := Da.c1;have e2 := Da.fz 0;have e3 := Da.fz 1;go_simp;clear e0 e1 e2 e3;obtain ⟨V43,hW⟩ : ∃ V43,((w42.setCell ⟨D1.heap.size,0,none⟩ (.bool na)).setCell ⟨D1.heap.size,1,none⟩ (.slice aa la ca)) = V43 := ⟨_,rfl⟩
    replace Ma := hid (Ma.out.ty (Da.ty18 (.bool na) (.slice aa la ca)) (by decide));replace Md := hid (Md.out.ty (Da.ty18 (.bool na) (.slice aa la ca)) (by decide));replace Dd := Dd.box (Ne.symm NN) (.bool na) (.slice aa la ca);replace Da := Da.set (.bool na) (.slice aa la ca);replace GB := hid (bset (u := .slice aa la ca) (j := 1) (bset (u := .bool na) (j := 0) GB.out Sa) Sa);rw [hW] at Ma Md Da Dd GB;rw [hW];clear hW;refine hK.out _ _ (fun h => absurd h (by decide)) ?_;clear hK
    try simp only [Act.put]
    refine zAA (i := 14) (o := oRe5) (by kernel_rfl) rfl (fun K hK => ?_);dsimp only [oRe5];have e0 := Dd.c0;have e1 := Dd.c1;have e2 := Dd.fz 0;have e3 := Dd.fz 1;go_simp;clear e0 e1 e2 e3;obtain ⟨V44,hW⟩ : ∃ V44,((V43.setCell ⟨V30.heap.size,0,none⟩ (.bool nd)).setCell ⟨V30.heap.size,1,none⟩ (.slice ad ld cd)) = V44 := ⟨_,rfl⟩
    replace Ma := hid (Ma.out.ty (Dd.ty18 (.bool nd) (.slice ad ld cd)) (by decide));replace Md := hid (Md.out.ty (Dd.ty18 (.bool nd) (.slice ad ld cd)) (by decide));replace Da := Da.box NN (.bool nd) (.slice ad ld cd);replace Dd := Dd.set (.bool nd) (.slice ad ld cd);replace GB := hid (bset (u := .slice ad ld cd) (j := 1) (bset (u := .bool nd) (j := 0) GB.out Sd) Sd);rw [hW] at Ma Md Da Dd GB;rw [hW];clear hW;refine hK.out _ _ (fun h => absurd h (by decide)) ?_;clear hK
    try simp only [Act.put]
    refine zDA (by kernel_rfl) ?_ _;have FN : Hid (Mq18 V0 V44 (.pointer (some ⟨D1.heap.size,0,none⟩)) (.pointer (some ⟨V30.heap.size,0,none⟩)) (X i c) (X rp c) kw) := ⟨_,_,na,aa,la,ca,nd,ad,ld,cd,rfl,rfl,Sa,Sd,Da,Dd,Ma.out,Md.out,GB.out⟩
    clear GB KB HB Ma Md Da Dd Sa Sd;go_wp2_with fail;go_meet;exact FN.out
  ·dsimp only [oRe2]
   go_simp;obtain ⟨V45,hW⟩ : ∃ V45,D1.alloc zbox = V45 := ⟨_,rfl⟩
   obtain ⟨b,sz45⟩ := alo1 D1 zbox;rw [hW] at b sz45;replace GB := hid (below_step GB.out b);replace HB : Hid (BX18 V0 V45 [D1.heap.size]) := by unfold Hid;rw [← hW];exact HB.out.new
   clear sz45;rw [hW];clear hW b;refine hK.out _ _ (fun _ => KB.out _ GB.out) ?_;clear hK
   try simp only [Act.put]
   refine zQA (i := 4) (j := 11) (oi := oRe0) (oj := oRe1) (by kernel_rfl) rfl rfl (fun K hK => ?_) (fun K hK => ?_)
   ·dsimp only [oRe0]
    go_simp;go_at_call 67;refine (at18 (WK.out.now GB.out) HI.out.1 HI.out.2.2.1 hm hn).mono ?_;rintro e w46 ⟨na,aa,la,ca,rfl,mq,b⟩;have lz46 := (show Below _ _ _ from b).size;replace GB := hid (below_step GB.out b);have Ma := hid mq;clear mq;replace HB := hid (HB.out.step b);clear b;refine hK.out _ _ (fun _ => KB.out _ GB.out) ?_;clear hK;refine zQA (i := 10) (j := 11) (oi := oRe3) (oj := oRe1) (by kernel_rfl) rfl rfl (fun K hK => ?_) (fun K hK => ?_)
    ·dsimp only [oRe3]
     go_simp;go_at_call 67;refine (at18 (WK.out.now GB.out) HI.out.2.1 HI.out.2.2.1 hm hn).mono ?_;rintro e w47 ⟨nd,ad,ld,cd,rfl,mq,b⟩;have lz47 := (show Below _ _ _ from b).size;replace GB := hid (below_step GB.out b);have Md := hid mq;clear mq;replace HB := hid (HB.out.step b);replace Ma := hid (Ma.out.now b);clear b;refine hK.out _ _ (fun _ => KB.out _ GB.out) ?_;clear hK;refine zAA (i := 11) (o := oRe1) (by kernel_rfl) rfl (fun K hK => ?_);dsimp only [oRe1];go_simp;obtain ⟨V48,hW⟩ : ∃ V48,w47.alloc zbox = V48 := ⟨_,rfl⟩
     obtain ⟨b,sz48⟩ := alo1 w47 zbox;rw [hW] at b sz48;replace GB := hid (below_step GB.out b);replace Ma := hid (Ma.out.now b);replace Md := hid (Md.out.now b);replace HB : Hid (BX18 V0 V48 [w47.heap.size,D1.heap.size]) := by unfold Hid;rw [← hW];exact HB.out.new
     clear sz48;rw [hW];clear hW b;refine hK.out _ _ (fun _ => KB.out _ GB.out) ?_;clear hK
     try simp only [Act.put]
     refine zAA (i := 13) (o := oRe4) (by kernel_rfl) rfl (fun K hK => ?_);dsimp only [oRe4];obtain ⟨⟨Sa,Da⟩,⟨Sd,Dd⟩,NN⟩ := HB.out.two;have e0 := Da.c0;have e1 := Da.c1;have e2 := Da.fz 0;have e3 := Da.fz 1;go_simp;clear e0 e1 e2 e3;obtain ⟨V49,hW⟩ : ∃ V49,((V48.setCell ⟨w47.heap.size,0,none⟩ (.bool na)).setCell ⟨w47.heap.size,1,none⟩ (.slice aa la ca)) = V49 := ⟨_,rfl⟩
     replace Ma := hid (Ma.out.ty (Da.ty18 (.bool na) (.slice aa la ca)) (by decide));replace Md := hid (Md.out.ty (Da.ty18 (.bool na) (.slice aa la ca)) (by decide));replace Dd := Dd.box NN (.bool na) (.slice aa la ca);replace Da := Da.set (.bool na) (.slice aa la ca);replace GB := hid (bset (u := .slice aa la ca) (j := 1) (bset (u := .bool na) (j := 0) GB.out Sa) Sa);rw [hW] at Ma Md Da Dd GB;rw [hW];clear hW;refine hK.out _ _ (fun h => absurd h (by decide)) ?_;clear hK
     try simp only [Act.put]
     refine zAA (i := 14) (o := oRe5) (by kernel_rfl) rfl (fun K hK => ?_);dsimp only [oRe5];have e0 := Dd.c0;have e1 := Dd.c1;have e2 := Dd.fz 0;have e3 := Dd.fz 1;go_simp;clear e0 e1 e2 e3;obtain ⟨V50,hW⟩ : ∃ V50,((V49.setCell ⟨D1.heap.size,0,none⟩ (.bool nd)).setCell ⟨D1.heap.size,1,none⟩ (.slice ad ld cd)) = V50 := ⟨_,rfl⟩
     replace Ma := hid (Ma.out.ty (Dd.ty18 (.bool nd) (.slice ad ld cd)) (by decide));replace Md := hid (Md.out.ty (Dd.ty18 (.bool nd) (.slice ad ld cd)) (by decide));replace Da := Da.box (Ne.symm NN) (.bool nd) (.slice ad ld cd);replace Dd := Dd.set (.bool nd) (.slice ad ld cd);replace GB := hid (bset (u := .slice ad ld cd) (j := 1) (bset (u := .bool nd) (j := 0) GB.out Sd) Sd);rw [hW] at Ma Md Da Dd GB;rw [hW];clear hW;refine hK.out _ _ (fun h => absurd h (by decide)) ?_;clear hK
     try simp only [Act.put]
     refine zDA (by kernel_rfl) ?_ _;have FN : Hid (Mq18 V0 V50 (.pointer (some ⟨w47.heap.size,0,none⟩)) (.pointer (some ⟨D1.heap.size,0,none⟩)) (X i c) (X rp c) kw) := ⟨_,_,na,aa,la,ca,nd,ad,ld,cd,rfl,rfl,Sa,Sd,Da,Dd,Ma.out,Md.out,GB.out⟩
     clear GB KB HB Ma Md Da Dd Sa Sd;go_wp2_with fail;go_meet;exact FN.out
    ·dsimp only [oRe1]
     go_simp;obtain ⟨V51,hW⟩ : ∃ V51,w46.alloc zbox = V51 := ⟨_,rfl⟩
     obtain ⟨b,sz51⟩ := alo1 w46 zbox;rw [hW] at b sz51;replace GB := hid (below_step GB.out b);replace Ma := hid (Ma.out.now b);replace HB : Hid (BX18 V0 V51 [w46.heap.size,D1.heap.size]) := by unfold Hid;rw [← hW];exact HB.out.new
     clear sz51;rw [hW];clear hW b;refine hK.out _ _ (fun _ => KB.out _ GB.out) ?_;clear hK
     try simp only [Act.put]
     refine zAA (i := 10) (o := oRe3) (by kernel_rfl) rfl (fun K hK => ?_);dsimp only [oRe3];go_simp;go_at_call 67;refine (at18 (WK.out.now GB.out) HI.out.2.1 HI.out.2.2.1 hm hn).mono ?_;rintro e w52 ⟨nd,ad,ld,cd,rfl,mq,b⟩;have lz52 := (show Below _ _ _ from b).size;replace GB := hid (below_step GB.out b);have Md := hid mq;clear mq;replace HB := hid (HB.out.step b);replace Ma := hid (Ma.out.now b);clear b;refine hK.out _ _ (fun _ => KB.out _ GB.out) ?_;clear hK;refine zAA (i := 13) (o := oRe4) (by kernel_rfl) rfl (fun K hK => ?_);dsimp only [oRe4];obtain ⟨⟨Sa,Da⟩,⟨Sd,Dd⟩,NN⟩ := HB.out.two;have e0 := Da.c0;have e1 := Da.c1;have e2 := Da.fz 0;have e3 := Da.fz 1;go_simp;clear e0 e1 e2 e3;obtain ⟨V53,hW⟩ : ∃ V53,((w52.setCell ⟨w46.heap.size,0,none⟩ (.bool na)).setCell ⟨w46.heap.size,1,none⟩ (.slice aa la ca)) = V53 := ⟨_,rfl⟩
     replace Ma := hid (Ma.out.ty (Da.ty18 (.bool na) (.slice aa la ca)) (by decide));replace Md := hid (Md.out.ty (Da.ty18 (.bool na) (.slice aa la ca)) (by decide));replace Dd := Dd.box NN (.bool na) (.slice aa la ca);replace Da := Da.set (.bool na) (.slice aa la ca);replace GB := hid (bset (u := .slice aa la ca) (j := 1) (bset (u := .bool na) (j := 0) GB.out Sa) Sa);rw [hW] at Ma Md Da Dd GB;rw [hW];clear hW;refine hK.out _ _ (fun h => absurd h (by decide)) ?_;clear hK
     try simp only [Act.put]
     refine zAA (i := 14) (o := oRe5) (by kernel_rfl) rfl (fun K hK => ?_);dsimp only [oRe5];have e0 := Dd.c0;have e1 := Dd.c1;have e2 := Dd.fz 0;have e3 := Dd.fz 1;go_simp;clear e0 e1 e2 e3;obtain ⟨V54,hW⟩ : ∃ V54,((V53.setCell ⟨D1.heap.size,0,none⟩ (.bool nd)).setCell ⟨D1.heap.size,1,none⟩ (.slice ad ld cd)) = V54 := ⟨_,rfl⟩
     replace Ma := hid (Ma.out.ty (Dd.ty18 (.bool nd) (.slice ad ld cd)) (by decide));replace Md := hid (Md.out.ty (Dd.ty18 (.bool nd) (.slice ad ld cd)) (by decide));replace Da := Da.box (Ne.symm NN) (.bool nd) (.slice ad ld cd);replace Dd := Dd.set (.bool nd) (.slice ad ld cd);replace GB := hid (bset (u := .slice ad ld cd) (j := 1) (bset (u := .bool nd) (j := 0) GB.out Sd) Sd);rw [hW] at Ma Md Da Dd GB;rw [hW];clear hW;refine hK.out _ _ (fun h => absurd h (by decide)) ?_;clear hK
     try simp only [Act.put]
     refine zDA (by kernel_rfl) ?_ _;have FN : Hid (Mq18 V0 V54 (.pointer (some ⟨w46.heap.size,0,none⟩)) (.pointer (some ⟨D1.heap.size,0,none⟩)) (X i c) (X rp c) kw) := ⟨_,_,na,aa,la,ca,nd,ad,ld,cd,rfl,rfl,Sa,Sd,Da,Dd,Ma.out,Md.out,GB.out⟩
     clear GB KB HB Ma Md Da Dd Sa Sd;go_wp2_with fail;go_meet;exact FN.out
   ·dsimp only [oRe1]
    go_simp;obtain ⟨V55,hW⟩ : ∃ V55,V45.alloc zbox = V55 := ⟨_,rfl⟩
    obtain ⟨b,sz55⟩ := alo1 V45 zbox;rw [hW] at b sz55;replace GB := hid (below_step GB.out b);replace HB : Hid (BX18 V0 V55 [V45.heap.size,D1.heap.size]) := by unfold Hid;rw [← hW];exact HB.out.new
    clear sz55;rw [hW];clear hW b;refine hK.out _ _ (fun _ => KB.out _ GB.out) ?_;clear hK
    try simp only [Act.put]
    refine zAA (i := 4) (o := oRe0) (by kernel_rfl) rfl (fun K hK => ?_);dsimp only [oRe0];go_simp;go_at_call 67;refine (at18 (WK.out.now GB.out) HI.out.1 HI.out.2.2.1 hm hn).mono ?_;rintro e w56 ⟨na,aa,la,ca,rfl,mq,b⟩;have lz56 := (show Below _ _ _ from b).size;replace GB := hid (below_step GB.out b);have Ma := hid mq;clear mq;replace HB := hid (HB.out.step b);clear b;refine hK.out _ _ (fun _ => KB.out _ GB.out) ?_;clear hK;refine zAA (i := 10) (o := oRe3) (by kernel_rfl) rfl (fun K hK => ?_);dsimp only [oRe3];go_simp;go_at_call 67;refine (at18 (WK.out.now GB.out) HI.out.2.1 HI.out.2.2.1 hm hn).mono ?_;rintro e w57 ⟨nd,ad,ld,cd,rfl,mq,b⟩;have lz57 := (show Below _ _ _ from b).size;replace GB := hid (below_step GB.out b);have Md := hid mq;clear mq;replace HB := hid (HB.out.step b);replace Ma := hid (Ma.out.now b);clear b;refine hK.out _ _ (fun _ => KB.out _ GB.out) ?_;clear hK;refine zAA (i := 13) (o := oRe4) (by kernel_rfl) rfl (fun K hK => ?_);dsimp only [oRe4];obtain ⟨⟨Sa,Da⟩,⟨Sd,Dd⟩,NN⟩ := HB.out.two;have e0 := Da.c0;have e1 := Da.c1;have e2 := Da.fz 0;have e3 := Da.fz 1;go_simp;clear e0 e1 e2 e3;obtain ⟨V58,hW⟩ : ∃ V58,((w57.setCell ⟨V45.heap.size,0,none⟩ (.bool na)).setCell ⟨V45.heap.size,1,none⟩ (.slice aa la ca)) = V58 := ⟨_,rfl⟩
    replace Ma := hid (Ma.out.ty (Da.ty18 (.bool na) (.slice aa la ca)) (by decide));replace Md := hid (Md.out.ty (Da.ty18 (.bool na) (.slice aa la ca)) (by decide));replace Dd := Dd.box NN (.bool na) (.slice aa la ca);replace Da := Da.set (.bool na) (.slice aa la ca);replace GB := hid (bset (u := .slice aa la ca) (j := 1) (bset (u := .bool na) (j := 0) GB.out Sa) Sa);rw [hW] at Ma Md Da Dd GB;rw [hW];clear hW;refine hK.out _ _ (fun h => absurd h (by decide)) ?_;clear hK
    try simp only [Act.put]
    refine zAA (i := 14) (o := oRe5) (by kernel_rfl) rfl (fun K hK => ?_);dsimp only [oRe5];have e0 := Dd.c0;have e1 := Dd.c1;have e2 := Dd.fz 0;have e3 := Dd.fz 1;go_simp;clear e0 e1 e2 e3;obtain ⟨V59,hW⟩ : ∃ V59,((V58.setCell ⟨D1.heap.size,0,none⟩ (.bool nd)).setCell ⟨D1.heap.size,1,none⟩ (.slice ad ld cd)) = V59 := ⟨_,rfl⟩
    replace Ma := hid (Ma.out.ty (Dd.ty18 (.bool nd) (.slice ad ld cd)) (by decide));replace Md := hid (Md.out.ty (Dd.ty18 (.bool nd) (.slice ad ld cd)) (by decide));replace Da := Da.box (Ne.symm NN) (.bool nd) (.slice ad ld cd);replace Dd := Dd.set (.bool nd) (.slice ad ld cd);replace GB := hid (bset (u := .slice ad ld cd) (j := 1) (bset (u := .bool nd) (j := 0) GB.out Sd) Sd);rw [hW] at Ma Md Da Dd GB;rw [hW];clear hW;refine hK.out _ _ (fun h => absurd h (by decide)) ?_;clear hK
    try simp only [Act.put]
    refine zDA (by kernel_rfl) ?_ _;have FN : Hid (Mq18 V0 V59 (.pointer (some ⟨V45.heap.size,0,none⟩)) (.pointer (some ⟨D1.heap.size,0,none⟩)) (X i c) (X rp c) kw) := ⟨_,_,na,aa,la,ca,nd,ad,ld,cd,rfl,rfl,Sa,Sd,Da,Dd,Ma.out,Md.out,GB.out⟩
    clear GB KB HB Ma Md Da Dd Sa Sd;go_wp2_with fail;go_meet;exact FN.out
 case rest =>
 rename World => W1
 obtain ⟨bn,bp,nn,an,ln,cn,np,ap,lp,cp,rfl,rfl,hbn,hbp,dn,dp,zn,zp,b⟩ := hcut;replace WK := hid (WK.out.now b);replace DB := hid (DB.out.step b);replace B0 := hid (below_step B0.out b);have DN := hid dn;have DP := hid dp;have ZN := hid zn;have ZP := hid zp;have i0 := dn.c0;have i1 := dn.c1;have p0 := dp.c0;have p1 := dp.c1;have HR := hid (zpD zn zp);clear s0 s1 b dn dp zn zp hbn hbp EV0 EBX;go_wp2_with fail;refine HR.out.mono ?_;rintro e W2 ⟨rfl,b⟩;replace WK := hid (WK.out.now b);replace DB := hid (DB.out.step b);replace B0 := hid (below_step B0.out b);clear HR
 by_cases hq : 0 ≤ X i c ∧ X i c < X rp c
 ·have hd : decide (0 ≤ X i c ∧ X i c < X rp c) = true := decide_eq_true hq
  rw [hd];have FF := hid (FI0.out W2 B0.out hq WK.out);clear hq hd b FI0 FI1 WK B0 DB DN DP ZN ZP i0 i1 p0 p1;go_wp2;refine bodyPost_ret (results_none rfl _ _ _) rfl ?_;exact FF.out
 ·have hd : decide (0 ≤ X i c ∧ X i c < X rp c) = false := decide_eq_false hq
  rw [hd];replace i0 := cnow b i0;replace i1 := cnow b i1;replace p0 := cnow b p0;replace p1 := cnow b p1;have HFL := hid (floor_z (ZN.out.now b).zi (ZP.out.now b).zi (by have := HP0.out;omega) (by have := HK.out;omega) (by have := HK.out;omega));rw [fdv_ediv18 HP0.out] at HFL;clear hq hd b FI0 DN DP ZN ZP;go_wp2_with fail;refine HFL.out.mono ?_;rintro e W3 ⟨r1,r2,rfl,mq,mr,b⟩;obtain ⟨nq,xq,aq,cq,rfl⟩ := mq.parts;obtain ⟨nr,xr,ar,cr,rfl⟩ := mr.parts;obtain ⟨V4,hV4⟩ : ∃ V4,(W3.alloc (duo (.bool nq) (.slice aq xq.length cq))).alloc (duo (.bool nr) (.slice ar xr.length cr)) = V4 := ⟨_,rfl⟩
  obtain ⟨b4,sz4⟩ := zYA W3 (duo (.bool nq) (.slice aq xq.length cq)) (duo (.bool nr) (.slice ar xr.length cr));rw [hV4] at b4 sz4;have bb := below_step b b4;have dq : Duo V4 W3.heap.size (.bool nq) (.slice aq xq.length cq) := by rw [← hV4];exact zBA (zEA (by simp)) _
  have q0 := dq.c0;have q1 := dq.c1;have t0 := (DB.out.step bb).at (i := 0) rfl;have ZQ := hid (((mq.mono (Nat.zero_le _)).now b4).fit (l := kw) HQB.out);replace WK := hid (WK.out.now bb);replace B0 := hid (below_step B0.out bb);have HLS := hid (zqH WK.out HI.out.1 HI.out.2.1 HI.out.2.2.2 ZQ.out (fun d hd => by have := HQ2.out i d HRK.out hd;rw [zSB] at this;exact this) hm hn (by have := HK.out;omega));have EV4 := hid hV4;rw [← hV4] at q0 q1 t0;clear HFL mq mr b b4 sz4 bb dq hV4 i0 i1 p0 p1 DB;go_wp2_with fail;rw [EV4.out];refine HLS.out.mono ?_;rintro e Y ⟨rfl,h1,h2⟩;have FF := hid (FI1.out V4 Y B0.out ⟨rfl,h1,h2⟩);clear HLS h1 h2 EV4 FI1;go_wp2;go_end0;exact FF.out
end Go.Proofs.YtmnecbniappnaaaGreat
