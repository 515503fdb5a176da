import Derived.Test.YtmnecbniappnaaaGreatQSt18ToHa18
import Derived.Test.YtmnecbniappnaaaGreatQExt6
set_option maxRecDepth 100000
set_option maxHeartbeats 6400000
set_option linter.unusedVariables false
set_option linter.unusedSimpArgs false
namespace Go.Proofs.YtmnecbniappnaaaGreat
open Go.RowKit
def Mq18 (W wx : World) (s1 s2 : Value) (z1 z2 : Int) (k : Nat) : Prop :=
 ∃ b1 b2 n1 a1 l1 c1 n2 a2 l2 c2,s1 = .pointer (some ⟨b1,0,none⟩) ∧ s2 = .pointer (some ⟨b2,0,none⟩) ∧ W.heap.size ≤ b1 ∧ W.heap.size ≤ b2 ∧ Duo wx b1 (.bool n1) (.slice a1 l1 c1) ∧ Duo wx b2 (.bool n2) (.slice a2 l2 c2)
  ∧ Zm 0 wx (.agg #[.bool n1,.slice a1 l1 c1]) z1 k ∧ Zm 0 wx (.agg #[.bool n2,.slice a2 l2 c2]) z2 k ∧ Below W.heap.size W wx
def Mo18 (W wx : World) (s1 : Value) (z1 : Int) (k : Nat) : Prop :=
 ∃ b1 n1 a1 l1 c1,s1 = .pointer (some ⟨b1,0,none⟩) ∧ W.heap.size ≤ b1 ∧ Duo wx b1 (.bool n1) (.slice a1 l1 c1) ∧ Zm 0 wx (.agg #[.bool n1,.slice a1 l1 c1]) z1 k ∧ Below W.heap.size W wx
theorem zDF {a g : Int} (h : g ∣ a) (h0 : g ≠ 0) : (a.tdiv g).natAbs ≤ a.natAbs ∧ a = g * a.tdiv g := by
 obtain ⟨q,rfl⟩ := h;rw [Int.mul_tdiv_cancel_left _ h0];refine ⟨?_,rfl⟩;rw [Int.natAbs_mul];have : 1 * q.natAbs ≤ g.natAbs * q.natAbs := Nat.mul_le_mul_right _ (by omega);omega
theorem Lv18.mixE {n i r c p T : Nat} {ρ γ : Nat → Nat} {X A : Nat → Nat → Int} (h : Lv18 n i r ρ γ X A c p T) (hp : p < r) (hc : γ p = c) (hn0 : X i c ≠ 0) {g x y : Int} (hv : ExtV (X (ρ p) c) (X i c) g x y) :
  0 < g ∧ (X i c).tmod g = 0 ∧ (X (ρ p) c).tmod g = 0 ∧ Lv18 n i r ρ γ (mixX X (ρ p) i x y (-((X i c).tdiv g)) ((X (ρ p) c).tdiv g)) A (c + 1) (p + 1) T ∧ x.natAbs ≤ bd18 T p ∧ y.natAbs ≤ bd18 T p ∧ ((X i c).tdiv g).natAbs ≤ bd18 T p ∧ ((X (ρ p) c).tdiv g).natAbs ≤ bd18 T p := by
 have hp0 := h.ec.pos p hp;have hcn := h.ec.cl p hp;rw [hc] at hp0 hcn;have d1 : g ∣ X (ρ p) c := by rw [hv.gcd];exact Int.gcd_dvd_left _ _
 have d2 : g ∣ X i c := by rw [hv.gcd];exact Int.gcd_dvd_right _ _
 have g0 : 0 < g := by
  rw [hv.gcd];have := Int.gcd_pos_of_ne_zero_left (X i c) (show X (ρ p) c ≠ 0 by omega);omega
 obtain ⟨e1,e2⟩ := zDF d1 (by omega);obtain ⟨e3,e4⟩ := zDF d2 (by omega);obtain ⟨s1,s2,-⟩ := hv.small;have b2 := h.b2 p c (Nat.le_refl _) hp hcn;have b3 := h.b3 c hcn;have bT := zbF h.one p;obtain ⟨P,hP⟩ : ∃ P,X (ρ p) c = P := ⟨_,rfl⟩
 obtain ⟨N,hN⟩ : ∃ N,X i c = N := ⟨_,rfl⟩
 obtain ⟨u,hu⟩ : ∃ u,N.tdiv g = u := ⟨_,rfl⟩
 obtain ⟨v,hv'⟩ : ∃ v,P.tdiv g = v := ⟨_,rfl⟩
 have hl := hv.lin;rw [hP,hN] at hl;have tm1 : (X i c).tmod g = 0 := Int.tmod_eq_zero_of_dvd d2;have tm2 : (X (ρ p) c).tmod g = 0 := Int.tmod_eq_zero_of_dvd d1;rw [hP] at e1 e2 s2 b2 hp0 tm2;rw [hN] at e3 e4 s1 b3 hn0 tm1;rw [hv'] at e1 e2;rw [hu] at e3 e4;have hdet : x * v - y * (-u) = 1 := by
  refine Int.eq_of_mul_eq_mul_left (show g ≠ 0 by omega) ?_;have : g * (x * v - y * -u) = (g * v) * x + (g * u) * y := by grind
  rw [this,← e2,← e4,hl,Int.mul_one]
 refine ⟨g0,by rw [hN];exact tm1,by rw [hP];exact tm2,?_,by omega,by omega,by rw [hN,hu];omega,by rw [hP,hv'];omega⟩;rw [hN,hP,hu,hv'];refine h.mix hp hc hdet ?_ ?_ (by omega) (by rw [Int.natAbs_neg];omega) (by omega) (by omega)
 ·rw [hP,hN,e2,e4]
  have : -u * (g * v) + v * (g * u) = 0 := by grind
  rw [← e2,← e4] at this ⊢;exact this
 ·rw [hP,hN]
  have : x * P + y * N = g := by rw [← hl];grind
  omega
def zWI (B : Nat) (w : World) (bs Bl Bh Ba : Nat) (lv sv : Value) (m n r : Nat) (ρ γ gs : Nat → Nat) (A : Nat → Nat → Int) (kw i c p T : Nat) (e : Ending) (w' : World) : Prop :=
 ∃ X,e = .returned (.tuple #[]) ∧ Wk18 B w' bs Bl Bh Ba lv sv m n r ρ γ gs X kw ∧ Lv18 n i r ρ γ X A c p T ∧ Touch (tl18 gs m) w w'
theorem Lv18.pw {n i r c p T kw : Nat} {ρ γ : Nat → Nat} {X A : Nat → Nat → Int} (h : Lv18 n i r ρ γ X A c p T) (hn : n ≤ 64) (hT : ((bd18 T 128 : Nat) : Int) < Proofs.YtmnecbniappnaaaGreat.pw kw) : ∀ t j,t < i + 1 → j < n → ((X t j).natAbs : Int) < Proofs.YtmnecbniappnaaaGreat.pw kw := fun t j ht hj => by
 have a := h.all hn t j ht hj;have b := zCB h.one (show 64 ≤ 128 by omega);omega
theorem Lv18.le {n i r c p T kw : Nat} {ρ γ : Nat → Nat} {X A : Nat → Nat → Int} (h : Lv18 n i r ρ γ X A c p T) (hn : n ≤ 64) (hT : ((bd18 T 128 : Nat) : Int) < Proofs.YtmnecbniappnaaaGreat.pw kw) {z : Int} (hz : z.natAbs ≤ bd18 T p) : ((z.natAbs : Nat) : Int) < Proofs.YtmnecbniappnaaaGreat.pw kw := by
 have := h.ec.few;have := h.pr;have b := zCB h.one (show p ≤ 128 by omega);omega
abbrev oCa0 : Oper := { dst := some 21,op := Op.call { callee := Callee.value (Operand.func 67),args := #[Operand.tmp 17,Operand.tmp 18,Operand.tmp 20],argTypes := #[83,3,3] },type := 40,pos := "stairs.go:68",after := #[{ on := 0,ground := Ground.data },{ on := 1,ground := Ground.data },{ on := 3,ground := Ground.data }],guard := none }
abbrev oCa1 : Oper := { dst := some 6,op := Op.alloc 40,type := 0,pos := "stairs.go:68",after := #[],guard := none }
abbrev oCa2 : Oper := { dst := some 7,op := Op.alloc 40,type := 0,pos := "stairs.go:68",after := #[],guard := none }
abbrev oCa3 : Oper := { dst := some 27,op := Op.call { callee := Callee.value (Operand.func 67),args := #[Operand.tmp 22,Operand.tmp 24,Operand.tmp 26],argTypes := #[83,3,3] },type := 40,pos := "stairs.go:68",after := #[{ on := 5,ground := Ground.data },{ on := 7,ground := Ground.data },{ on := 9,ground := Ground.data },{ on := 4,ground := Ground.chain }],guard := none }
abbrev oCa4 : Oper := { dst := none,op := Op.store 40 (Operand.tmp 6) (Operand.tmp 21),type := 0,pos := "stairs.go:68",after := #[{ on := 11,ground := Ground.data },{ on := 4,ground := Ground.data },{ on := 10,ground := Ground.chain },{ on := 0,ground := Ground.phase },{ on := 1,ground := Ground.phase },{ on := 2,ground := Ground.phase },{ on := 3,ground := Ground.phase },{ on := 4,ground := Ground.phase },{ on := 5,ground := Ground.textOnly Departure.lateStores },{ on := 6,ground := Ground.textOnly Departure.lateStores },{ on := 7,ground := Ground.textOnly Departure.lateStores },{ on := 8,ground := Ground.textOnly Departure.lateStores },{ on := 9,ground := Ground.textOnly Departure.lateStores },{ on := 10,ground := Ground.textOnly Departure.lateStoresUnsure },{ on := 11,ground := Ground.phase },{ on := 12,ground := Ground.phase }],guard := none }
abbrev oCa5 : Oper := { dst := none,op := Op.store 40 (Operand.tmp 7) (Operand.tmp 27),type := 0,pos := "stairs.go:68",after := #[{ on := 12,ground := Ground.data },{ on := 10,ground := Ground.data },{ on := 13,ground := Ground.chain },{ on := 0,ground := Ground.phase },{ on := 1,ground := Ground.phase },{ on := 2,ground := Ground.phase },{ on := 3,ground := Ground.phase },{ on := 4,ground := Ground.phase },{ on := 5,ground := Ground.phase },{ on := 6,ground := Ground.phase },{ on := 7,ground := Ground.phase },{ on := 8,ground := Ground.phase },{ on := 9,ground := Ground.phase },{ on := 10,ground := Ground.phase },{ on := 11,ground := Ground.phase },{ on := 12,ground := Ground.phase },{ on := 13,ground := Ground.phase }],guard := none }
abbrev oCa6 : Oper := { dst := some 69,op := Op.call { callee := Callee.value (Operand.func 36),args := #[Operand.tmp 68],argTypes := #[40] },type := 40,pos := "stairs.go:77",after := #[{ on := 7,ground := Ground.data }],guard := none }
abbrev oCa7 : Oper := { dst := some 73,op := Op.call { callee := Callee.value (Operand.func 90),args := #[Operand.tmp 61,Operand.tmp 63,Operand.tmp 64,Operand.tmp 72],argTypes := #[83,3,3,81] },type := 0,pos := "stairs.go:77",after := #[{ on := 0,ground := Ground.data },{ on := 2,ground := Ground.data },{ on := 3,ground := Ground.data },{ on := 11,ground := Ground.data },{ on := 8,ground := Ground.chain }],guard := none }
theorem cancel18 {B bs Bl Bh Ba m n r kw i c p T : Nat} {w : World} {lv sv : Value} {ρ γ gs : Nat → Nat} {X A : Nat → Nat → Int} (h : Wk18 B w bs Bl Bh Ba lv sv m n r ρ γ gs X kw) (hL : Lv18 n i r ρ γ X A c p T) (hp : p < r) (hc : γ p = c) (hn0 : X i c ≠ 0) (hi : i < m) (hm : m ≤ 65) (hn : n ≤ 64) (hT : ((bd18 T 128 : Nat) : Int) < pw kw) (hk1 : 1 ≤ kw) (hK : kw ≤ 68719476736) :
  Calls Tryz.prog 68 #[.pointer (some ⟨bs,0,none⟩),.int .i64 (i : Int),.agg #[.int .i64 (ρ p : Int),.int .i64 (c : Int)]] w (zWI B w bs Bl Bh Ba lv sv m n r ρ γ gs A kw i (c + 1) (p + 1) T) := by
 have hcn : c < n := by rw [← hc];exact hL.ec.cl p hp
 have hrm : ρ p < m := by have := hL.ec.rl p hp;omega
 have hri := hL.ne hp;have hpv := hL.ec.pos p hp;rw [hc] at hpv;obtain ⟨V0,hV0⟩ : ∃ V0,w.alloc (.cells #[.int .i64 (ρ p : Int),.int .i64 (c : Int)] 65) = V0 := ⟨_,rfl⟩
 obtain ⟨b0,sz0⟩ := alo1 w (.cells #[.int .i64 (ρ p : Int),.int .i64 (c : Int)] 65);rw [hV0] at b0 sz0;have dB : Cel V0 w.heap.size 65 [.int .i64 (ρ p : Int),.int .i64 (c : Int)] := by rw [← hV0];exact Cel.new w _ _
 have WK := hid (h.now b0);have HL := hid hL;have DB := hid dB;have B0 := hid b0;have EV0 := hid hV0;have HC := hid hc;have HN0 := hid hn0;have HI := hid (show i < m ∧ ρ p < m ∧ c < n ∧ ρ p ≠ i ∧ p < r from ⟨hi,hrm,hcn,hri,hp⟩);have HP0 : Hid (X (ρ p) c ≠ 0) := by unfold Hid;omega
 have HT := hid hT;have Hk1 := hid hk1;have HK := hid hK;obtain ⟨rp,hrp⟩ : ∃ rp,ρ p = rp := ⟨_,rfl⟩
 have ERP := hid hrp;have s0 := dB.at (i := 0) rfl;have s1 := dB.at (i := 1) rfl;rw [hrp] at s0 DB EV0 HP0 HI ⊢;obtain ⟨bx,hbx⟩ : ∃ bx,w.heap.size = bx := ⟨_,rfl⟩
 rw [hbx] at s0 s1 DB;have EBX := hid hbx;clear h hL hp hc hn0 hi hT hk1 hK hcn hrm hri hpv b0 sz0 hV0 dB hrp hbx;go_enter Tryz.func68,Tryz.ntmps68;go_upto_region 1 with fail
 rw [EV0.out,EBX.out];clear EV0 EBX
 go_cut [6,7] from 8 (fun s1 s2 wx => Mq18 V0 wx s1 s2 (X i c) (X rp c) kw)
 case first =>
  have KB : Hid (∀ w',Below V0.heap.size V0 w' → w'.cell? ⟨bx,0,none⟩ = some (.int .i64 (rp : Int)) ∧ w'.cell? ⟨bx,1,none⟩ = some (.int .i64 (c : Int))) := fun w' h => ⟨cnow h s0,cnow h s1⟩
  refine zFA (fun w' => w'.cell? ⟨bx,0,none⟩ = some (.int .i64 (rp : Int)) ∧ w'.cell? ⟨bx,1,none⟩ = some (.int .i64 (c : Int))) 13 (by kernel_rfl) ?_;obtain ⟨D1,hD⟩ : ∃ D1,V0.drew = D1 := ⟨_,rfl⟩
  have GB : Hid (Below V0.heap.size V0 D1) := by unfold Hid;rw [← hD];exact (Below.refl _ _).drew
  rw [hD];clear hD;have HB : Hid (BX18 V0 D1 []) := BX18.nil GB.out;refine zHA [(0,(.pointer (some ⟨bs,0,none⟩))),(1,(.int .i64 (i : Int))),(2,(.pointer (some ⟨bx,1,none⟩))),(3,(.int .i64 (c : Int))),(5,(.pointer (some ⟨bs,0,none⟩))),(6,(.pointer (some ⟨bx,0,none⟩))),(7,(.int .i64 (rp : Int))),(8,(.pointer (some ⟨bx,1,none⟩))),(9,(.int .i64 (c : Int)))] 9 ?_ (KB.out _ GB.out) ?_
  ·simp only [zSA,gA9,g09,g19,Act.put,sI9,s09,s19]
   (repeat' (first | exact trivial | refine And.intro (Or.inl ⟨by rfl,?_⟩) ?_)) <;> (intro w hSw;(try dsimp only at hSw);go_simp)
  simp only [actV,gA9,g09,g19,Act.put,sI9,s09,s19];refine zZB (i := 4) (j := 11) (l := 12) (oi := oCa0) (oj := oCa1) (ol := oCa2) (by kernel_rfl) rfl rfl rfl (fun K hK => ?_) (fun K hK => ?_) (fun K hK => ?_)
  ·dsimp only [oCa0]
   go_simp;go_at_call 67;refine (at18 (WK.out.now GB.out) HI.out.1 HI.out.2.2.1 hm hn).mono ?_;rintro e w2 ⟨na,aa,la,ca,rfl,mq,b⟩;have lz2 := (show Below _ _ _ from b).size;replace GB := hid (below_step GB.out b);have Ma := hid mq;clear mq;replace HB := hid (HB.out.step b);clear b;refine hK.out _ _ (fun _ => KB.out _ GB.out) ?_;clear hK;refine zZB (i := 10) (j := 11) (l := 12) (oi := oCa3) (oj := oCa1) (ol := oCa2) (by kernel_rfl) rfl rfl rfl (fun K hK => ?_) (fun K hK => ?_) (fun K hK => ?_)
   ·dsimp only [oCa3]
    go_simp;go_at_call 67;refine (at18 (WK.out.now GB.out) HI.out.2.1 HI.out.2.2.1 hm hn).mono ?_;rintro e w3 ⟨nd,ad,ld,cd,rfl,mq,b⟩;have lz3 := (show Below _ _ _ from b).size;replace GB := hid (below_step GB.out b);have Md := hid mq;clear mq;replace HB := hid (HB.out.step b);replace Ma := hid (Ma.out.now b);clear b;refine hK.out _ _ (fun _ => KB.out _ GB.out) ?_;clear hK;refine zQA (i := 11) (j := 12) (oi := oCa1) (oj := oCa2) (by kernel_rfl) rfl rfl (fun K hK => ?_) (fun K hK => ?_)
    ·dsimp only [oCa1]
     go_simp;obtain ⟨V4,hW⟩ : ∃ V4,w3.alloc zbox = V4 := ⟨_,rfl⟩
     obtain ⟨b,sz4⟩ := alo1 w3 zbox;rw [hW] at b sz4;replace GB := hid (below_step GB.out b);replace Ma := hid (Ma.out.now b);replace Md := hid (Md.out.now b);replace HB : Hid (BX18 V0 V4 [w3.heap.size]) := by unfold Hid;rw [← hW];exact HB.out.new
     clear sz4;rw [hW];clear hW b;refine hK.out _ _ (fun _ => KB.out _ GB.out) ?_;clear hK
     try simp only [Act.put]
     refine zAA (i := 12) (o := oCa2) (by kernel_rfl) rfl (fun K hK => ?_);dsimp only [oCa2];go_simp;obtain ⟨V5,hW⟩ : ∃ V5,V4.alloc zbox = V5 := ⟨_,rfl⟩
     obtain ⟨b,sz5⟩ := alo1 V4 zbox;rw [hW] at b sz5;replace GB := hid (below_step GB.out b);replace Ma := hid (Ma.out.now b);replace Md := hid (Md.out.now b);replace HB : Hid (BX18 V0 V5 [V4.heap.size,w3.heap.size]) := by unfold Hid;rw [← hW];exact HB.out.new
     clear sz5;rw [hW];clear hW b;refine hK.out _ _ (fun _ => KB.out _ GB.out) ?_;clear hK
     try simp only [Act.put]
     refine zAA (i := 13) (o := oCa4) (by kernel_rfl) rfl (fun K hK => ?_);dsimp only [oCa4];obtain ⟨⟨Sd,Dd⟩,⟨Sa,Da⟩,NN⟩ := HB.out.two;have e0 := Da.c0;have e1 := Da.c1;have e2 := Da.fz 0;have e3 := Da.fz 1;go_simp;clear e0 e1 e2 e3;obtain ⟨V6,hW⟩ : ∃ V6,((V5.setCell ⟨w3.heap.size,0,none⟩ (.bool na)).setCell ⟨w3.heap.size,1,none⟩ (.slice aa la ca)) = V6 := ⟨_,rfl⟩
     replace Ma := hid (Ma.out.ty (Da.ty18 (.bool na) (.slice aa la ca)) (by decide));replace Md := hid (Md.out.ty (Da.ty18 (.bool na) (.slice aa la ca)) (by decide));replace Dd := Dd.box (Ne.symm NN) (.bool na) (.slice aa la ca);replace Da := Da.set (.bool na) (.slice aa la ca);replace GB := hid (bset (u := .slice aa la ca) (j := 1) (bset (u := .bool na) (j := 0) GB.out Sa) Sa);rw [hW] at Ma Md Da Dd GB;rw [hW];clear hW;refine hK.out _ _ (fun h => absurd h (by decide)) ?_;clear hK
     try simp only [Act.put]
     refine zAA (i := 14) (o := oCa5) (by kernel_rfl) rfl (fun K hK => ?_);dsimp only [oCa5];have e0 := Dd.c0;have e1 := Dd.c1;have e2 := Dd.fz 0;have e3 := Dd.fz 1;go_simp;clear e0 e1 e2 e3;obtain ⟨V7,hW⟩ : ∃ V7,((V6.setCell ⟨V4.heap.size,0,none⟩ (.bool nd)).setCell ⟨V4.heap.size,1,none⟩ (.slice ad ld cd)) = V7 := ⟨_,rfl⟩
     replace Ma := hid (Ma.out.ty (Dd.ty18 (.bool nd) (.slice ad ld cd)) (by decide));replace Md := hid (Md.out.ty (Dd.ty18 (.bool nd) (.slice ad ld cd)) (by decide));replace Da := Da.box NN (.bool nd) (.slice ad ld cd);replace Dd := Dd.set (.bool nd) (.slice ad ld cd);replace GB := hid (bset (u := .slice ad ld cd) (j := 1) (bset (u := .bool nd) (j := 0) GB.out Sd) Sd);rw [hW] at Ma Md Da Dd GB;rw [hW];clear hW;refine hK.out _ _ (fun h => absurd h (by decide)) ?_;clear hK
     try simp only [Act.put]
     refine zDA (by kernel_rfl) ?_ _;have FN : Hid (Mq18 V0 V7 (.pointer (some ⟨w3.heap.size,0,none⟩)) (.pointer (some ⟨V4.heap.size,0,none⟩)) (X i c) (X rp c) kw) := ⟨_,_,na,aa,la,ca,nd,ad,ld,cd,rfl,rfl,Sa,Sd,Da,Dd,Ma.out,Md.out,GB.out⟩
     clear GB KB HB Ma Md Da Dd Sa Sd;go_wp2_with fail;go_meet;exact FN.out
    ·dsimp only [oCa2]
     go_simp;obtain ⟨V8,hW⟩ : ∃ V8,w3.alloc zbox = V8 := ⟨_,rfl⟩
     obtain ⟨b,sz8⟩ := alo1 w3 zbox;rw [hW] at b sz8;replace GB := hid (below_step GB.out b);replace Ma := hid (Ma.out.now b);replace Md := hid (Md.out.now b);replace HB : Hid (BX18 V0 V8 [w3.heap.size]) := by unfold Hid;rw [← hW];exact HB.out.new
     clear sz8;rw [hW];clear hW b;refine hK.out _ _ (fun _ => KB.out _ GB.out) ?_;clear hK
     try simp only [Act.put]
     refine zAA (i := 11) (o := oCa1) (by kernel_rfl) rfl (fun K hK => ?_);dsimp only [oCa1];go_simp;obtain ⟨V9,hW⟩ : ∃ V9,V8.alloc zbox = V9 := ⟨_,rfl⟩
     obtain ⟨b,sz9⟩ := alo1 V8 zbox;rw [hW] at b sz9;replace GB := hid (below_step GB.out b);replace Ma := hid (Ma.out.now b);replace Md := hid (Md.out.now b);replace HB : Hid (BX18 V0 V9 [V8.heap.size,w3.heap.size]) := by unfold Hid;rw [← hW];exact HB.out.new
     clear sz9;rw [hW];clear hW b;refine hK.out _ _ (fun _ => KB.out _ GB.out) ?_;clear hK
     try simp only [Act.put]
     refine zAA (i := 13) (o := oCa4) (by kernel_rfl) rfl (fun K hK => ?_);dsimp only [oCa4];obtain ⟨⟨Sa,Da⟩,⟨Sd,Dd⟩,NN⟩ := HB.out.two;have e0 := Da.c0;have e1 := Da.c1;have e2 := Da.fz 0;have e3 := Da.fz 1;go_simp;clear e0 e1 e2 e3;obtain ⟨V10,hW⟩ : ∃ V10,((V9.setCell ⟨V8.heap.size,0,none⟩ (.bool na)).setCell ⟨V8.heap.size,1,none⟩ (.slice aa la ca)) = V10 := ⟨_,rfl⟩
     replace Ma := hid (Ma.out.ty (Da.ty18 (.bool na) (.slice aa la ca)) (by decide));replace Md := hid (Md.out.ty (Da.ty18 (.bool na) (.slice aa la ca)) (by decide));replace Dd := Dd.box NN (.bool na) (.slice aa la ca);replace Da := Da.set (.bool na) (.slice aa la ca);replace GB := hid (bset (u := .slice aa la ca) (j := 1) (bset (u := .bool na) (j := 0) GB.out Sa) Sa);rw [hW] at Ma Md Da Dd GB;rw [hW];clear hW;refine hK.out _ _ (fun h => absurd h (by decide)) ?_;clear hK
     try simp only [Act.put]
     refine zAA (i := 14) (o := oCa5) (by kernel_rfl) rfl (fun K hK => ?_);dsimp only [oCa5];have e0 := Dd.c0;have e1 := Dd.c1;have e2 := Dd.fz 0;have e3 := Dd.fz 1;go_simp;clear e0 e1 e2 e3;obtain ⟨V11,hW⟩ : ∃ V11,((V10.setCell ⟨w3.heap.size,0,none⟩ (.bool nd)).setCell ⟨w3.heap.size,1,none⟩ (.slice ad ld cd)) = V11 := ⟨_,rfl⟩
     replace Ma := hid (Ma.out.ty (Dd.ty18 (.bool nd) (.slice ad ld cd)) (by decide));replace Md := hid (Md.out.ty (Dd.ty18 (.bool nd) (.slice ad ld cd)) (by decide));replace Da := Da.box (Ne.symm NN) (.bool nd) (.slice ad ld cd);replace Dd := Dd.set (.bool nd) (.slice ad ld cd);replace GB := hid (bset (u := .slice ad ld cd) (j := 1) (bset (u := .bool nd) (j := 0) GB.out Sd) Sd);rw [hW] at Ma Md Da Dd GB;rw [hW];clear hW;refine hK.out _ _ (fun h => absurd h (by decide)) ?_;clear hK
     try simp only [Act.put]
     refine zDA (by kernel_rfl) ?_ _;have FN : Hid (Mq18 V0 V11 (.pointer (some ⟨V8.heap.size,0,none⟩)) (.pointer (some ⟨w3.heap.size,0,none⟩)) (X i c) (X rp c) kw) := ⟨_,_,na,aa,la,ca,nd,ad,ld,cd,rfl,rfl,Sa,Sd,Da,Dd,Ma.out,Md.out,GB.out⟩
     clear GB KB HB Ma Md Da Dd Sa Sd;go_wp2_with fail;go_meet;exact FN.out
   ·dsimp only [oCa1]
    go_simp;obtain ⟨V12,hW⟩ : ∃ V12,w2.alloc zbox = V12 := ⟨_,rfl⟩
    obtain ⟨b,sz12⟩ := alo1 w2 zbox;rw [hW] at b sz12;replace GB := hid (below_step GB.out b);replace Ma := hid (Ma.out.now b);replace HB : Hid (BX18 V0 V12 [w2.heap.size]) := by unfold Hid;rw [← hW];exact HB.out.new
    clear sz12;rw [hW];clear hW b;refine hK.out _ _ (fun _ => KB.out _ GB.out) ?_;clear hK
    try simp only [Act.put]
    refine zQA (i := 10) (j := 12) (oi := oCa3) (oj := oCa2) (by kernel_rfl) rfl rfl (fun K hK => ?_) (fun K hK => ?_)
    ·dsimp only [oCa3]
     go_simp;go_at_call 67;refine (at18 (WK.out.now GB.out) HI.out.2.1 HI.out.2.2.1 hm hn).mono ?_;rintro e w13 ⟨nd,ad,ld,cd,rfl,mq,b⟩;have lz13 := (show Below _ _ _ from b).size;replace GB := hid (below_step GB.out b);have Md := hid mq;clear mq;replace HB := hid (HB.out.step b);replace Ma := hid (Ma.out.now b);clear b;refine hK.out _ _ (fun _ => KB.out _ GB.out) ?_;clear hK;refine zAA (i := 12) (o := oCa2) (by kernel_rfl) rfl (fun K hK => ?_);dsimp only [oCa2];go_simp;obtain ⟨V14,hW⟩ : ∃ V14,w13.alloc zbox = V14 := ⟨_,rfl⟩
     obtain ⟨b,sz14⟩ := alo1 w13 zbox;rw [hW] at b sz14;replace GB := hid (below_step GB.out b);replace Ma := hid (Ma.out.now b);replace Md := hid (Md.out.now b);replace HB : Hid (BX18 V0 V14 [w13.heap.size,w2.heap.size]) := by unfold Hid;rw [← hW];exact HB.out.new
     clear sz14;rw [hW];clear hW b;refine hK.out _ _ (fun _ => KB.out _ GB.out) ?_;clear hK
     try simp only [Act.put]
     refine zAA (i := 13) (o := oCa4) (by kernel_rfl) rfl (fun K hK => ?_);dsimp only [oCa4];obtain ⟨⟨Sd,Dd⟩,⟨Sa,Da⟩,NN⟩ := HB.out.two;have e0 := Da.c0;have e1 := Da.c1;have e2 := Da.fz 0;have e3 := Da.fz 1;go_simp;clear e0 e1 e2 e3;obtain ⟨V15,hW⟩ : ∃ V15,((V14.setCell ⟨w2.heap.size,0,none⟩ (.bool na)).setCell ⟨w2.heap.size,1,none⟩ (.slice aa la ca)) = V15 := ⟨_,rfl⟩
     replace Ma := hid (Ma.out.ty (Da.ty18 (.bool na) (.slice aa la ca)) (by decide));replace Md := hid (Md.out.ty (Da.ty18 (.bool na) (.slice aa la ca)) (by decide));replace Dd := Dd.box (Ne.symm NN) (.bool na) (.slice aa la ca);replace Da := Da.set (.bool na) (.slice aa la ca);replace GB := hid (bset (u := .slice aa la ca) (j := 1) (bset (u := .bool na) (j := 0) GB.out Sa) Sa);rw [hW] at Ma Md Da Dd GB;rw [hW];clear hW;refine hK.out _ _ (fun h => absurd h (by decide)) ?_;clear hK
     try simp only [Act.put]
     refine zAA (i := 14) (o := oCa5) (by kernel_rfl) rfl (fun K hK => ?_);dsimp only [oCa5];have e0 := Dd.c0;have e1 := Dd.c1;have e2 := Dd.fz 0;have e3 := Dd.fz 1;go_simp;clear e0 e1 e2 e3;obtain ⟨V16,hW⟩ : ∃ V16,((V15.setCell ⟨w13.heap.size,0,none⟩ (.bool nd)).setCell ⟨w13.heap.size,1,none⟩ (.slice ad ld cd)) = V16 := ⟨_,rfl⟩
     replace Ma := hid (Ma.out.ty (Dd.ty18 (.bool nd) (.slice ad ld cd)) (by decide));replace Md := hid (Md.out.ty (Dd.ty18 (.bool nd) (.slice ad ld cd)) (by decide));replace Da := Da.box NN (.bool nd) (.slice ad ld cd);replace Dd := Dd.set (.bool nd) (.slice ad ld cd);replace GB := hid (bset (u := .slice ad ld cd) (j := 1) (bset (u := .bool nd) (j := 0) GB.out Sd) Sd);rw [hW] at Ma Md Da Dd GB;rw [hW];clear hW;refine hK.out _ _ (fun h => absurd h (by decide)) ?_;clear hK
     try simp only [Act.put]
     refine zDA (by kernel_rfl) ?_ _;have FN : Hid (Mq18 V0 V16 (.pointer (some ⟨w2.heap.size,0,none⟩)) (.pointer (some ⟨w13.heap.size,0,none⟩)) (X i c) (X rp c) kw) := ⟨_,_,na,aa,la,ca,nd,ad,ld,cd,rfl,rfl,Sa,Sd,Da,Dd,Ma.out,Md.out,GB.out⟩
     clear GB KB HB Ma Md Da Dd Sa Sd;go_wp2_with fail;go_meet;exact FN.out
    ·dsimp only [oCa2]
     go_simp;obtain ⟨V17,hW⟩ : ∃ V17,V12.alloc zbox = V17 := ⟨_,rfl⟩
     obtain ⟨b,sz17⟩ := alo1 V12 zbox;rw [hW] at b sz17;replace GB := hid (below_step GB.out b);replace Ma := hid (Ma.out.now b);replace HB : Hid (BX18 V0 V17 [V12.heap.size,w2.heap.size]) := by unfold Hid;rw [← hW];exact HB.out.new
     clear sz17;rw [hW];clear hW b;refine hK.out _ _ (fun _ => KB.out _ GB.out) ?_;clear hK
     try simp only [Act.put]
     refine zAA (i := 10) (o := oCa3) (by kernel_rfl) rfl (fun K hK => ?_);dsimp only [oCa3];go_simp;go_at_call 67;refine (at18 (WK.out.now GB.out) HI.out.2.1 HI.out.2.2.1 hm hn).mono ?_;rintro e w18 ⟨nd,ad,ld,cd,rfl,mq,b⟩;have lz18 := (show Below _ _ _ from b).size;replace GB := hid (below_step GB.out b);have Md := hid mq;clear mq;replace HB := hid (HB.out.step b);replace Ma := hid (Ma.out.now b);clear b;refine hK.out _ _ (fun _ => KB.out _ GB.out) ?_;clear hK;refine zAA (i := 13) (o := oCa4) (by kernel_rfl) rfl (fun K hK => ?_);dsimp only [oCa4];obtain ⟨⟨Sd,Dd⟩,⟨Sa,Da⟩,NN⟩ := HB.out.two;have e0 := Da.c0;have e1 := Da.c1;have e2 := Da.fz 0;have e3 := Da.fz 1;go_simp;clear e0 e1 e2 e3;obtain ⟨V19,hW⟩ : ∃ V19,((w18.setCell ⟨w2.heap.size,0,none⟩ (.bool na)).setCell ⟨w2.heap.size,1,none⟩ (.slice aa la ca)) = V19 := ⟨_,rfl⟩
     replace Ma := hid (Ma.out.ty (Da.ty18 (.bool na) (.slice aa la ca)) (by decide));replace Md := hid (Md.out.ty (Da.ty18 (.bool na) (.slice aa la ca)) (by decide));replace Dd := Dd.box (Ne.symm NN) (.bool na) (.slice aa la ca);replace Da := Da.set (.bool na) (.slice aa la ca);replace GB := hid (bset (u := .slice aa la ca) (j := 1) (bset (u := .bool na) (j := 0) GB.out Sa) Sa);rw [hW] at Ma Md Da Dd GB;rw [hW];clear hW;refine hK.out _ _ (fun h => absurd h (by decide)) ?_;clear hK
     try simp only [Act.put]
     refine zAA (i := 14) (o := oCa5) (by kernel_rfl) rfl (fun K hK => ?_);dsimp only [oCa5];have e0 := Dd.c0;have e1 := Dd.c1;have e2 := Dd.fz 0;have e3 := Dd.fz 1;go_simp;clear e0 e1 e2 e3;obtain ⟨V20,hW⟩ : ∃ V20,((V19.setCell ⟨V12.heap.size,0,none⟩ (.bool nd)).setCell ⟨V12.heap.size,1,none⟩ (.slice ad ld cd)) = V20 := ⟨_,rfl⟩
     replace Ma := hid (Ma.out.ty (Dd.ty18 (.bool nd) (.slice ad ld cd)) (by decide));replace Md := hid (Md.out.ty (Dd.ty18 (.bool nd) (.slice ad ld cd)) (by decide));replace Da := Da.box NN (.bool nd) (.slice ad ld cd);replace Dd := Dd.set (.bool nd) (.slice ad ld cd);replace GB := hid (bset (u := .slice ad ld cd) (j := 1) (bset (u := .bool nd) (j := 0) GB.out Sd) Sd);rw [hW] at Ma Md Da Dd GB;rw [hW];clear hW;refine hK.out _ _ (fun h => absurd h (by decide)) ?_;clear hK
     try simp only [Act.put]
     refine zDA (by kernel_rfl) ?_ _;have FN : Hid (Mq18 V0 V20 (.pointer (some ⟨w2.heap.size,0,none⟩)) (.pointer (some ⟨V12.heap.size,0,none⟩)) (X i c) (X rp c) kw) := ⟨_,_,na,aa,la,ca,nd,ad,ld,cd,rfl,rfl,Sa,Sd,Da,Dd,Ma.out,Md.out,GB.out⟩
     clear GB KB HB Ma Md Da Dd Sa Sd;go_wp2_with fail;go_meet;exact FN.out
   ·dsimp only [oCa2]
    go_simp;obtain ⟨V21,hW⟩ : ∃ V21,w2.alloc zbox = V21 := ⟨_,rfl⟩
    obtain ⟨b,sz21⟩ := alo1 w2 zbox;rw [hW] at b sz21;replace GB := hid (below_step GB.out b);replace Ma := hid (Ma.out.now b);replace HB : Hid (BX18 V0 V21 [w2.heap.size]) := by unfold Hid;rw [← hW];exact HB.out.new
    clear sz21;rw [hW];clear hW b;refine hK.out _ _ (fun _ => KB.out _ GB.out) ?_;clear hK
    try simp only [Act.put]
    refine zQA (i := 10) (j := 11) (oi := oCa3) (oj := oCa1) (by kernel_rfl) rfl rfl (fun K hK => ?_) (fun K hK => ?_)
    ·dsimp only [oCa3]
     go_simp;go_at_call 67;refine (at18 (WK.out.now GB.out) HI.out.2.1 HI.out.2.2.1 hm hn).mono ?_;rintro e w22 ⟨nd,ad,ld,cd,rfl,mq,b⟩;have lz22 := (show Below _ _ _ from b).size;replace GB := hid (below_step GB.out b);have Md := hid mq;clear mq;replace HB := hid (HB.out.step b);replace Ma := hid (Ma.out.now b);clear b;refine hK.out _ _ (fun _ => KB.out _ GB.out) ?_;clear hK;refine zAA (i := 11) (o := oCa1) (by kernel_rfl) rfl (fun K hK => ?_);dsimp only [oCa1];go_simp;obtain ⟨V23,hW⟩ : ∃ V23,w22.alloc zbox = V23 := ⟨_,rfl⟩
     obtain ⟨b,sz23⟩ := alo1 w22 zbox;rw [hW] at b sz23;replace GB := hid (below_step GB.out b);replace Ma := hid (Ma.out.now b);replace Md := hid (Md.out.now b);replace HB : Hid (BX18 V0 V23 [w22.heap.size,w2.heap.size]) := by unfold Hid;rw [← hW];exact HB.out.new
     clear sz23;rw [hW];clear hW b;refine hK.out _ _ (fun _ => KB.out _ GB.out) ?_;clear hK
     try simp only [Act.put]
     refine zAA (i := 13) (o := oCa4) (by kernel_rfl) rfl (fun K hK => ?_);dsimp only [oCa4];obtain ⟨⟨Sa,Da⟩,⟨Sd,Dd⟩,NN⟩ := HB.out.two;have e0 := Da.c0;have e1 := Da.c1;have e2 := Da.fz 0;have e3 := Da.fz 1;go_simp;clear e0 e1 e2 e3;obtain ⟨V24,hW⟩ : ∃ V24,((V23.setCell ⟨w22.heap.size,0,none⟩ (.bool na)).setCell ⟨w22.heap.size,1,none⟩ (.slice aa la ca)) = V24 := ⟨_,rfl⟩
     replace Ma := hid (Ma.out.ty (Da.ty18 (.bool na) (.slice aa la ca)) (by decide));replace Md := hid (Md.out.ty (Da.ty18 (.bool na) (.slice aa la ca)) (by decide));replace Dd := Dd.box NN (.bool na) (.slice aa la ca);replace Da := Da.set (.bool na) (.slice aa la ca);replace GB := hid (bset (u := .slice aa la ca) (j := 1) (bset (u := .bool na) (j := 0) GB.out Sa) Sa);rw [hW] at Ma Md Da Dd GB;rw [hW];clear hW;refine hK.out _ _ (fun h => absurd h (by decide)) ?_;clear hK
     try simp only [Act.put]
     refine zAA (i := 14) (o := oCa5) (by kernel_rfl) rfl (fun K hK => ?_);dsimp only [oCa5];have e0 := Dd.c0;have e1 := Dd.c1;have e2 := Dd.fz 0;have e3 := Dd.fz 1;go_simp;clear e0 e1 e2 e3;obtain ⟨V25,hW⟩ : ∃ V25,((V24.setCell ⟨w2.heap.size,0,none⟩ (.bool nd)).setCell ⟨w2.heap.size,1,none⟩ (.slice ad ld cd)) = V25 := ⟨_,rfl⟩
     replace Ma := hid (Ma.out.ty (Dd.ty18 (.bool nd) (.slice ad ld cd)) (by decide));replace Md := hid (Md.out.ty (Dd.ty18 (.bool nd) (.slice ad ld cd)) (by decide));replace Da := Da.box (Ne.symm NN) (.bool nd) (.slice ad ld cd);replace Dd := Dd.set (.bool nd) (.slice ad ld cd);replace GB := hid (bset (u := .slice ad ld cd) (j := 1) (bset (u := .bool nd) (j := 0) GB.out Sd) Sd);rw [hW] at Ma Md Da Dd GB;rw [hW];clear hW;refine hK.out _ _ (fun h => absurd h (by decide)) ?_;clear hK
     try simp only [Act.put]
     refine zDA (by kernel_rfl) ?_ _;have FN : Hid (Mq18 V0 V25 (.pointer (some ⟨w22.heap.size,0,none⟩)) (.pointer (some ⟨w2.heap.size,0,none⟩)) (X i c) (X rp c) kw) := ⟨_,_,na,aa,la,ca,nd,ad,ld,cd,rfl,rfl,Sa,Sd,Da,Dd,Ma.out,Md.out,GB.out⟩
     clear GB KB HB Ma Md Da Dd Sa Sd;go_wp2_with fail;go_meet;exact FN.out
    ·dsimp only [oCa1]
     go_simp;obtain ⟨V26,hW⟩ : ∃ V26,V21.alloc zbox = V26 := ⟨_,rfl⟩
     obtain ⟨b,sz26⟩ := alo1 V21 zbox;rw [hW] at b sz26;replace GB := hid (below_step GB.out b);replace Ma := hid (Ma.out.now b);replace HB : Hid (BX18 V0 V26 [V21.heap.size,w2.heap.size]) := by unfold Hid;rw [← hW];exact HB.out.new
     clear sz26;rw [hW];clear hW b;refine hK.out _ _ (fun _ => KB.out _ GB.out) ?_;clear hK
     try simp only [Act.put]
     refine zAA (i := 10) (o := oCa3) (by kernel_rfl) rfl (fun K hK => ?_);dsimp only [oCa3];go_simp;go_at_call 67;refine (at18 (WK.out.now GB.out) HI.out.2.1 HI.out.2.2.1 hm hn).mono ?_;rintro e w27 ⟨nd,ad,ld,cd,rfl,mq,b⟩;have lz27 := (show Below _ _ _ from b).size;replace GB := hid (below_step GB.out b);have Md := hid mq;clear mq;replace HB := hid (HB.out.step b);replace Ma := hid (Ma.out.now b);clear b;refine hK.out _ _ (fun _ => KB.out _ GB.out) ?_;clear hK;refine zAA (i := 13) (o := oCa4) (by kernel_rfl) rfl (fun K hK => ?_);dsimp only [oCa4];obtain ⟨⟨Sa,Da⟩,⟨Sd,Dd⟩,NN⟩ := HB.out.two;have e0 := Da.c0;have e1 := Da.c1;have e2 := Da.fz 0;have e3 := Da.fz 1;go_simp;clear e0 e1 e2 e3;obtain ⟨V28,hW⟩ : ∃ V28,((w27.setCell ⟨V21.heap.size,0,none⟩ (.bool na)).setCell ⟨V21.heap.size,1,none⟩ (.slice aa la ca)) = V28 := ⟨_,rfl⟩
     replace Ma := hid (Ma.out.ty (Da.ty18 (.bool na) (.slice aa la ca)) (by decide));replace Md := hid (Md.out.ty (Da.ty18 (.bool na) (.slice aa la ca)) (by decide));replace Dd := Dd.box NN (.bool na) (.slice aa la ca);replace Da := Da.set (.bool na) (.slice aa la ca);replace GB := hid (bset (u := .slice aa la ca) (j := 1) (bset (u := .bool na) (j := 0) GB.out Sa) Sa);rw [hW] at Ma Md Da Dd GB;rw [hW];clear hW;refine hK.out _ _ (fun h => absurd h (by decide)) ?_;clear hK
     try simp only [Act.put]
     refine zAA (i := 14) (o := oCa5) (by kernel_rfl) rfl (fun K hK => ?_);dsimp only [oCa5];have e0 := Dd.c0;have e1 := Dd.c1;have e2 := Dd.fz 0;have e3 := Dd.fz 1;go_simp;clear e0 e1 e2 e3;obtain ⟨V29,hW⟩ : ∃ V29,((V28.setCell ⟨w2.heap.size,0,none⟩ (.bool nd)).setCell ⟨w2.heap.size,1,none⟩ (.slice ad ld cd)) = V29 := ⟨_,rfl⟩
     replace Ma := hid (Ma.out.ty (Dd.ty18 (.bool nd) (.slice ad ld cd)) (by decide));replace Md := hid (Md.out.ty (Dd.ty18 (.bool nd) (.slice ad ld cd)) (by decide));replace Da := Da.box (Ne.symm NN) (.bool nd) (.slice ad ld cd);replace Dd := Dd.set (.bool nd) (.slice ad ld cd);replace GB := hid (bset (u := .slice ad ld cd) (j := 1) (bset (u := .bool nd) (j := 0) GB.out Sd) Sd);rw [hW] at Ma Md Da Dd GB;rw [hW];clear hW;refine hK.out _ _ (fun h => absurd h (by decide)) ?_;clear hK
     try simp only [Act.put]
     refine zDA (by kernel_rfl) ?_ _;have FN : Hid (Mq18 V0 V29 (.pointer (some ⟨V21.heap.size,0,none⟩)) (.pointer (some ⟨w2.heap.size,0,none⟩)) (X i c) (X rp c) kw) := ⟨_,_,na,aa,la,ca,nd,ad,ld,cd,rfl,rfl,Sa,Sd,Da,Dd,Ma.out,Md.out,GB.out⟩
     clear GB KB HB Ma Md Da Dd Sa Sd;go_wp2_with fail;go_meet;exact FN.out
  ·dsimp only [oCa1]
   go_simp;obtain ⟨V30,hW⟩ : ∃ V30,D1.alloc zbox = V30 := ⟨_,rfl⟩
   obtain ⟨b,sz30⟩ := alo1 D1 zbox;rw [hW] at b sz30;replace GB := hid (below_step GB.out b);replace HB : Hid (BX18 V0 V30 [D1.heap.size]) := by unfold Hid;rw [← hW];exact HB.out.new
   clear sz30;rw [hW];clear hW b;refine hK.out _ _ (fun _ => KB.out _ GB.out) ?_;clear hK
   try simp only [Act.put]
   refine zQA (i := 4) (j := 12) (oi := oCa0) (oj := oCa2) (by kernel_rfl) rfl rfl (fun K hK => ?_) (fun K hK => ?_)
   ·dsimp only [oCa0]
    go_simp;go_at_call 67;refine (at18 (WK.out.now GB.out) HI.out.1 HI.out.2.2.1 hm hn).mono ?_;rintro e w31 ⟨na,aa,la,ca,rfl,mq,b⟩;have lz31 := (show Below _ _ _ from b).size;replace GB := hid (below_step GB.out b);have Ma := hid mq;clear mq;replace HB := hid (HB.out.step b);clear b;refine hK.out _ _ (fun _ => KB.out _ GB.out) ?_;clear hK;refine zQA (i := 10) (j := 12) (oi := oCa3) (oj := oCa2) (by kernel_rfl) rfl rfl (fun K hK => ?_) (fun K hK => ?_)
    ·dsimp only [oCa3]
     go_simp;go_at_call 67;refine (at18 (WK.out.now GB.out) HI.out.2.1 HI.out.2.2.1 hm hn).mono ?_;rintro e w32 ⟨nd,ad,ld,cd,rfl,mq,b⟩;have lz32 := (show Below _ _ _ from b).size;replace GB := hid (below_step GB.out b);have Md := hid mq;clear mq;replace HB := hid (HB.out.step b);replace Ma := hid (Ma.out.now b);clear b;refine hK.out _ _ (fun _ => KB.out _ GB.out) ?_;clear hK;refine zAA (i := 12) (o := oCa2) (by kernel_rfl) rfl (fun K hK => ?_);dsimp only [oCa2];go_simp;obtain ⟨V33,hW⟩ : ∃ V33,w32.alloc zbox = V33 := ⟨_,rfl⟩
     obtain ⟨b,sz33⟩ := alo1 w32 zbox;rw [hW] at b sz33;replace GB := hid (below_step GB.out b);replace Ma := hid (Ma.out.now b);replace Md := hid (Md.out.now b);replace HB : Hid (BX18 V0 V33 [w32.heap.size,D1.heap.size]) := by unfold Hid;rw [← hW];exact HB.out.new
     clear sz33;rw [hW];clear hW b;refine hK.out _ _ (fun _ => KB.out _ GB.out) ?_;clear hK
     try simp only [Act.put]
     refine zAA (i := 13) (o := oCa4) (by kernel_rfl) rfl (fun K hK => ?_);dsimp only [oCa4];obtain ⟨⟨Sd,Dd⟩,⟨Sa,Da⟩,NN⟩ := HB.out.two;have e0 := Da.c0;have e1 := Da.c1;have e2 := Da.fz 0;have e3 := Da.fz 1;go_simp;clear e0 e1 e2 e3;obtain ⟨V34,hW⟩ : ∃ V34,((V33.setCell ⟨D1.heap.size,0,none⟩ (.bool na)).setCell ⟨D1.heap.size,1,none⟩ (.slice aa la ca)) = V34 := ⟨_,rfl⟩
     replace Ma := hid (Ma.out.ty (Da.ty18 (.bool na) (.slice aa la ca)) (by decide));replace Md := hid (Md.out.ty (Da.ty18 (.bool na) (.slice aa la ca)) (by decide));replace Dd := Dd.box (Ne.symm NN) (.bool na) (.slice aa la ca);replace Da := Da.set (.bool na) (.slice aa la ca);replace GB := hid (bset (u := .slice aa la ca) (j := 1) (bset (u := .bool na) (j := 0) GB.out Sa) Sa);rw [hW] at Ma Md Da Dd GB;rw [hW];clear hW;refine hK.out _ _ (fun h => absurd h (by decide)) ?_;clear hK
     try simp only [Act.put]
     refine zAA (i := 14) (o := oCa5) (by kernel_rfl) rfl (fun K hK => ?_);dsimp only [oCa5];have e0 := Dd.c0;have e1 := Dd.c1;have e2 := Dd.fz 0;have e3 := Dd.fz 1;go_simp;clear e0 e1 e2 e3;obtain ⟨V35,hW⟩ : ∃ V35,((V34.setCell ⟨w32.heap.size,0,none⟩ (.bool nd)).setCell ⟨w32.heap.size,1,none⟩ (.slice ad ld cd)) = V35 := ⟨_,rfl⟩
     replace Ma := hid (Ma.out.ty (Dd.ty18 (.bool nd) (.slice ad ld cd)) (by decide));replace Md := hid (Md.out.ty (Dd.ty18 (.bool nd) (.slice ad ld cd)) (by decide));replace Da := Da.box NN (.bool nd) (.slice ad ld cd);replace Dd := Dd.set (.bool nd) (.slice ad ld cd);replace GB := hid (bset (u := .slice ad ld cd) (j := 1) (bset (u := .bool nd) (j := 0) GB.out Sd) Sd);rw [hW] at Ma Md Da Dd GB;rw [hW];clear hW;refine hK.out _ _ (fun h => absurd h (by decide)) ?_;clear hK
     try simp only [Act.put]
     refine zDA (by kernel_rfl) ?_ _;have FN : Hid (Mq18 V0 V35 (.pointer (some ⟨D1.heap.size,0,none⟩)) (.pointer (some ⟨w32.heap.size,0,none⟩)) (X i c) (X rp c) kw) := ⟨_,_,na,aa,la,ca,nd,ad,ld,cd,rfl,rfl,Sa,Sd,Da,Dd,Ma.out,Md.out,GB.out⟩
     clear GB KB HB Ma Md Da Dd Sa Sd;go_wp2_with fail;go_meet;exact FN.out
    ·dsimp only [oCa2]
     go_simp;obtain ⟨V36,hW⟩ : ∃ V36,w31.alloc zbox = V36 := ⟨_,rfl⟩
     obtain ⟨b,sz36⟩ := alo1 w31 zbox;rw [hW] at b sz36;replace GB := hid (below_step GB.out b);replace Ma := hid (Ma.out.now b);replace HB : Hid (BX18 V0 V36 [w31.heap.size,D1.heap.size]) := by unfold Hid;rw [← hW];exact HB.out.new
     clear sz36;rw [hW];clear hW b;refine hK.out _ _ (fun _ => KB.out _ GB.out) ?_;clear hK
     try simp only [Act.put]
     refine zAA (i := 10) (o := oCa3) (by kernel_rfl) rfl (fun K hK => ?_);dsimp only [oCa3];go_simp;go_at_call 67;refine (at18 (WK.out.now GB.out) HI.out.2.1 HI.out.2.2.1 hm hn).mono ?_;rintro e w37 ⟨nd,ad,ld,cd,rfl,mq,b⟩;have lz37 := (show Below _ _ _ from b).size;replace GB := hid (below_step GB.out b);have Md := hid mq;clear mq;replace HB := hid (HB.out.step b);replace Ma := hid (Ma.out.now b);clear b;refine hK.out _ _ (fun _ => KB.out _ GB.out) ?_;clear hK;refine zAA (i := 13) (o := oCa4) (by kernel_rfl) rfl (fun K hK => ?_);dsimp only [oCa4];obtain ⟨⟨Sd,Dd⟩,⟨Sa,Da⟩,NN⟩ := HB.out.two;have e0 := Da.c0;have e1 := Da.c1;have e2 := Da.fz 0;have e3 := Da.fz 1;go_simp;clear e0 e1 e2 e3;obtain ⟨V38,hW⟩ : ∃ V38,((w37.setCell ⟨D1.heap.size,0,none⟩ (.bool na)).setCell ⟨D1.heap.size,1,none⟩ (.slice aa la ca)) = V38 := ⟨_,rfl⟩
     replace Ma := hid (Ma.out.ty (Da.ty18 (.bool na) (.slice aa la ca)) (by decide));replace Md := hid (Md.out.ty (Da.ty18 (.bool na) (.slice aa la ca)) (by decide));replace Dd := Dd.box (Ne.symm NN) (.bool na) (.slice aa la ca);replace Da := Da.set (.bool na) (.slice aa la ca);replace GB := hid (bset (u := .slice aa la ca) (j := 1) (bset (u := .bool na) (j := 0) GB.out Sa) Sa);rw [hW] at Ma Md Da Dd GB;rw [hW];clear hW;refine hK.out _ _ (fun h => absurd h (by decide)) ?_;clear hK
     try simp only [Act.put]
     refine zAA (i := 14) (o := oCa5) (by kernel_rfl) rfl (fun K hK => ?_);dsimp only [oCa5];have e0 := Dd.c0;have e1 := Dd.c1;have e2 := Dd.fz 0;have e3 := Dd.fz 1;go_simp;clear e0 e1 e2 e3;obtain ⟨V39,hW⟩ : ∃ V39,((V38.setCell ⟨w31.heap.size,0,none⟩ (.bool nd)).setCell ⟨w31.heap.size,1,none⟩ (.slice ad ld cd)) = V39 := ⟨_,rfl⟩
     replace Ma := hid (Ma.out.ty (Dd.ty18 (.bool nd) (.slice ad ld cd)) (by decide));replace Md := hid (Md.out.ty (Dd.ty18 (.bool nd) (.slice ad ld cd)) (by decide));replace Da := Da.box NN (.bool nd) (.slice ad ld cd);replace Dd := Dd.set (.bool nd) (.slice ad ld cd);replace GB := hid (bset (u := .slice ad ld cd) (j := 1) (bset (u := .bool nd) (j := 0) GB.out Sd) Sd);rw [hW] at Ma Md Da Dd GB;rw [hW];clear hW;refine hK.out _ _ (fun h => absurd h (by decide)) ?_;clear hK
     try simp only [Act.put]
     refine zDA (by kernel_rfl) ?_ _;have FN : Hid (Mq18 V0 V39 (.pointer (some ⟨D1.heap.size,0,none⟩)) (.pointer (some ⟨w31.heap.size,0,none⟩)) (X i c) (X rp c) kw) := ⟨_,_,na,aa,la,ca,nd,ad,ld,cd,rfl,rfl,Sa,Sd,Da,Dd,Ma.out,Md.out,GB.out⟩
     clear GB KB HB Ma Md Da Dd Sa Sd;go_wp2_with fail;go_meet;exact FN.out
   ·dsimp only [oCa2]
    go_simp;obtain ⟨V40,hW⟩ : ∃ V40,V30.alloc zbox = V40 := ⟨_,rfl⟩
    obtain ⟨b,sz40⟩ := alo1 V30 zbox;rw [hW] at b sz40;replace GB := hid (below_step GB.out b);replace HB : Hid (BX18 V0 V40 [V30.heap.size,D1.heap.size]) := by unfold Hid;rw [← hW];exact HB.out.new
    clear sz40;rw [hW];clear hW b;refine hK.out _ _ (fun _ => KB.out _ GB.out) ?_;clear hK
    try simp only [Act.put]
    refine zAA (i := 4) (o := oCa0) (by kernel_rfl) rfl (fun K hK => ?_);dsimp only [oCa0];go_simp;go_at_call 67;refine (at18 (WK.out.now GB.out) HI.out.1 HI.out.2.2.1 hm hn).mono ?_;rintro e w41 ⟨na,aa,la,ca,rfl,mq,b⟩;have lz41 := (show Below _ _ _ from b).size;replace GB := hid (below_step GB.out b);have Ma := hid mq;clear mq;replace HB := hid (HB.out.step b);clear b;refine hK.out _ _ (fun _ => KB.out _ GB.out) ?_;clear hK;refine zAA (i := 10) (o := oCa3) (by kernel_rfl) rfl (fun K hK => ?_);dsimp only [oCa3];go_simp;go_at_call 67;refine (at18 (WK.out.now GB.out) HI.out.2.1 HI.out.2.2.1 hm hn).mono ?_;rintro e w42 ⟨nd,ad,ld,cd,rfl,mq,b⟩;have lz42 := (show Below _ _ _ from b).size;replace GB := hid (below_step GB.out b);have Md := hid mq;clear mq;replace HB := hid (HB.out.step b);replace Ma := hid (Ma.out.now b);clear b;refine hK.out _ _ (fun _ => KB.out _ GB.out) ?_;clear hK;refine zAA (i := 13) (o := oCa4) (by kernel_rfl) rfl (fun K hK => ?_);dsimp only [oCa4];obtain ⟨⟨Sd,Dd⟩,⟨Sa,Da⟩,NN⟩ := HB.out.two;have e0 := Da.c0;have e1 := Da.c1;have e2 := Da.fz 0;have e3 := Da.fz 1;go_simp;clear e0 e1 e2 e3;obtain ⟨V43,hW⟩ : ∃ V43,((w42.setCell ⟨D1.heap.size,0,none⟩ (.bool na)).setCell ⟨D1.heap.size,1,none⟩ (.slice aa la ca)) = V43 := ⟨_,rfl⟩
    replace Ma := hid (Ma.out.ty (Da.ty18 (.bool na) (.slice aa la ca)) (by decide));replace Md := hid (Md.out.ty (Da.ty18 (.bool na) (.slice aa la ca)) (by decide));replace Dd := Dd.box (Ne.symm NN) (.bool na) (.slice aa la ca);replace Da := Da.set (.bool na) (.slice aa la ca);replace GB := hid (bset (u := .slice aa la ca) (j := 1) (bset (u := .bool na) (j := 0) GB.out Sa) Sa);rw [hW] at Ma Md Da Dd GB;rw [hW];clear hW;refine hK.out _ _ (fun h => absurd h (by decide)) ?_;clear hK
    try simp only [Act.put]
    refine zAA (i := 14) (o := oCa5) (by kernel_rfl) rfl (fun K hK => ?_);dsimp only [oCa5];have e0 := Dd.c0;have e1 := Dd.c1;have e2 := Dd.fz 0;have e3 := Dd.fz 1;go_simp;clear e0 e1 e2 e3;obtain ⟨V44,hW⟩ : ∃ V44,((V43.setCell ⟨V30.heap.size,0,none⟩ (.bool nd)).setCell ⟨V30.heap.size,1,none⟩ (.slice ad ld cd)) = V44 := ⟨_,rfl⟩
    replace Ma := hid (Ma.out.ty (Dd.ty18 (.bool nd) (.slice ad ld cd)) (by decide));replace Md := hid (Md.out.ty (Dd.ty18 (.bool nd) (.slice ad ld cd)) (by decide));replace Da := Da.box NN (.bool nd) (.slice ad ld cd);replace Dd := Dd.set (.bool nd) (.slice ad ld cd);replace GB := hid (bset (u := .slice ad ld cd) (j := 1) (bset (u := .bool nd) (j := 0) GB.out Sd) Sd);rw [hW] at Ma Md Da Dd GB;rw [hW];clear hW;refine hK.out _ _ (fun h => absurd h (by decide)) ?_;clear hK
    try simp only [Act.put]
    refine zDA (by kernel_rfl) ?_ _;have FN : Hid (Mq18 V0 V44 (.pointer (some ⟨D1.heap.size,0,none⟩)) (.pointer (some ⟨V30.heap.size,0,none⟩)) (X i c) (X rp c) kw) := ⟨_,_,na,aa,la,ca,nd,ad,ld,cd,rfl,rfl,Sa,Sd,Da,Dd,Ma.out,Md.out,GB.out⟩
    clear GB KB HB Ma Md Da Dd Sa Sd;go_wp2_with fail;go_meet;exact FN.out
  ·dsimp only [oCa2]
   go_simp;obtain ⟨V45,hW⟩ : ∃ V45,D1.alloc zbox = V45 := ⟨_,rfl⟩
   obtain ⟨b,sz45⟩ := alo1 D1 zbox;rw [hW] at b sz45;replace GB := hid (below_step GB.out b);replace HB : Hid (BX18 V0 V45 [D1.heap.size]) := by unfold Hid;rw [← hW];exact HB.out.new
   clear sz45;rw [hW];clear hW b;refine hK.out _ _ (fun _ => KB.out _ GB.out) ?_;clear hK
   try simp only [Act.put]
   refine zQA (i := 4) (j := 11) (oi := oCa0) (oj := oCa1) (by kernel_rfl) rfl rfl (fun K hK => ?_) (fun K hK => ?_)
   ·dsimp only [oCa0]
    go_simp;go_at_call 67;refine (at18 (WK.out.now GB.out) HI.out.1 HI.out.2.2.1 hm hn).mono ?_;rintro e w46 ⟨na,aa,la,ca,rfl,mq,b⟩;have lz46 := (show Below _ _ _ from b).size;replace GB := hid (below_step GB.out b);have Ma := hid mq;clear mq;replace HB := hid (HB.out.step b);clear b;refine hK.out _ _ (fun _ => KB.out _ GB.out) ?_;clear hK;refine zQA (i := 10) (j := 11) (oi := oCa3) (oj := oCa1) (by kernel_rfl) rfl rfl (fun K hK => ?_) (fun K hK => ?_)
    ·dsimp only [oCa3]
     go_simp;go_at_call 67;refine (at18 (WK.out.now GB.out) HI.out.2.1 HI.out.2.2.1 hm hn).mono ?_;rintro e w47 ⟨nd,ad,ld,cd,rfl,mq,b⟩;have lz47 := (show Below _ _ _ from b).size;replace GB := hid (below_step GB.out b);have Md := hid mq;clear mq;replace HB := hid (HB.out.step b);replace Ma := hid (Ma.out.now b);clear b;refine hK.out _ _ (fun _ => KB.out _ GB.out) ?_;clear hK;refine zAA (i := 11) (o := oCa1) (by kernel_rfl) rfl (fun K hK => ?_);dsimp only [oCa1];go_simp;obtain ⟨V48,hW⟩ : ∃ V48,w47.alloc zbox = V48 := ⟨_,rfl⟩
     obtain ⟨b,sz48⟩ := alo1 w47 zbox;rw [hW] at b sz48;replace GB := hid (below_step GB.out b);replace Ma := hid (Ma.out.now b);replace Md := hid (Md.out.now b);replace HB : Hid (BX18 V0 V48 [w47.heap.size,D1.heap.size]) := by unfold Hid;rw [← hW];exact HB.out.new
     clear sz48;rw [hW];clear hW b;refine hK.out _ _ (fun _ => KB.out _ GB.out) ?_;clear hK
     try simp only [Act.put]
     refine zAA (i := 13) (o := oCa4) (by kernel_rfl) rfl (fun K hK => ?_);dsimp only [oCa4];obtain ⟨⟨Sa,Da⟩,⟨Sd,Dd⟩,NN⟩ := HB.out.two;have e0 := Da.c0;have e1 := Da.c1;have e2 := Da.fz 0;have e3 := Da.fz 1;go_simp;clear e0 e1 e2 e3;obtain ⟨V49,hW⟩ : ∃ V49,((V48.setCell ⟨w47.heap.size,0,none⟩ (.bool na)).setCell ⟨w47.heap.size,1,none⟩ (.slice aa la ca)) = V49 := ⟨_,rfl⟩
     replace Ma := hid (Ma.out.ty (Da.ty18 (.bool na) (.slice aa la ca)) (by decide));replace Md := hid (Md.out.ty (Da.ty18 (.bool na) (.slice aa la ca)) (by decide));replace Dd := Dd.box NN (.bool na) (.slice aa la ca);replace Da := Da.set (.bool na) (.slice aa la ca);replace GB := hid (bset (u := .slice aa la ca) (j := 1) (bset (u := .bool na) (j := 0) GB.out Sa) Sa);rw [hW] at Ma Md Da Dd GB;rw [hW];clear hW;refine hK.out _ _ (fun h => absurd h (by decide)) ?_;clear hK
     try simp only [Act.put]
     refine zAA (i := 14) (o := oCa5) (by kernel_rfl) rfl (fun K hK => ?_);dsimp only [oCa5];have e0 := Dd.c0;have e1 := Dd.c1;have e2 := Dd.fz 0;have e3 := Dd.fz 1;go_simp;clear e0 e1 e2 e3;obtain ⟨V50,hW⟩ : ∃ V50,((V49.setCell ⟨D1.heap.size,0,none⟩ (.bool nd)).setCell ⟨D1.heap.size,1,none⟩ (.slice ad ld cd)) = V50 := ⟨_,rfl⟩
     replace Ma := hid (Ma.out.ty (Dd.ty18 (.bool nd) (.slice ad ld cd)) (by decide));replace Md := hid (Md.out.ty (Dd.ty18 (.bool nd) (.slice ad ld cd)) (by decide));replace Da := Da.box (Ne.symm NN) (.bool nd) (.slice ad ld cd);replace Dd := Dd.set (.bool nd) (.slice ad ld cd);replace GB := hid (bset (u := .slice ad ld cd) (j := 1) (bset (u := .bool nd) (j := 0) GB.out Sd) Sd);rw [hW] at Ma Md Da Dd GB;rw [hW];clear hW;refine hK.out _ _ (fun h => absurd h (by decide)) ?_;clear hK
     try simp only [Act.put]
     refine zDA (by kernel_rfl) ?_ _;have FN : Hid (Mq18 V0 V50 (.pointer (some ⟨w47.heap.size,0,none⟩)) (.pointer (some ⟨D1.heap.size,0,none⟩)) (X i c) (X rp c) kw) := ⟨_,_,na,aa,la,ca,nd,ad,ld,cd,rfl,rfl,Sa,Sd,Da,Dd,Ma.out,Md.out,GB.out⟩
     clear GB KB HB Ma Md Da Dd Sa Sd;go_wp2_with fail;go_meet;exact FN.out
    ·dsimp only [oCa1]
     go_simp;obtain ⟨V51,hW⟩ : ∃ V51,w46.alloc zbox = V51 := ⟨_,rfl⟩
     obtain ⟨b,sz51⟩ := alo1 w46 zbox;rw [hW] at b sz51;replace GB := hid (below_step GB.out b);replace Ma := hid (Ma.out.now b);replace HB : Hid (BX18 V0 V51 [w46.heap.size,D1.heap.size]) := by unfold Hid;rw [← hW];exact HB.out.new
     clear sz51;rw [hW];clear hW b;refine hK.out _ _ (fun _ => KB.out _ GB.out) ?_;clear hK
     try simp only [Act.put]
     refine zAA (i := 10) (o := oCa3) (by kernel_rfl) rfl (fun K hK => ?_);dsimp only [oCa3];go_simp;go_at_call 67;refine (at18 (WK.out.now GB.out) HI.out.2.1 HI.out.2.2.1 hm hn).mono ?_;rintro e w52 ⟨nd,ad,ld,cd,rfl,mq,b⟩;have lz52 := (show Below _ _ _ from b).size;replace GB := hid (below_step GB.out b);have Md := hid mq;clear mq;replace HB := hid (HB.out.step b);replace Ma := hid (Ma.out.now b);clear b;refine hK.out _ _ (fun _ => KB.out _ GB.out) ?_;clear hK;refine zAA (i := 13) (o := oCa4) (by kernel_rfl) rfl (fun K hK => ?_);dsimp only [oCa4];obtain ⟨⟨Sa,Da⟩,⟨Sd,Dd⟩,NN⟩ := HB.out.two;have e0 := Da.c0;have e1 := Da.c1;have e2 := Da.fz 0;have e3 := Da.fz 1;go_simp;clear e0 e1 e2 e3;obtain ⟨V53,hW⟩ : ∃ V53,((w52.setCell ⟨w46.heap.size,0,none⟩ (.bool na)).setCell ⟨w46.heap.size,1,none⟩ (.slice aa la ca)) = V53 := ⟨_,rfl⟩
     replace Ma := hid (Ma.out.ty (Da.ty18 (.bool na) (.slice aa la ca)) (by decide));replace Md := hid (Md.out.ty (Da.ty18 (.bool na) (.slice aa la ca)) (by decide));replace Dd := Dd.box NN (.bool na) (.slice aa la ca);replace Da := Da.set (.bool na) (.slice aa la ca);replace GB := hid (bset (u := .slice aa la ca) (j := 1) (bset (u := .bool na) (j := 0) GB.out Sa) Sa);rw [hW] at Ma Md Da Dd GB;rw [hW];clear hW;refine hK.out _ _ (fun h => absurd h (by decide)) ?_;clear hK
     try simp only [Act.put]
     refine zAA (i := 14) (o := oCa5) (by kernel_rfl) rfl (fun K hK => ?_);dsimp only [oCa5];have e0 := Dd.c0;have e1 := Dd.c1;have e2 := Dd.fz 0;have e3 := Dd.fz 1;go_simp;clear e0 e1 e2 e3;obtain ⟨V54,hW⟩ : ∃ V54,((V53.setCell ⟨D1.heap.size,0,none⟩ (.bool nd)).setCell ⟨D1.heap.size,1,none⟩ (.slice ad ld cd)) = V54 := ⟨_,rfl⟩
     replace Ma := hid (Ma.out.ty (Dd.ty18 (.bool nd) (.slice ad ld cd)) (by decide));replace Md := hid (Md.out.ty (Dd.ty18 (.bool nd) (.slice ad ld cd)) (by decide));replace Da := Da.box (Ne.symm NN) (.bool nd) (.slice ad ld cd);replace Dd := Dd.set (.bool nd) (.slice ad ld cd);replace GB := hid (bset (u := .slice ad ld cd) (j := 1) (bset (u := .bool nd) (j := 0) GB.out Sd) Sd);rw [hW] at Ma Md Da Dd GB;rw [hW];clear hW;refine hK.out _ _ (fun h => absurd h (by decide)) ?_;clear hK
     try simp only [Act.put]
     refine zDA (by kernel_rfl) ?_ _;have FN : Hid (Mq18 V0 V54 (.pointer (some ⟨w46.heap.size,0,none⟩)) (.pointer (some ⟨D1.heap.size,0,none⟩)) (X i c) (X rp c) kw) := ⟨_,_,na,aa,la,ca,nd,ad,ld,cd,rfl,rfl,Sa,Sd,Da,Dd,Ma.out,Md.out,GB.out⟩
     clear GB KB HB Ma Md Da Dd Sa Sd;go_wp2_with fail;go_meet;exact FN.out
   ·dsimp only [oCa1]
    go_simp;obtain ⟨V55,hW⟩ : ∃ V55,V45.alloc zbox = V55 := ⟨_,rfl⟩
    obtain ⟨b,sz55⟩ := alo1 V45 zbox;rw [hW] at b sz55;replace GB := hid (below_step GB.out b);replace HB : Hid (BX18 V0 V55 [V45.heap.size,D1.heap.size]) := by unfold Hid;rw [← hW];exact HB.out.new
    clear sz55;rw [hW];clear hW b;refine hK.out _ _ (fun _ => KB.out _ GB.out) ?_;clear hK
    try simp only [Act.put]
    refine zAA (i := 4) (o := oCa0) (by kernel_rfl) rfl (fun K hK => ?_);dsimp only [oCa0];go_simp;go_at_call 67;refine (at18 (WK.out.now GB.out) HI.out.1 HI.out.2.2.1 hm hn).mono ?_;rintro e w56 ⟨na,aa,la,ca,rfl,mq,b⟩;have lz56 := (show Below _ _ _ from b).size;replace GB := hid (below_step GB.out b);have Ma := hid mq;clear mq;replace HB := hid (HB.out.step b);clear b;refine hK.out _ _ (fun _ => KB.out _ GB.out) ?_;clear hK;refine zAA (i := 10) (o := oCa3) (by kernel_rfl) rfl (fun K hK => ?_);dsimp only [oCa3];go_simp;go_at_call 67;refine (at18 (WK.out.now GB.out) HI.out.2.1 HI.out.2.2.1 hm hn).mono ?_;rintro e w57 ⟨nd,ad,ld,cd,rfl,mq,b⟩;have lz57 := (show Below _ _ _ from b).size;replace GB := hid (below_step GB.out b);have Md := hid mq;clear mq;replace HB := hid (HB.out.step b);replace Ma := hid (Ma.out.now b);clear b;refine hK.out _ _ (fun _ => KB.out _ GB.out) ?_;clear hK;refine zAA (i := 13) (o := oCa4) (by kernel_rfl) rfl (fun K hK => ?_);dsimp only [oCa4];obtain ⟨⟨Sa,Da⟩,⟨Sd,Dd⟩,NN⟩ := HB.out.two;have e0 := Da.c0;have e1 := Da.c1;have e2 := Da.fz 0;have e3 := Da.fz 1;go_simp;clear e0 e1 e2 e3;obtain ⟨V58,hW⟩ : ∃ V58,((w57.setCell ⟨V45.heap.size,0,none⟩ (.bool na)).setCell ⟨V45.heap.size,1,none⟩ (.slice aa la ca)) = V58 := ⟨_,rfl⟩
    replace Ma := hid (Ma.out.ty (Da.ty18 (.bool na) (.slice aa la ca)) (by decide));replace Md := hid (Md.out.ty (Da.ty18 (.bool na) (.slice aa la ca)) (by decide));replace Dd := Dd.box NN (.bool na) (.slice aa la ca);replace Da := Da.set (.bool na) (.slice aa la ca);replace GB := hid (bset (u := .slice aa la ca) (j := 1) (bset (u := .bool na) (j := 0) GB.out Sa) Sa);rw [hW] at Ma Md Da Dd GB;rw [hW];clear hW;refine hK.out _ _ (fun h => absurd h (by decide)) ?_;clear hK
    try simp only [Act.put]
    refine zAA (i := 14) (o := oCa5) (by kernel_rfl) rfl (fun K hK => ?_);dsimp only [oCa5];have e0 := Dd.c0;have e1 := Dd.c1;have e2 := Dd.fz 0;have e3 := Dd.fz 1;go_simp;clear e0 e1 e2 e3;obtain ⟨V59,hW⟩ : ∃ V59,((V58.setCell ⟨D1.heap.size,0,none⟩ (.bool nd)).setCell ⟨D1.heap.size,1,none⟩ (.slice ad ld cd)) = V59 := ⟨_,rfl⟩
    replace Ma := hid (Ma.out.ty (Dd.ty18 (.bool nd) (.slice ad ld cd)) (by decide));replace Md := hid (Md.out.ty (Dd.ty18 (.bool nd) (.slice ad ld cd)) (by decide));replace Da := Da.box (Ne.symm NN) (.bool nd) (.slice ad ld cd);replace Dd := Dd.set (.bool nd) (.slice ad ld cd);replace GB := hid (bset (u := .slice ad ld cd) (j := 1) (bset (u := .bool nd) (j := 0) GB.out Sd) Sd);rw [hW] at Ma Md Da Dd GB;rw [hW];clear hW;refine hK.out _ _ (fun h => absurd h (by decide)) ?_;clear hK
    try simp only [Act.put]
    refine zDA (by kernel_rfl) ?_ _;have FN : Hid (Mq18 V0 V59 (.pointer (some ⟨V45.heap.size,0,none⟩)) (.pointer (some ⟨D1.heap.size,0,none⟩)) (X i c) (X rp c) kw) := ⟨_,_,na,aa,la,ca,nd,ad,ld,cd,rfl,rfl,Sa,Sd,Da,Dd,Ma.out,Md.out,GB.out⟩
    clear GB KB HB Ma Md Da Dd Sa Sd;go_wp2_with fail;go_meet;exact FN.out
 case rest =>
 rename World => W1
 obtain ⟨bn,bp,nn,an,ln,cn,np,ap,lp,cp,rfl,rfl,hbn,hbp,dn,dp,zn,zp,b⟩ := hcut;replace WK := hid (WK.out.now b);replace DB := hid (DB.out.step b);replace B0 := hid (below_step B0.out b);have DN := hid dn;have DP := hid dp;have ZN := hid zn;have ZP := hid zp;have i0 := dn.c0;have i1 := dn.c1;have p0 := dp.c0;have p1 := dp.c1;clear s0 s1 b dn dp zn zp hbn hbp
 by_cases hdv : (X i c).tmod (X rp c) = 0
 ·have hsq : X i c = (X i c).tdiv (X rp c) * X rp c := by
   have := Int.mul_tdiv_add_tmod (X i c) (X rp c);rw [hdv] at this;rw [Int.mul_comm];omega
  have HL2 := hid (HL.out.less HI.out.2.2.2.2 HC.out (s := (X i c).tdiv (X rp c)) (by rw [ERP.out];exact hsq));have HSA : Hid (((X i c).tdiv (X rp c)).natAbs ≤ bd18 T p) := by
   unfold Hid;have h1 := HL.out.b3 c HI.out.2.2.1;have h2 : (X i c).natAbs = ((X i c).tdiv (X rp c)).natAbs * (X rp c).natAbs := by rw [← Int.natAbs_mul,← hsq]
   have h3 : ((X i c).tdiv (X rp c)).natAbs * 1 ≤ ((X i c).tdiv (X rp c)).natAbs * (X rp c).natAbs := Nat.mul_le_mul_left _ (by have := HP0.out;omega);omega
  rw [ERP.out] at HL2;have HX := hid (ztD ZN.out.zi ZP.out.zi HP0.out (by have := HK.out;omega) (by have := HK.out;omega) hdv);clear hdv hsq;go_wp2_with fail;refine HX.out.mono ?_;rintro e W2 ⟨rq,rfl,mq,b⟩;obtain ⟨nq,xq,aq,cq,rfl⟩ := mq.parts;obtain ⟨V3,hV3⟩ : ∃ V3,W2.alloc (duo (.bool nq) (.slice aq xq.length cq)) = V3 := ⟨_,rfl⟩
  obtain ⟨b3,sz3⟩ := alo1 W2 (duo (.bool nq) (.slice aq xq.length cq));rw [hV3] at b3 sz3;have bb := below_step b b3;have D3 : Duo V3 W2.heap.size (.bool nq) (.slice aq xq.length cq) := by rw [← hV3];exact Duo.new W2 _ _
  have q0 := D3.c0;have q1 := D3.c1;have t0 := (DB.out.step bb).at (i := 0) rfl;have ZQ := hid (((mq.mono (Nat.zero_le _)).now b3).fit (l := kw) (HL.out.le hn HT.out HSA.out));replace WK := hid (WK.out.now bb);replace B0 := hid (below_step B0.out bb);have HLS := hid (zqH WK.out HI.out.1 HI.out.2.1 (Ne.symm HI.out.2.2.2.1) ZQ.out (fun d hd => by have := HL2.out.pw hn HT.out i d (by omega) hd;rw [zSB] at this;exact this) hm hn (by have := HK.out;omega));have FIN : Hid (∀ Y,zEE (· = gs i) B V3 bs Bl Bh Ba lv sv m n r ρ γ gs (lesX X i rp ((X i c).tdiv (X rp c))) kw (.returned (.tuple #[])) Y → zWI B w bs Bl Bh Ba lv sv m n r ρ γ gs A kw i (c + 1) (p + 1) T (.returned (.tuple #[])) Y) := by
   rintro Y ⟨-,h1,h2⟩;exact ⟨_,rfl,h1,HL2.out,(Touch.ofBelow B0.out).trans (h2.mono18 fun b q => ⟨i,HI.out.1,q⟩)⟩
  have EV3 := hid hV3;rw [← hV3] at q0 q1 t0;clear HX mq b b3 sz3 bb D3 hV3 i0 i1 p0 p1 DB DN DP ZN ZP;go_wp2_with fail;rw [EV3.out];refine HLS.out.mono ?_;intro e Y hY;obtain ⟨rfl,h1,h2⟩ := hY;have FF := hid (FIN.out Y ⟨rfl,h1,h2⟩);clear HLS FIN h1 h2 EV3;go_wp2;refine bodyPost_ret (results_none rfl _ _ _) rfl ?_;exact FF.out
 ·have HX := hid (exact_no ZN.out.zi ZP.out.zi HP0.out (by have := HK.out;omega) (by have := HK.out;omega) hdv)
  clear hdv;go_upto_region 2 with fail
  go_cut [9] from 10 (fun s9 wx => s9 = .int .i64 8 ∧ Below W1.heap.size W1 wx)
  case first =>
   go_wp2_with fail;refine HX.out.mono ?_;rintro e W2 ⟨rq,rfl,mq,b⟩;obtain ⟨nq,xq,aq,cq,rfl⟩ := mq.parts;obtain ⟨b3,sz3⟩ := alo1 W2 (duo (.bool nq) (.slice aq xq.length cq));have BB := hid (below_step b b3);clear HX mq b b3 sz3;go_wp2_with fail;go_meet;exact ⟨rfl,BB.out⟩
  case rest =>
  rename World => W2
  obtain ⟨rfl,b⟩ := hcut;replace WK := hid (WK.out.now b);replace DB := hid (DB.out.step b);replace B0 := hid (below_step B0.out b);replace DN := hid (DN.out.step b);replace DP := hid (DP.out.step b);replace ZN := hid (ZN.out.now b);replace ZP := hid (ZP.out.now b);replace i0 := DN.out.c0;replace i1 := DN.out.c1;replace p0 := DP.out.c0;replace p1 := DP.out.c1;have HE := hid (ext_z ZP.out.zi ZN.out.zi Hk1.out HK.out);clear HX b;go_upto_region 5 with fail
  go_cut [10,11,12] from 13 (fun s10 s11 s12 wx => ∃ g x y,ExtV (X rp c) (X i c) g x y ∧ Mo18 W2 wx s10 g kw ∧ Mo18 W2 wx s11 x kw ∧ Mo18 W2 wx s12 y kw)
  case first =>
   go_wp2_with fail;refine HE.out.mono ?_;rintro e W3 ⟨g,x,y,rg,rx,ry,hv,rfl,mg,mx,my,b⟩;obtain ⟨ng,xg,ag,cg,rfl⟩ := mg.parts;obtain ⟨nx,xx,ax,cx,rfl⟩ := mx.parts;obtain ⟨ny,xy,ay,cy,rfl⟩ := my.parts;have MG := hid mg;have MX := hid mx;have MY := hid my;have HV := hid hv;have BB := hid b;clear HE mg mx my hv b;go_wp2_with fail;obtain ⟨V4,hV4⟩ : ∃ V4,((W3.alloc (duo (.bool ng) (.slice ag xg.length cg))).alloc (duo (.bool nx) (.slice ax xx.length cx))).alloc (duo (.bool ny) (.slice ay xy.length cy)) = V4 := ⟨_,rfl⟩
   obtain ⟨b4,sz4⟩ := zKC W3 (duo (.bool ng) (.slice ag xg.length cg)) (duo (.bool nx) (.slice ax xx.length cx)) (duo (.bool ny) (.slice ay xy.length cy));rw [hV4] at b4 sz4;have dg : Duo V4 W3.heap.size (.bool ng) (.slice ag xg.length cg) := by rw [← hV4];exact zBA (zBA (zEA (by simp)) _) _
   have dx : Duo V4 (W3.heap.size + 1) (.bool nx) (.slice ax xx.length cx) := by rw [← hV4];exact zBA (zEA (by simp)) _
   have dy : Duo V4 (W3.heap.size + 1 + 1) (.bool ny) (.slice ay xy.length cy) := by rw [← hV4];exact zEA (by simp)
   have hs3 := BB.out.size;have bb := below_step BB.out b4;have FN : Hid (∃ g x y,ExtV (X rp c) (X i c) g x y ∧ Mo18 W2 V4 (.pointer (some ⟨W3.heap.size,0,none⟩)) g kw ∧ Mo18 W2 V4 (.pointer (some ⟨W3.heap.size + 1,0,none⟩)) x kw ∧ Mo18 W2 V4 (.pointer (some ⟨W3.heap.size + 1 + 1,0,none⟩)) y kw) :=
    ⟨g,x,y,HV.out,⟨_,_,_,_,_,rfl,by omega,dg,(MG.out.mono (Nat.zero_le _)).now b4,bb⟩,⟨_,_,_,_,_,rfl,by omega,dx,(MX.out.mono (Nat.zero_le _)).now b4,bb⟩,⟨_,_,_,_,_,rfl,by omega,dy,(MY.out.mono (Nat.zero_le _)).now b4,bb⟩⟩
   have EV4 := hid hV4;clear b4 sz4 dg dx dy hs3 bb hV4 MG MX MY HV BB;rw [EV4.out];go_meet;exact FN.out
  case rest =>
  rename World => W3
  obtain ⟨g,x,y,hv,⟨bg,ng,ag,lg,cg,rfl,-,dg,zg,b⟩,⟨bX,nx,ax,lx,cx,rfl,-,dx,zx,-⟩,⟨bY,ny,ay,ly,cy,rfl,-,dy,zy,-⟩⟩ := hcut;obtain ⟨e1,e2,e3,e4,e5,e6,e7,e8⟩ := HL.out.mixE HI.out.2.2.2.2 HC.out HN0.out (by rw [ERP.out];exact hv);rw [ERP.out] at e3 e4 e8;have HG0 : Hid (g ≠ 0) := by unfold Hid;omega
  have HL2 := hid e4;have HXB := hid e5;have HYB := hid e6;have HUB := hid e7;have HVB := hid e8;replace WK := hid (WK.out.now b);replace DB := hid (DB.out.step b);replace B0 := hid (below_step B0.out b);replace DN := hid (DN.out.step b);replace DP := hid (DP.out.step b);replace ZN := hid (ZN.out.now b);replace ZP := hid (ZP.out.now b);have DG := hid dg;have DX := hid dx;have DY := hid dy;have ZG := hid zg;have ZX := hid zx;have ZY := hid zy;clear i0 i1 p0 p1;have i0 := DN.out.c0;have i1 := DN.out.c1;have g0 := DG.out.c0;have g1 := DG.out.c1;have HX := hid (ztD ZN.out.zi ZG.out.zi HG0.out (by have := HK.out;omega) (by have := HK.out;omega) e2);have HTM := hid e3;clear HE hv e1 e2 e3 e4 e5 e6 e7 e8 dg dx dy zg zx zy b;go_upto_region 6 with fail
  go_cut [13] from 14 (fun s13 wx => Mo18 W3 wx s13 ((X i c).tdiv g) kw)
  case first =>
   go_wp2_with fail;refine HX.out.mono ?_;rintro e W4 ⟨rq,rfl,mq,b⟩;obtain ⟨nq,xq,aq,cq,rfl⟩ := mq.parts;obtain ⟨V4,hV4⟩ : ∃ V4,W4.alloc (duo (.bool nq) (.slice aq xq.length cq)) = V4 := ⟨_,rfl⟩
   obtain ⟨b3,sz3⟩ := alo1 W4 (duo (.bool nq) (.slice aq xq.length cq));rw [hV4] at b3 sz3;have FN : Hid (Mo18 W3 V4 (.pointer (some ⟨W4.heap.size,0,none⟩)) ((X i c).tdiv g) kw) := ⟨_,_,_,_,_,rfl,b.size,by rw [← hV4];exact Duo.new W4 _ _,(mq.mono (Nat.zero_le _)).now b3,below_step b b3⟩
   have EV4 := hid hV4;clear HX mq b b3 sz3 hV4;go_wp2_with fail;rw [EV4.out];go_meet;exact FN.out
  case rest =>
  rename World => W4
  obtain ⟨bU,nu,au,lu,cu,rfl,-,du,zu,b⟩ := hcut;replace WK := hid (WK.out.now b);replace DB := hid (DB.out.step b);replace B0 := hid (below_step B0.out b);replace DP := hid (DP.out.step b);replace ZP := hid (ZP.out.now b);replace DG := hid (DG.out.step b);replace DX := hid (DX.out.step b);replace DY := hid (DY.out.step b);replace ZG := hid (ZG.out.now b);replace ZX := hid (ZX.out.now b);replace ZY := hid (ZY.out.now b);have DU := hid du;have ZU := hid zu;clear i0 i1 g0 g1 DN ZN;have p0 := DP.out.c0;have p1 := DP.out.c1;have g0 := DG.out.c0;have g1 := DG.out.c1;replace HX := hid (ztD ZP.out.zi ZG.out.zi HG0.out (by have := HK.out;omega) (by have := HK.out;omega) HTM.out);clear du zu b HTM;go_upto_region 7 with fail
  go_cut [15] from 16 (fun s15 wx => Mo18 W4 wx s15 ((X rp c).tdiv g) kw)
  case first =>
   go_wp2_with fail;refine HX.out.mono ?_;rintro e W5 ⟨rq,rfl,mq,b⟩;obtain ⟨nq,xq,aq,cq,rfl⟩ := mq.parts;obtain ⟨V4,hV4⟩ : ∃ V4,W5.alloc (duo (.bool nq) (.slice aq xq.length cq)) = V4 := ⟨_,rfl⟩
   obtain ⟨b3,sz3⟩ := alo1 W5 (duo (.bool nq) (.slice aq xq.length cq));rw [hV4] at b3 sz3;have FN : Hid (Mo18 W4 V4 (.pointer (some ⟨W5.heap.size,0,none⟩)) ((X rp c).tdiv g) kw) := ⟨_,_,_,_,_,rfl,b.size,by rw [← hV4];exact Duo.new W5 _ _,(mq.mono (Nat.zero_le _)).now b3,below_step b b3⟩
   have EV4 := hid hV4;clear HX mq b b3 sz3 hV4;go_wp2_with fail;rw [EV4.out];go_meet;exact FN.out
  case rest =>
  rename World => W5
  obtain ⟨bV,nv,av,lv1,cv,rfl,-,dv,zv,b⟩ := hcut;replace WK := hid (WK.out.now b);replace DB := hid (DB.out.step b);replace B0 := hid (below_step B0.out b);replace DX := hid (DX.out.step b);replace DY := hid (DY.out.step b);replace DU := hid (DU.out.step b);replace ZX := hid (ZX.out.now b);replace ZY := hid (ZY.out.now b);replace ZU := hid (ZU.out.now b);have ZV := hid zv;clear p0 p1 g0 g1 DP ZP DG ZG HX;have s0 := DB.out.at (i := 0) rfl;have x0 := DX.out.c0;have x1 := DX.out.c1;have y0 := DY.out.c0;have y1 := DY.out.c1;have u0 := DU.out.c0;have u1 := DU.out.c1;have v0 := dv.c0;have v1 := dv.c1;have FIN : Hid (∀ W6 Y,Below W5.heap.size W5 W6 → zEE (zbC (gs rp) (gs i)) B W6 bs Bl Bh Ba lv sv m n r ρ γ gs (mixX X rp i x y (-((X i c).tdiv g)) ((X rp c).tdiv g)) kw (.returned (.tuple #[])) Y → zWI B w bs Bl Bh Ba lv sv m n r ρ γ gs A kw i (c + 1) (p + 1) T (.returned (.tuple #[])) Y) := by
   rintro W6 Y hb ⟨-,h1,h2⟩;exact ⟨_,rfl,h1,HL2.out,(Touch.ofBelow (below_step B0.out hb)).trans (h2.mono18 fun b q => by
    rcases q with q | q
    ·exact ⟨rp,HI.out.2.1,q⟩
    ·exact ⟨i,HI.out.1,q⟩)⟩
  clear dv zv b DX DY DU;go_wp2_with fail;have KB : Hid (∀ w',Below W5.heap.size W5 w' → w'.cell? ⟨bx,0,none⟩ = some (.int .i64 (rp : Int)) ∧ w'.cell? ⟨bX,0,none⟩ = some (.bool nx) ∧ w'.cell? ⟨bX,1,none⟩ = some (.slice ax lx cx) ∧ w'.cell? ⟨bY,0,none⟩ = some (.bool ny) ∧ w'.cell? ⟨bY,1,none⟩ = some (.slice ay ly cy) ∧ w'.cell? ⟨bU,0,none⟩ = some (.bool nu) ∧ w'.cell? ⟨bU,1,none⟩ = some (.slice au lu cu) ∧ w'.cell? ⟨bV,0,none⟩ = some (.bool nv) ∧ w'.cell? ⟨bV,1,none⟩ = some (.slice av lv1 cv)) := fun w' h => ⟨cnow h s0,cnow h x0,cnow h x1,cnow h y0,cnow h y1,cnow h u0,cnow h u1,cnow h v0,cnow h v1⟩
  refine zFA (fun w' => w'.cell? ⟨bx,0,none⟩ = some (.int .i64 (rp : Int)) ∧ w'.cell? ⟨bX,0,none⟩ = some (.bool nx) ∧ w'.cell? ⟨bX,1,none⟩ = some (.slice ax lx cx) ∧ w'.cell? ⟨bY,0,none⟩ = some (.bool ny) ∧ w'.cell? ⟨bY,1,none⟩ = some (.slice ay ly cy) ∧ w'.cell? ⟨bU,0,none⟩ = some (.bool nu) ∧ w'.cell? ⟨bU,1,none⟩ = some (.slice au lu cu) ∧ w'.cell? ⟨bV,0,none⟩ = some (.bool nv) ∧ w'.cell? ⟨bV,1,none⟩ = some (.slice av lv1 cv)) 12 (by kernel_rfl) ?_;obtain ⟨D501,hD⟩ : ∃ D501,W5.drew = D501 := ⟨_,rfl⟩
  have GB : Hid (Below W5.heap.size W5 D501) := by unfold Hid;rw [← hD];exact (Below.refl _ _).drew
  rw [hD];clear hD;refine zHA [(0,(.pointer (some ⟨bs,0,none⟩))),(1,(.pointer (some ⟨bx,0,none⟩))),(2,(.int .i64 (rp : Int))),(3,(.int .i64 (i : Int))),(4,(.agg #[.bool nx,.slice ax lx cx])),(5,(.agg #[.bool ny,.slice ay ly cy])),(6,(.agg #[.bool nx,.slice ax lx cx,.bool ny,.slice ay ly cy])),(7,(.agg #[.bool nu,.slice au lu cu])),(9,(.agg #[.bool nv,.slice av lv1 cv]))] 9 ?_ (KB.out _ GB.out) ?_
  ·simp only [zSA,gA9,g09,g19,Act.put,sI9,s09,s19]
   (repeat' (first | exact trivial | refine And.intro (Or.inl ⟨by rfl,?_⟩) ?_)) <;> (intro w hSw;(try dsimp only at hSw);go_simp)
  simp only [actV,gA9,g09,g19,Act.put,sI9,s09,s19];refine zAA (i := 8) (o := oCa6) (by kernel_rfl) rfl (fun K hK => ?_);dsimp only [oCa6];go_simp;go_at_call 36;refine (zbI (ZU.out.now GB.out).zi).mono ?_;rintro e w502 ⟨rm,rfl,mq,b⟩;have lz502 := (show Below _ _ _ from b).size;replace GB := hid (below_step GB.out b);have MM := hid (mq.mono (Nat.zero_le _));obtain ⟨nm,xm,am,cm,rfl⟩ := mq.parts;clear mq;clear b;refine hK.out _ _ (fun _ => KB.out _ GB.out) ?_;clear hK;refine zHA [(10,(.agg #[.bool nm,.slice am xm.length cm,.bool nv,.slice av lv1 cv])),(11,(.agg #[.bool nx,.slice ax lx cx,.bool ny,.slice ay ly cy,.bool nm,.slice am xm.length cm,.bool nv,.slice av lv1 cv]))] 2 ?_ (KB.out _ GB.out) ?_
  ·simp only [zSA,gA9,g09,g19,Act.put,sI9,s09,s19]
   (repeat' (first | exact trivial | refine And.intro (Or.inl ⟨by rfl,?_⟩) ?_)) <;> (intro w hSw;(try dsimp only at hSw);go_simp)
  simp only [actV,gA9,g09,g19,Act.put,sI9,s09,s19];refine zAA (i := 12) (o := oCa7) (by kernel_rfl) rfl (fun K hK => ?_);dsimp only [oCa7];go_simp;go_at_call 90;have HMX := hid (mix18 (WK.out.now GB.out) HI.out.2.1 HI.out.1 HI.out.2.2.2.1 (ZX.out.now GB.out) (ZY.out.now GB.out) MM.out (ZV.out.now GB.out) (fun d hd => by have := HL2.out.pw hn HT.out rp d (by have := HL.out.ec.rl p HI.out.2.2.2.2;rw [ERP.out] at this;omega) hd;rw [zHD] at this;exact this) (fun d hd => by have := HL2.out.pw hn HT.out i d (by omega) hd;rw [ziD HI.out.2.2.2.1] at this;exact this) hm hn (by have := HK.out;omega));refine HMX.out.mono ?_;rintro e w9 ⟨rfl,h1,h2⟩;have FF := hid (FIN.out _ _ GB.out ⟨rfl,h1,h2⟩);clear HMX h1 h2;refine hK.out _ _ (fun h => absurd h (by decide)) ?_;clear hK;refine zDA (by kernel_rfl) ?_ _;clear GB KB MM ZX ZY ZU ZV WK s0 x0 x1 y0 y1 u0 u1 v0 v1 FIN;go_wp2;go_end0;exact FF.out
end Go.Proofs.YtmnecbniappnaaaGreat
