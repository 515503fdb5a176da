/-
 QBf18ToIi18: Bf18, Do11, Neg11, Add11, In11, Fit11, Ck11, OpenSt11, Rows11, Gr16, Hw18, Ii18, joined.
-/
import Derived.Test.YtmnecbniappnaaaGreatQFo18
import Derived.Test.YtmnecbniappnaaaGreatQFp18ToJa18
import Derived.Test.YtmnecbniappnaaaGreatQTailLToTo18
import Derived.Test.YtmnecbniappnaaaGreatQLm6ToLeastA9
import Derived.Test.YtmnecbniappnaaaGreatQFil9ToRowsOf9
import Derived.Test.YtmnecbniappnaaaGreatQZOnesToZCmp
import Derived.Test.YtmnecbniappnaaaGreatQZAdd
import Derived.Test.YtmnecbniappnaaaGreatQLi18ToZg18
import Derived.Handy
import Derived.Test.YtmnecbniappnaaaGreatRows
import Derived.Test.YtmnecbniappnaaaGreatQAlikeToShift
import Derived.Test.YtmnecbniappnaaaGreatQWordsToCarry
import Derived.Lib.SmallJoins
import Derived.Test.YtmnecbniappnaaaGreatQCat9ToOpenM9

set_option maxRecDepth 100000
set_option maxHeartbeats 6400000
set_option linter.unusedVariables false
set_option linter.unusedSimpArgs false
namespace Go.Proofs.YtmnecbniappnaaaGreat
open Go.RowKit
def zVH (w : World) (m n : Nat) (A : Nat → Nat → Int) (kt : Nat) (e : Ending) (w' : World) : Prop :=
 ∃ v r γ X,e = .returned (.tuple #[v,.int .i64 0]) ∧ Mc w' v r n (zG18 r n X) kt ∧ Hb18 m n m r id γ X A ∧ Below w.heap.size w w'
theorem basis18 {w : World} {v : Value} {m n k kw kt T : Nat} {zs : List Int} (h : Mx w v m n zs k) (hTb : Tb18 m n (en18 n zs) T) (hkk : k ≤ kw) (hT : ((bd18 T 128 : Nat) : Int) < pw kw) (hk1 : 1 ≤ kw) (hK : kw ≤ 68719476736) (hkt : ((T : Nat) : Int) < pw kt) :
  Calls Tryz.prog 6 #[v] w (zVH w m n (en18 n zs) kt) := by
 obtain ⟨aa,ca,rfl,hm,hn⟩ := h.form;have hzl : zs.length = m * n := by obtain ⟨_,_,_,_,_,h,_⟩ := h;exact h
 obtain ⟨la,hla⟩ : ∃ la,m * n = la := ⟨_,rfl⟩
 have HLA := hid hla;rw [hla] at h ⊢;dsimp only [matv] at h ⊢;obtain ⟨W0,hW⟩ : ∃ W0,(w.alloc (.cells #[.int .i64 (m : Int),.int .i64 (n : Int),.slice aa la ca] 24)).alloc mbox = W0 := ⟨_,rfl⟩
 obtain ⟨b0,sz0⟩ := zYA w (.cells #[.int .i64 (m : Int),.int .i64 (n : Int),.slice aa la ca] 24) mbox;rw [hW] at b0 sz0;have dA : Cel W0 w.heap.size 24 [.int .i64 (m : Int),.int .i64 (n : Int),.slice aa la ca] := by rw [← hW];exact (Cel.new w _ _).step ((Below.refl _ _).alloc (Nat.le_refl _) _)
 have dR : Cel W0 (w.heap.size + 1) 24 [.int .i64 0,.int .i64 0,.slice none 0 0] := by
  rw [← hW];have := Cel.new (w.alloc (.cells #[.int .i64 (m : Int),.int .i64 (n : Int),.slice aa la ca] 24)) 24 [.int .i64 0,.int .i64 0,.slice none 0 0]
  simpa using this
 have MX := hid (h.now b0);have HCK := hid (zoC MX.out);have DA := hid dA;have DR := hid dR;have B0 := hid b0;have SZ0 := hid sz0;have EW := hid hW;have HZL := hid hzl;have HTB := hid hTb;have HKK := hid hkk;have HT := hid hT;have Hk1 := hid hk1;have HK := hid hK;have HKT := hid hkt;have x0 := dA.at (i := 0) rfl;have x1 := dA.at (i := 1) rfl;have x2 := dA.at (i := 2) rfl;rw [← hW] at x0 x1 x2;clear h hTb hkk hT hk1 hK hkt b0 sz0 hW dA dR hzl hla;go_enter Tryz.func6,Tryz.ntmps6;go_upto_region 1 with fail
 rw [EW.out] at x0 x1 x2;rw [EW.out];go_wp2_with fail;refine HCK.out.mono ?_;rintro e w1 ⟨rfl,b1⟩;have DA1 := hid (DA.out.step b1);have DR1 := hid (DR.out.step b1);have B1 := hid (below_step B0.out b1);have HLI := hid (zPF (MX.out.now b1));clear HCK x0 x1 x2 EW DA DR MX;have x0 := DA1.out.at (i := 0) rfl;have x1 := DA1.out.at (i := 1) rfl;have x2 := DA1.out.at (i := 2) rfl;have hs1 := b1.size;have hsz0 := SZ0.out;clear b1;go_wp2_with fail;refine HLI.out.mono ?_;rintro e w2 ⟨lv,gs,rfl,q1,q2⟩;have hml : (rowsL m n zs).length = m := zbB;rw [hml] at q1;have SH2 := hid ((q1.congr (fun i j hi hj => zkF HZL.out hi hj)).more18 HKK.out);have DA2 := hid (DA1.out.step q2);have DR2 := hid (DR1.out.step q2);have B2 := hid (below_step B1.out q2);have HFD := hid (zLG SH2.out HTB.out q2.size hm hn HT.out Hk1.out HK.out);have HS2 := hid q2.size;obtain ⟨lla,llc,rfl⟩ : ∃ la lc,lv = .slice la m lc := by
  rcases q1.1 with ⟨e,h⟩ | ⟨h0,Lb,cap,r,e,_⟩
  ·exact ⟨none,0,by rw [e];exact h⟩
  ·exact ⟨_,cap,e⟩
 clear HLI q1 q2 DA1 DR1 B1 x0 x1 x2 hml;go_wp2_with fail;refine HFD.out.mono ?_;rintro e w3 ⟨r,γ,gs',X,rfl,h1,h2,h3⟩;have DA3 : Cel w3 w.heap.size 24 [.int .i64 (m : Int),.int .i64 (n : Int),.slice aa la ca] := (h3.block _ (by omega)).trans DA2.out;have DR3 := hid (show Cel w3 (w.heap.size + 1) 24 [.int .i64 0,.int .i64 0,.slice none 0 0] from (h3.block _ (by omega)).trans DR2.out);have B3 : Hid (Below w.heap.size w w3) := zXA B2.out ⟨h3.os,h3.tape,h3.output,h3.size,fun b hb => h3.block b (by omega)⟩;have x1 := DA3.at (i := 1) rfl;have HHB := hid h2;have hrm : r ≤ m := by
  rcases Nat.eq_zero_or_pos r with q | q
  ·omega
  ·have := h2.ec.rl (r - 1) (by omega);simp at this;omega
 have HRM := hid hrm;obtain ⟨pss,hp,hz,hsm⟩ := h1.prr18 (by omega) hn;have hpl : pss.length = m := by rw [hz.1];simp
 have hsl : ∀ wx : World,(Instr.slice 45 (.slice lla m llc) none (some (.int .i64 (r : Int))) none).run Tryz.prog wx = .ok (.slice lla r llc) wx := fun wx => by
  have h1' := h1.1;rcases h1' with ⟨e,e'⟩ | ⟨h0,Lb,cap,rr,e,e',_⟩
  ·simp only [Value.slice.injEq] at e'
   obtain ⟨rfl,-,rfl⟩ := e';exact ziB (by omega) (.inl ⟨rfl,rfl⟩)
  ·simp only [Value.slice.injEq,true_and] at e
   obtain ⟨rfl,rfl⟩ := e;exact ziB (by omega) (.inr ⟨Lb,rfl,by omega⟩)
 have HMA : Hid (∀ w',Below w3.heap.size w3 w' → Calls Tryz.prog 16 #[.slice lla r llc,.int .i64 (n : Int)] w' (zfE w' r n (zG18 r n X) kw)) := fun w' hb => zNF ((hp.top18 (by omega)).now hb) ((hz.top18 hrm).now hb) (fun ps hps => hsm ps (List.mem_of_mem_take hps)) (by omega) hn
 have HSZ : Hid (w3.heap.size = w3.heap.size) := rfl;clear HFD h1 h2 h3 DA2 DR2 B2 DA3 SH2 hp hz hsm hpl;go_wp2_with fail;have KB : Hid (∀ w',Below w3.heap.size w3 w' → w'.cell? ⟨w.heap.size,1,none⟩ = some (.int .i64 (n : Int))) := fun w' h => cnow h x1
 refine zFA (fun w' => w'.cell? ⟨w.heap.size,1,none⟩ = some (.int .i64 (n : Int))) 6 (by kernel_rfl) ?_;obtain ⟨D1,hD⟩ : ∃ D1,w3.drew = D1 := ⟨_,rfl⟩
 have GB : Hid (Below w3.heap.size w3 D1) := by unfold Hid;rw [← hD];exact (Below.refl _ _).drew
 rw [hD];clear hD;refine zHA [(0,(.slice lla m llc)),(1,(.int .i64 (r : Int))),(2,(.slice lla r llc)),(3,(.pointer (some ⟨w.heap.size,1,none⟩))),(4,(.int .i64 (n : Int)))] 5 ?_ (KB.out _ GB.out) ?_
 ·simp only [zSA,gA9,g09,g19,Act.put,sI9,s09,s19]
  (repeat' (first | exact trivial | refine And.intro (Or.inl ⟨by rfl,?_⟩) ?_)) <;> (intro w hSw;(try dsimp only at hSw);go_simp)
 simp only [actV,gA9,g09,g19,Act.put,sI9,s09,s19];refine zAA (i := 5) (o := ⟨some 22,.call { callee := .value (.func 16),args := #[.tmp 19,.tmp 21],argTypes := #[45,3] },24, "hnf.go:40",#[⟨2,.data⟩,⟨4,.data⟩],none⟩) (by kernel_rfl) rfl (fun K hK => ?_);go_simp;go_at_call 16;refine (HMA.out _ GB.out).mono ?_;rintro e w2 ⟨v4,rfl,q3,b⟩;have lz2 := (show Below _ _ _ from b).size;replace GB := hid (below_step GB.out b);have q5 : Mc w2 v4 r n (zG18 r n X) kt := q3.fit18 (l := kt) (fun z hz => by
  have hz' := hz;unfold zG18 at hz';simp only [List.mem_map,List.mem_range] at hz';obtain ⟨t,ht,rfl⟩ := hz';have hn0 : 0 < n := Nat.pos_of_ne_zero fun e => by subst e;simp at ht
  have hrm' := HRM.out;have := HHB.out.size HTB.out (Nat.le_refl _) (t / n) (t % n) (by have := Nat.div_lt_of_lt_mul (show t < n * r by rw [Nat.mul_comm];exact ht);omega) (Nat.mod_lt _ hn0);have := HKT.out;omega)
 obtain ⟨a4,c4,rfl,-,-⟩ := q3.mx.form;obtain ⟨l4,hl4⟩ : ∃ l4,r * n = l4 := ⟨_,rfl⟩
 rw [hl4] at q5 ⊢;have Q5 := hid q5;have PR := hid (DR3.out.step GB.out);have B4 := hid (below_step B3.out GB.out);clear q3 q5 hl4;clear b;refine hK.out _ _ (fun _ => KB.out _ GB.out) ?_;clear hK;refine zAA (i := 6) (o := ⟨none,.store 24 (.tmp 2) (.tmp 22),0, "hnf.go:40",#[⟨5,.data⟩,⟨5,.chain⟩,⟨0,.phase⟩,⟨1,.phase⟩,⟨2,.phase⟩,⟨3,.phase⟩,⟨4,.phase⟩,⟨5,.phase⟩],none⟩) (by kernel_rfl) rfl (fun K hK => ?_);have r0 := PR.out.at (i := 0) rfl;have r1 := PR.out.at (i := 1) rfl;have r2 := PR.out.at (i := 2) rfl;have f0 := PR.out.fz 0;have f1 := PR.out.fz 1;have f2 := PR.out.fz 2;go_simp;clear r0 r1 r2 f0 f1 f2;obtain ⟨V3,hW⟩ : ∃ V3,(((w2.setCell ⟨w.heap.size + 1,0,none⟩ (.int .i64 (r : Int))).setCell ⟨w.heap.size + 1,1,none⟩ (.int .i64 (n : Int))).setCell ⟨w.heap.size + 1,2,none⟩ (.slice a4 l4 c4)) = V3 := ⟨_,rfl⟩
 have PF : Hid (Cel V3 (w.heap.size + 1) 24 [(.int .i64 (r : Int)),(.int .i64 (n : Int)),(.slice a4 l4 c4)]) := by unfold Hid;rw [← hW];exact PR.out.put3 _ _ _
 have FIN : Hid (zVH w m n (en18 n zs) kt (.returned (.tuple #[.agg #[(.int .i64 (r : Int)),(.int .i64 (n : Int)),(.slice a4 l4 c4)],.int .i64 0])) V3) := by
  unfold Hid;rw [← hW];exact ⟨_,r,γ,X,rfl,Q5.out.wk PR.out _ _ _,HHB.out,zTA B4.out (Nat.le_succ _) _ _ _⟩
 rw [hW];clear hW;refine hK.out _ _ (fun h => absurd h (by decide)) ?_;clear hK
 try simp only [Act.put]
 refine zAA (i := 7) (o := ⟨some 3,.assign (.const (.int .i64 0)),27, "hnf.go:40",#[⟨6,.chain⟩,⟨0,.phase⟩,⟨1,.phase⟩,⟨2,.phase⟩,⟨3,.phase⟩,⟨4,.phase⟩,⟨5,.phase⟩,⟨6,.phase⟩],none⟩) (by kernel_rfl) rfl (fun K hK => ?_);go_simp;refine hK.out _ _ (fun h => absurd h (by decide)) ?_;clear hK
 try simp only [Act.put]
 refine zDA (by kernel_rfl) ?_ _;clear KB GB PR B4 Q5 HMA B3 DR3 HHB;go_wp2;exact bodyPost_ret (zMF Tryz.results6 PF.out _ (by rfl) (by rfl)) rfl FIN.out



structure Rs where
 kind : Int
 i : Int
 j : Int
 z : Int
def Rs.fit (n : Nat) (s : Rs) : Prop := (s.kind = 1 ∧ (0 ≤ s.i ∧ s.i < n) ∧ (0 ≤ s.j ∧ s.j < n)) ∨ (s.kind = 2 ∧ (0 ≤ s.i ∧ s.i < n)) ∨ (s.kind = 3 ∧ (0 ≤ s.i ∧ s.i < n) ∧ (0 ≤ s.j ∧ s.j < n) ∧ s.i ≠ s.j)
instance (n : Nat) (s : Rs) : Decidable (s.fit n) := by unfold Rs.fit;infer_instance


open Go.ChangeShapes Go.WideShapes Go.ChangeAt Go.RowKit
instance rsInh : Inhabited Rs := ⟨⟨0,0,0,0⟩⟩
end Go.Proofs.YtmnecbniappnaaaGreat
namespace Go.Proofs.YtmnecbniappnaaaGreat
open Go.RowKit
open Go.ChangeShapes Go.WideShapes Go.ChangeAt Go.RowKit
theorem Mx.lt {w : World} {v : Value} {r c : Nat} {zs : List Int} {k : Nat} (h : Mx w v r c zs k) : ∀ z ∈ zs,(z.natAbs : Int) < pw k := by
 obtain ⟨a,ps,h1,h2,h3,h4⟩ := h;intro z hz;obtain ⟨j,hj,e⟩ := List.getElem_of_mem hz;exact (h3.2 j _ z (List.getElem?_eq_getElem (by rw [h3.1];exact hj)) (by rw [List.getElem?_eq_getElem hj,e])).lt
end Go.Proofs.YtmnecbniappnaaaGreat
namespace Go.Proofs.YtmnecbniappnaaaGreat
theorem Hb18.same {m n r r' : Nat} {γ γ' : Nat → Nat} {X X' A A' : Nat → Nat → Int} (h : Hb18 m n m r id γ X A) (h' : Hb18 m n m r' id γ' X' A') (e : ∀ v,Cm19 m n A v ↔ Cm19 m n A' v) : zG18 m n X = zG18 m n X' := by
 obtain ⟨rfl,hq⟩ := h.ec.one h'.ec h.rd h'.rd fun v => (h.lat v).trans ((e v).trans (h'.lat v).symm)
 refine zHE fun i j hi hj => ?_
 by_cases q : i < r
 ·exact (hq i q).2 j hj
 ·rw [h.ec.rest i hi (fun a ha => by simp;omega) j hj,h'.ec.rest i hi (fun a ha => by simp;omega) j hj]
theorem Hb18.on {m n r : Nat} {γ : Nat → Nat} {X A : Nat → Nat → Int} (h : Hb18 m n m r id γ X A) : Hb18 m n m r id γ (en18 n (zG18 m n X)) (en18 n (zG18 m n X)) := by
 have e : ∀ i j,i < m → j < n → en18 n (zG18 m n X) i j = X i j := fun i j hi hj => zuD hi hj
 have rl : ∀ a,a < r → a < m := fun a ha => by have := h.ec.rl a ha;simpa using this
 refine ⟨⟨h.ec.up,h.ec.cl,h.ec.rl,h.ec.inj,fun a j ha hj => ?_,fun a ha => ?_,fun t ht hn j hj => ?_⟩,fun a b h1 h2 h3 => ?_,fun v => Iff.rfl,fun t _ => rfl⟩
 ·rw [show id a = a from rfl,e a j (rl a ha) (by have := h.ec.cl a ha;omega)];exact h.ec.zero a j ha hj
 ·rw [show id a = a from rfl,e a _ (rl a ha) (h.ec.cl a ha)];exact h.ec.pos a ha
 ·rw [e t j ht hj];exact h.ec.rest t ht hn j hj
 ·rw [show id a = a from rfl,show id b = b from rfl,e a _ (rl a (by omega)) (h.ec.cl b h3),e b _ (rl b h3) (h.ec.cl b h3)];exact h.rd a b h1 h2 h3
theorem zED {T t : Nat} (h : ((T : Nat) : Int) < pw t) : ∀ e,((bd18 T e : Nat) : Int) < pw (e * (t + 1) + t)
 | 0 => by rw [zBE,Nat.zero_mul,Nat.zero_add];exact h
 | e + 1 => by
  have ih := zED h e;rw [zzB,show (e + 1) * (t + 1) + t = (t + 1) + (e * (t + 1) + t) by rw [Nat.succ_mul];omega,zLB];have h1 : ((2 * T : Nat) : Int) < pw (t + 1) := by
   have := zLB t 1;rw [this];have hp := zjA t;have h2 : pw t * 2 ≤ pw t * pw 1 := Int.mul_le_mul_of_nonneg_left (by decide) (by omega);omega
  have h3 : ((2 * T * bd18 T e : Nat) : Int) = ((2 * T : Nat) : Int) * ((bd18 T e : Nat) : Int) := by simp
  rw [h3];have q1 : ((2 * T : Nat) : Int) * ((bd18 T e : Nat) : Int) ≤ ((2 * T : Nat) : Int) * pw (e * (t + 1) + t) := Int.mul_le_mul_of_nonneg_left (by omega) (by omega);exact Int.lt_of_le_of_lt q1 (Int.mul_lt_mul_of_pos_right h1 (by have := zjA (e * (t + 1) + t);omega))
theorem tpw18 {Y k : Nat} (h : ((Y : Nat) : Int) < pw k) : ((64 * (64 * Y) ^ 64 : Nat) : Int) < pw (64 * k + 65) := by
 have h1 : ((64 * Y : Nat) : Int) < pw (k + 1) := by
  rw [zLB];have hp := zjA k;have h2 : pw k * 64 ≤ pw k * pw 1 := Int.mul_le_mul_of_nonneg_left (by decide) (by omega);omega
 have h2 : ∀ e,(((64 * Y) ^ e : Nat) : Int) ≤ pw ((k + 1) * e) := by
  intro e
  induction e with
  | zero => simp [pw]
  | succ e ih =>
   rw [Nat.pow_succ,Nat.mul_succ,zLB];have h3 : (((64 * Y) ^ e * (64 * Y) : Nat) : Int) = (((64 * Y) ^ e : Nat) : Int) * ((64 * Y : Nat) : Int) := by simp
   rw [h3];exact Int.mul_le_mul ih (by omega) (by omega) (by have := zjA ((k + 1) * e);omega)
 have h3 := h2 64;have e : 64 * k + 65 = (k + 1) * 64 + 1 := by omega
 rw [e,zLB];have h4 : ((64 * (64 * Y) ^ 64 : Nat) : Int) = 64 * (((64 * Y) ^ 64 : Nat) : Int) := by simp
 rw [h4];have hp := zjA ((k + 1) * 64);have h5 : pw ((k + 1) * 64) * 65 ≤ pw ((k + 1) * 64) * pw 1 := Int.mul_le_mul_of_nonneg_left (by decide) (by omega);omega
theorem zjF {m n k : Nat} {zs : List Int} (hn : n ≤ 64) (hz : zs.length = m * n) (hb : ∀ z ∈ zs,(z.natAbs : Int) < pw k) (hk : 1 ≤ k) : ∃ T,Tb18 m n (en18 n zs) T ∧ ((T : Nat) : Int) < pw (64 * k + 65) := by
 have hp1 : (1 : Int) < pw k := by
  obtain ⟨d,rfl⟩ : ∃ d,k = d + 1 := ⟨k - 1,by omega⟩
  rw [zLB];have hp := zjA d;have : 1 * pw 1 ≤ pw d * pw 1 := Int.mul_le_mul_of_nonneg_right (by omega) (by decide);have : (1 : Int) < pw 1 := by decide
  omega
 refine ⟨64 * (64 * (pw k - 1).toNat) ^ 64,tb18 hn (by omega) (fun t j ht hj => ?_),tpw18 (by omega)⟩;have hl := zgF ht hj;have e : en18 n zs t j = zs[t * n + j]'(by omega) := by unfold en18;simp [show t * n + j < zs.length by omega]
 have := hb _ (List.getElem_mem (l := zs) (n := t * n + j) (by omega));rw [e];omega
def zAB (r : Nat) (X : Nat → Nat → Int) (vs : List Int) : Nat → Nat → Int := fun i j => if i < r then X i j else vs.getD j 0
structure Bt18 (n K r : Nat) (γ : Nat → Nat) (X A : Nat → Nat → Int) : Prop where
 ec : Ec18 n r r id γ X
 rd : Rd18 0 r id γ X
 lat : ∀ v,Cm19 r n X v ↔ Cm19 K n A v
 le : r ≤ K
section
variable {n m K r r' T : Nat} {γ γ' : Nat → Nat} {X X' A : Nat → Nat → Int} {vs : List Int}
theorem Bt18.start (n : Nat) (γ : Nat → Nat) (X A : Nat → Nat → Int) : Bt18 n 0 0 γ X A :=
 ⟨⟨fun a b _ h => by omega,fun a h => by omega,fun a h => by omega,fun a b h => by omega,fun a j h => by omega,fun a h => by omega,fun t h => by omega⟩,fun a b _ _ h => by omega,fun v => Iff.rfl,Nat.le_refl 0⟩
theorem zHB {i : Nat} (h : i < r) : zAB r X vs i = X i := by funext j;exact if_pos h
theorem zDC : zAB r X vs r = fun j => vs.getD j 0 := by funext j;exact if_neg (by omega)
theorem Bt18.lat_next (h : Bt18 n K r γ X A) (hv : ∀ j,j < n → vs.getD j 0 = A K j) (v : Nat → Int) : Cm19 (r + 1) n (zAB r X vs) v ↔ Cm19 (K + 1) n A v := by
 constructor
 ·intro q
  refine q.trans fun i hi => ?_
  by_cases hir : i < r
  ·rw [zHB hir]
   exact ((h.lat _).1 (Cm19.row X hir)).more (K + 1) (by omega)
  ·obtain rfl : i = r := by omega
   rw [zDC];exact (Cm19.row A (show K < K + 1 by omega)).congr hv
 ·intro q
  refine q.trans fun i hi => ?_
  by_cases hik : i < K
  ·have h1 := (h.lat _).2 (Cm19.row A hik)
   have h2 : Cm19 r n (zAB r X vs) (A i) := h1.lines fun t j ht _ => by rw [zHB ht]
   exact h2.more (r + 1) (by omega)
  ·obtain rfl : i = K := by omega
   have h1 := Cm19.row (n := n) (zAB r X vs) (show r < r + 1 by omega);rw [zDC] at h1;exact h1.congr fun j hj => (hv j hj).symm
theorem Ec18.top18 {M : Nat} (h : Ec18 n M r id γ X) : Ec18 n r r id γ X := ⟨h.up,h.cl,fun a ha => ha,h.inj,h.zero,h.pos,fun t ht q => absurd rfl (q t ht)⟩
theorem Ec18.rows18 {M : Nat} (h : Ec18 n M r id γ X) : r ≤ M := by
 rcases Nat.eq_zero_or_pos r with q | q
 ·omega
 ·have := h.rl (r - 1) (by omega);simp at this;omega
theorem Ec18.lat_top18 {M : Nat} (h : Ec18 n M r id γ X) (v : Nat → Int) : Cm19 r n X v ↔ Cm19 M n X v := by
 constructor
 ·intro q;exact q.more M h.rows18
 ·intro q
  refine q.trans fun i hi => ?_
  by_cases hir : i < r
  ·exact Cm19.row X hir
  ·exact (Cm19.zero r n X).congr fun j hj => h.rest i hi (fun a ha e => by simp at e;omega) j hj
theorem Bt18.next (h : Bt18 n K r γ X A) (hv : ∀ j,j < n → vs.getD j 0 = A K j) (h' : Hb18 (r + 1) n (r + 1) r' id γ' X' (zAB r X vs)) : Bt18 n (K + 1) r' γ' X' A :=
 ⟨h'.ec.top18,h'.rd,fun v => (h'.ec.lat_top18 v).trans ((h'.lat v).trans (h.lat_next hv v)),by have := h'.ec.rows18;have := h.le;omega⟩
theorem Bt18.size (h : Bt18 n K r γ X A) (hT : Tb18 m n A T) (hK : K ≤ m) {t j : Nat} (ht : t < r) (hj : j < n) : (X t j).natAbs ≤ T := by
 have h1 := hT.all K r id γ (fun a b => if a < r then X a b else 0) hK ⟨h.ec.up,h.ec.cl,fun a ha => by have := h.le;simp;omega,h.ec.inj,fun a j ha hj => by simp [ha];exact h.ec.zero a j ha hj,fun a ha => by simp [ha];exact h.ec.pos a ha,fun t ht q j hj => by
   by_cases hr : t < r
   ·exact absurd rfl (q t hr)
   ·simp [hr]⟩ (fun a b h1 h2 h3 => by
   have h4 := h.rd a b h1 h2 h3;have h5 : a < r := by omega
   simp only [id,h3,h5,if_true] at h4 ⊢;exact h4) (fun v => ?_) t j (by have := h.le;omega) hj
 ·simpa [ht] using h1
 ·rw [← h.lat v]
  constructor
  ·intro q
   refine q.trans fun i hi => ?_
   by_cases hr : i < r
   ·simp only [hr,if_true];exact Cm19.row X hr
   ·simp only [hr,if_false];exact Cm19.zero r n X
  ·intro q
   have q2 : Cm19 r n (fun a b => if a < r then X a b else 0) v := q.lines fun a b ha _ => by simp [ha]
   exact q2.more K h.le
theorem Bt18.tb (h : Bt18 n K r γ X A) (hT : Tb18 m n A T) (hK : K < m) (hv : ∀ j,j < n → vs.getD j 0 = A K j) : Tb18 (r + 1) n (zAB r X vs) T := by
 have hx : ∀ t j,t < r → j < n → (X t j).natAbs ≤ T := fun t j ht hj => h.size hT (by omega) ht hj
 refine ⟨hT.one,fun t j ht hj => ?_,fun K' r1 ρ1 γ1 Z hK' hE hR e t j ht hj => ?_⟩
 ·by_cases hr : t < r
  ·rw [zHB hr];exact hx t j hr hj
  ·obtain rfl : t = r := by omega
   rw [zDC]
   show (vs.getD j 0).natAbs ≤ T
   rw [hv j hj];exact hT.own K j hK hj
 ·by_cases hk : K' ≤ r
  ·have tf := zFF h.ec h.rd hT.one hx
   exact tf.all K' r1 ρ1 γ1 Z hk hE hR (fun v => (e v).trans (Cm19.only (fun a b ha _ => by rw [zHB (by omega)]) v)) t j ht hj
  ·obtain rfl : K' = r + 1 := by omega
   have h1 := hT.all (K + 1) r1 ρ1 γ1 (fun a b => if a < r + 1 then Z a b else 0) (by omega) ⟨hE.up,hE.cl,fun a ha => by have := hE.rl a ha;have := h.le;omega,hE.inj,fun a j ha hj => by simp only [hE.rl a ha,if_true];exact hE.zero a j ha hj,fun a ha => by simp only [hE.rl a ha,if_true];exact hE.pos a ha,fun t ht q j hj => by
     by_cases hr : t < r + 1
     ·simp only [hr,if_true];exact hE.rest t hr q j hj
     ·simp [hr]⟩ (fun a b h1 h2 h3 => by
     have h4 := hR a b h1 h2 h3;simp only [hE.rl a (by omega),hE.rl b h3,if_true];exact h4) (fun v => ?_) t j (by have := h.le;omega) hj
   ·simpa [ht] using h1
   ·rw [← h.lat_next hv v,← e v]
    constructor
    ·intro q
     refine q.trans fun i hi => ?_
     by_cases hr : i < r + 1
     ·simp only [hr,if_true];exact Cm19.row Z hr
     ·simp only [hr,if_false];exact Cm19.zero (r + 1) n Z
    ·intro q
     have q2 : Cm19 (r + 1) n (fun a b => if a < r + 1 then Z a b else 0) v := q.lines fun a b ha _ => by simp only [ha,if_true]
     exact q2.more (K + 1) (by have := h.le;omega)
theorem Bt18.same (h : Bt18 n K r γ X A) (h' : Ec18 n r' r' id γ' X') (hd : Rd18 0 r' id γ' X') (e : ∀ v,Cm19 K n A v ↔ Cm19 r' n X' v) : r = r' ∧ zG18 r n X = zG18 r' n X' := by
 obtain ⟨rfl,hq⟩ := h.ec.one h' h.rd hd fun v => (h.lat v).trans (e v)
 exact ⟨rfl,zHE fun i j hi hj => (hq i hi).2 j hj⟩
def zUG (m : Nat) (A : Nat → Nat → Int) : Nat → Nat → Int := fun i j => A (m - 1 - i) j
theorem lat_rev18 (v : Nat → Int) : Cm19 m n (zUG m A) v ↔ Cm19 m n A v := by
 constructor
 ·intro q
  exact q.trans fun i hi => Cm19.row A (show m - 1 - i < m by omega)
 ·intro q
  refine q.trans fun i hi => ?_
  have h1 := Cm19.row (n := n) (zUG m A) (show m - 1 - i < m by omega);have e : zUG m A (m - 1 - i) = A i := by funext j;unfold zUG;rw [show m - 1 - (m - 1 - i) = i by omega]
  rwa [e] at h1
theorem Bt18.again (h : Bt18 n K r γ X A) (hv : Cm19 K n A fun j => vs.getD j 0) (h' : Hb18 (r + 1) n (r + 1) r' id γ' X' (zAB r X vs)) : r = r' ∧ zG18 r n X = zG18 r' n X' := by
 refine h.same h'.ec.top18 h'.rd fun v => ?_
 rw [← h.lat v,h'.ec.lat_top18 v,h'.lat v]
 constructor
 ·intro q
  have q2 : Cm19 r n (zAB r X vs) v := q.lines fun a b ha _ => by rw [zHB ha]
  exact q2.more (r + 1) (by omega)
 ·intro q
  refine q.trans fun i hi => ?_
  by_cases hr : i < r
  ·rw [zHB hr];exact Cm19.row X hr
  ·obtain rfl : i = r := by omega
   rw [zDC];exact (h.lat _).2 hv
theorem Bt18.lat_own (h : Bt18 n K r γ X A) (hv : Cm19 K n A fun j => vs.getD j 0) (v : Nat → Int) : Cm19 (r + 1) n (zAB r X vs) v ↔ Cm19 r n X v := by
 constructor
 ·intro q
  refine q.trans fun i hi => ?_
  by_cases hr : i < r
  ·rw [zHB hr];exact Cm19.row X hr
  ·obtain rfl : i = r := by omega
   rw [zDC];exact (h.lat _).2 hv
 ·intro q
  have q2 : Cm19 r n (zAB r X vs) v := q.lines fun a b ha _ => by rw [zHB ha]
  exact q2.more (r + 1) (by omega)
theorem Bt18.tb_own {T2 : Nat} (h : Bt18 n m r γ X A) (hT : Tb18 m n A T) (hv : Cm19 m n A fun j => vs.getD j 0) (hTT : T ≤ T2) (hV : ∀ j,j < n → (vs.getD j 0).natAbs ≤ T2) : Tb18 (r + 1) n (zAB r X vs) T2 := by
 have hx : ∀ t j,t < r → j < n → (X t j).natAbs ≤ T := fun t j ht hj => h.size hT (Nat.le_refl _) ht hj
 refine ⟨Nat.le_trans hT.one hTT,fun t j ht hj => ?_,fun K' r1 ρ1 γ1 Z hK' hE hR e t j ht hj => ?_⟩
 ·by_cases hr : t < r
  ·rw [zHB hr];exact Nat.le_trans (hx t j hr hj) hTT
  ·obtain rfl : t = r := by omega
   rw [zDC];exact hV j hj
 ·refine Nat.le_trans ?_ hTT
  by_cases hk : K' ≤ r
  ·have tf := zFF h.ec h.rd hT.one hx
   exact tf.all K' r1 ρ1 γ1 Z hk hE hR (fun v => (e v).trans (Cm19.only (fun a b ha _ => by rw [zHB (by omega)]) v)) t j ht hj
  ·obtain rfl : K' = r + 1 := by omega
   obtain ⟨e1,e2⟩ := hE.one h.ec hR h.rd fun v => (e v).trans (h.lat_own hv v)
   by_cases q : ∃ a,a < r1 ∧ ρ1 a = t
   ·obtain ⟨a,ha,rfl⟩ := q
    rw [(e2 a ha).2 j hj];exact hx _ _ (by simp;omega) hj
   ·rw [hE.rest t ht (fun a ha q' => q ⟨a,ha,q'⟩) j hj];simp
theorem Bt18.zG (h : Bt18 n K r γ X A) : Bt18 n K r γ (en18 n (zG18 r n X)) A := by
 have h0 : Hb18 r n r r id γ X X := ⟨h.ec,h.rd,fun v => Iff.rfl,fun t _ => rfl⟩
 exact ⟨h0.on.ec,h0.on.rd,fun v => (Cm19.only (fun i j hi hj => zuD hi hj) v).trans (h.lat v),h.le⟩
theorem Bt18.of_basis {r : Nat} {γ : Nat → Nat} {X A : Nat → Nat → Int} (h : Hb18 m n m r id γ X A) : Bt18 n m r γ (en18 n (zG18 r n X)) A :=
 Bt18.zG ⟨h.ec.top18,h.rd,fun v => (h.ec.lat_top18 v).trans (h.lat v),h.ec.rows18⟩
theorem Bt18.of_form {r : Nat} {γ : Nat → Nat} {X A : Nat → Nat → Int} (h : Hb18 m n m r id γ X A) : Bt18 n m r γ (en18 n (zG18 m n X)) A :=
 ⟨h.on.ec.top18,h.on.rd,fun v => (h.on.ec.lat_top18 v).trans ((Cm19.only (fun i j hi hj => zuD hi hj) v).trans (h.lat v)),h.ec.rows18⟩
theorem Bt18.one {K' : Nat} {A' : Nat → Nat → Int} (h : Bt18 n K r γ X A) (h' : Bt18 n K' r' γ' X' A') (e : ∀ v,Cm19 K n A v ↔ Cm19 K' n A' v) : r = r' ∧ zG18 r n X = zG18 r' n X' :=
 h.same h'.ec h'.rd fun v => (e v).trans (h'.lat v).symm
theorem Bt18.list {K' : Nat} {A' : Nat → Nat → Int} {hs hs' : List Int} (h : Bt18 n K r γ (en18 n hs) A) (h' : Bt18 n K' r' γ' (en18 n hs') A') (e : ∀ v,Cm19 K n A v ↔ Cm19 K' n A' v) (hl : hs.length = r * n) (hl' : hs'.length = r' * n) : r = r' ∧ hs = hs' := by
 obtain ⟨e1,e2⟩ := h.one h' e;rw [zhF hl,zhF hl'] at e2;exact ⟨e1,e2⟩
end
end Go.Proofs.YtmnecbniappnaaaGreat
