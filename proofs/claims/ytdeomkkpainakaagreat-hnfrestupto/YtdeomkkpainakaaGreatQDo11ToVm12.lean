/-
 QDo11ToVm12: Do11, Neg11, Add11, In11, Fit11, Ck11, OpenSt11, Rows11, Gr16, Hw18, Tn12, Vm12, joined.
-/
import Derived.Test.YtdeomkkpainakaaGreatQPure9ToLeastA9
import Derived.Test.YtdeomkkpainakaaGreatQFil9ToRowsOf9
import Derived.Test.YtdeomkkpainakaaGreatQLm6ToRf11
import Derived.Test.YtdeomkkpainakaaGreatQZOnesToZCmp
import Derived.Test.YtdeomkkpainakaaGreatQZAdd
import Derived.Test.YtdeomkkpainakaaGreatQR5AddToLx18
import Derived.Handy
import Derived.Test.YtdeomkkpainakaaGreatRows
import Derived.Test.YtdeomkkpainakaaGreatQAlikeToShift
import Derived.Test.YtdeomkkpainakaaGreatQWordsToCarry
import Derived.Lib.SmallJoins
import Derived.Test.YtdeomkkpainakaaGreatQCat9ToOpenM9
import Derived.Test.YtdeomkkpainakaaGreatQFo18
import Derived.Test.YtdeomkkpainakaaGreatQTailLToTo18

set_option maxRecDepth 100000
set_option maxHeartbeats 6400000
set_option linter.unusedVariables false
set_option linter.unusedSimpArgs false
namespace Go.Proofs.YtdeomkkpainakaaGreat
open Go.RowKit


structure Rs where
 kind : Int
 i : Int
 j : Int
 z : Int
def Rs.fit (n : Nat) (s : Rs) : Prop := (s.kind = 1 ∧ (0 ≤ s.i ∧ s.i < n) ∧ (0 ≤ s.j ∧ s.j < n)) ∨ (s.kind = 2 ∧ (0 ≤ s.i ∧ s.i < n)) ∨ (s.kind = 3 ∧ (0 ≤ s.i ∧ s.i < n) ∧ (0 ≤ s.j ∧ s.j < n) ∧ s.i ≠ s.j)
instance (n : Nat) (s : Rs) : Decidable (s.fit n) := by unfold Rs.fit;infer_instance


open Go.ChangeShapes Go.WideShapes Go.ChangeAt Go.RowKit
instance rsInh : Inhabited Rs := ⟨⟨0,0,0,0⟩⟩
end Go.Proofs.YtdeomkkpainakaaGreat
namespace Go.Proofs.YtdeomkkpainakaaGreat
open Go.RowKit
open Go.ChangeShapes Go.WideShapes Go.ChangeAt Go.RowKit
theorem Mx.lt {w : World} {v : Value} {r c : Nat} {zs : List Int} {k : Nat} (h : Mx w v r c zs k) : ∀ z ∈ zs,(z.natAbs : Int) < pw k := by
 obtain ⟨a,ps,h1,h2,h3,h4⟩ := h;intro z hz;obtain ⟨j,hj,e⟩ := List.getElem_of_mem hz;exact (h3.2 j _ z (List.getElem?_eq_getElem (by rw [h3.1];exact hj)) (by rw [List.getElem?_eq_getElem hj,e])).lt
end Go.Proofs.YtdeomkkpainakaaGreat
namespace Go.Proofs.YtdeomkkpainakaaGreat
theorem Hb18.same {m n r r' : Nat} {γ γ' : Nat → Nat} {X X' A A' : Nat → Nat → Int} (h : Hb18 m n m r id γ X A) (h' : Hb18 m n m r' id γ' X' A') (e : ∀ v,Cm19 m n A v ↔ Cm19 m n A' v) : zG18 m n X = zG18 m n X' := by
 obtain ⟨rfl,hq⟩ := h.ec.one h'.ec h.rd h'.rd fun v => (h.lat v).trans ((e v).trans (h'.lat v).symm)
 refine zG18_congr fun i j hi hj => ?_
 by_cases q : i < r
 ·exact (hq i q).2 j hj
 ·rw [h.ec.rest i hi (fun a ha => by simp;omega) j hj,h'.ec.rest i hi (fun a ha => by simp;omega) j hj]
theorem Hb18.on {m n r : Nat} {γ : Nat → Nat} {X A : Nat → Nat → Int} (h : Hb18 m n m r id γ X A) : Hb18 m n m r id γ (en18 n (zG18 m n X)) (en18 n (zG18 m n X)) := by
 have e : ∀ i j,i < m → j < n → en18 n (zG18 m n X) i j = X i j := fun i j hi hj => zCH hi hj
 have rl : ∀ a,a < r → a < m := fun a ha => by have := h.ec.rl a ha;simpa using this
 refine ⟨⟨h.ec.up,h.ec.cl,h.ec.rl,h.ec.inj,fun a j ha hj => ?_,fun a ha => ?_,fun t ht hn j hj => ?_⟩,fun a b h1 h2 h3 => ?_,fun v => Iff.rfl,fun t _ => rfl⟩
 ·rw [show id a = a from rfl,e a j (rl a ha) (by have := h.ec.cl a ha;omega)];exact h.ec.zero a j ha hj
 ·rw [show id a = a from rfl,e a _ (rl a ha) (h.ec.cl a ha)];exact h.ec.pos a ha
 ·rw [e t j ht hj];exact h.ec.rest t ht hn j hj
 ·rw [show id a = a from rfl,show id b = b from rfl,e a _ (rl a (by omega)) (h.ec.cl b h3),e b _ (rl b h3) (h.ec.cl b h3)];exact h.rd a b h1 h2 h3
theorem zuF {T t : Nat} (h : ((T : Nat) : Int) < pw t) : ∀ e,((bd18 T e : Nat) : Int) < pw (e * (t + 1) + t)
 | 0 => by rw [zHE,Nat.zero_mul,Nat.zero_add];exact h
 | e + 1 => by
  have ih := zuF h e;rw [zCC,show (e + 1) * (t + 1) + t = (t + 1) + (e * (t + 1) + t) by rw [Nat.succ_mul];omega,zzA];have h1 : ((2 * T : Nat) : Int) < pw (t + 1) := by
   have := zzA t 1;rw [this];have hp := zfA t;have h2 : pw t * 2 ≤ pw t * pw 1 := Int.mul_le_mul_of_nonneg_left (by decide) (by omega);omega
  have h3 : ((2 * T * bd18 T e : Nat) : Int) = ((2 * T : Nat) : Int) * ((bd18 T e : Nat) : Int) := by simp
  rw [h3];have q1 : ((2 * T : Nat) : Int) * ((bd18 T e : Nat) : Int) ≤ ((2 * T : Nat) : Int) * pw (e * (t + 1) + t) := Int.mul_le_mul_of_nonneg_left (by omega) (by omega);exact Int.lt_of_le_of_lt q1 (Int.mul_lt_mul_of_pos_right h1 (by have := zfA (e * (t + 1) + t);omega))
theorem tpw18 {Y k : Nat} (h : ((Y : Nat) : Int) < pw k) : ((64 * (64 * Y) ^ 64 : Nat) : Int) < pw (64 * k + 65) := by
 have h1 : ((64 * Y : Nat) : Int) < pw (k + 1) := by
  rw [zzA];have hp := zfA k;have h2 : pw k * 64 ≤ pw k * pw 1 := Int.mul_le_mul_of_nonneg_left (by decide) (by omega);omega
 have h2 : ∀ e,(((64 * Y) ^ e : Nat) : Int) ≤ pw ((k + 1) * e) := by
  intro e
  induction e with
  | zero => simp [pw]
  | succ e ih =>
   rw [Nat.pow_succ,Nat.mul_succ,zzA];have h3 : (((64 * Y) ^ e * (64 * Y) : Nat) : Int) = (((64 * Y) ^ e : Nat) : Int) * ((64 * Y : Nat) : Int) := by simp
   rw [h3];exact Int.mul_le_mul ih (by omega) (by omega) (by have := zfA ((k + 1) * e);omega)
 have h3 := h2 64;have e : 64 * k + 65 = (k + 1) * 64 + 1 := by omega
 rw [e,zzA];have h4 : ((64 * (64 * Y) ^ 64 : Nat) : Int) = 64 * (((64 * Y) ^ 64 : Nat) : Int) := by simp
 rw [h4];have hp := zfA ((k + 1) * 64);have h5 : pw ((k + 1) * 64) * 65 ≤ pw ((k + 1) * 64) * pw 1 := Int.mul_le_mul_of_nonneg_left (by decide) (by omega);omega
theorem zgG {m n k : Nat} {zs : List Int} (hn : n ≤ 64) (hz : zs.length = m * n) (hb : ∀ z ∈ zs,(z.natAbs : Int) < pw k) (hk : 1 ≤ k) : ∃ T,Tb18 m n (en18 n zs) T ∧ ((T : Nat) : Int) < pw (64 * k + 65) := by
 have hp1 : (1 : Int) < pw k := by
  obtain ⟨d,rfl⟩ : ∃ d,k = d + 1 := ⟨k - 1,by omega⟩
  rw [zzA];have hp := zfA d;have : 1 * pw 1 ≤ pw d * pw 1 := Int.mul_le_mul_of_nonneg_right (by omega) (by decide);have : (1 : Int) < pw 1 := by decide
  omega
 refine ⟨64 * (64 * (pw k - 1).toNat) ^ 64,tb18 hn (by omega) (fun t j ht hj => ?_),tpw18 (by omega)⟩;have hl := zhF ht hj;have e : en18 n zs t j = zs[t * n + j]'(by omega) := by unfold en18;simp [show t * n + j < zs.length by omega]
 have := hb _ (List.getElem_mem (l := zs) (n := t * n + j) (by omega));rw [e];omega
open Go.RowKit
def ArZ (wx : World) (g : Nat) (zs : List Int) (k : Nat) : Prop := ∃ ps,Arr wx g ps ∧ Zms wx ps zs k
theorem zEF (w : World) (k : Nat) : Zm 0 w (.agg #[.bool false,.slice none 0 0]) 0 k := ⟨false,[],none,0,rfl,Mine.nil _ _,⟨WF.nil,rfl⟩,fun _ => rfl,by simp [iv,val],Nat.zero_le _⟩
theorem ArZ.start {w : World} {g n : Nat} (h : Arr w g (List.replicate n zhE)) (k : Nat) : ArZ w g (List.replicate n 0) k := by
 refine ⟨_,h,by simp,fun j p z hp hz => ?_⟩;rw [List.eq_of_mem_replicate (List.mem_of_getElem? hp),List.eq_of_mem_replicate (List.mem_of_getElem? hz)];exact zEF w k
theorem ArZ.step {w w' : World} {g : Nat} {zs : List Int} {k : Nat} (h : ArZ w g zs k) (hb : Below w.heap.size w w') : ArZ w' g zs k := by
 obtain ⟨ps,h1,h2⟩ := h;exact ⟨ps,h1.step hb,h2.now hb⟩
theorem ArZ.ty12 {w : World} {g t : Nat} {zs : List Int} {k : Nat} (h : ArZ w g zs k) (x y : Value) : Ty 40 w ((w.setCell ⟨g,t * 2,none⟩ x).setCell ⟨g,t * 2 + 1,none⟩ y) := by
 obtain ⟨ps,h1,h2⟩ := h;exact h1.ty12 x y
theorem ArZ.put {w : World} {g t : Nat} {zs : List Int} {k : Nat} {x y : Value} {z : Int} (h : ArZ w g zs k) (ht : t < zs.length) (hz : Zm 0 w (.agg #[x,y]) z k) : ArZ ((w.setCell ⟨g,t * 2,none⟩ x).setCell ⟨g,t * 2 + 1,none⟩ y) g (zs.set t z) k := by
 have hty := h.ty12 (t := t) x y;obtain ⟨ps,h1,h2⟩ := h;refine ⟨ps.set t (x,y),h1.put (by rw [h2.1];exact ht) hz.zi.isI,by simp [h2.1],fun j p q hp hq => ?_⟩
 by_cases e : j = t
 ·subst e
  rw [List.getElem?_set_self (by rw [h2.1];exact ht),Option.some.injEq] at hp;rw [List.getElem?_set_self ht,Option.some.injEq] at hq;subst hp;subst hq;exact hz.ty hty (by decide)
 ·rw [List.getElem?_set_ne (by omega)] at hp hq
  exact (h2.2 j p q hp hq).ty hty (by decide)
theorem ArZ.cells {w : World} {g j : Nat} {zs : List Int} {k : Nat} (h : ArZ w g zs k) (hj : j < zs.length) : ∃ m a l c,w.cell? ⟨g,j * 2,none⟩ = some (.bool m) ∧ w.cell? ⟨g,j * 2 + 1,none⟩ = some (.slice a l c) ∧ w.frozen? ⟨g,j * 2,none⟩ = false ∧ w.frozen? ⟨g,j * 2 + 1,none⟩ = false ∧ Zm 0 w (.agg #[.bool m,.slice a l c]) (zs.getD j 0) k := by
 obtain ⟨ps,h1,h2⟩ := h;have hl := h2.1;have hp : ps[j]? = some (ps[j]'(by omega)) := List.getElem?_eq_getElem (by omega);have hq : zs[j]? = some (zs[j]) := List.getElem?_eq_getElem hj;obtain ⟨m,a,l,c,e⟩ := h1.2 _ (List.getElem_mem (l := ps) (n := j) (by omega));have q := h1.at hp;have z := h2.2 j _ _ hp hq;rw [e] at q z;have : zs.getD j 0 = zs[j] := by simp [hj]
 rw [this];exact ⟨m,a,l,c,q.1,q.2,h1.1.fz _,h1.1.fz _,z⟩
theorem ArZ.done {w : World} {g : Nat} {zs : List Int} {k : Nat} (h : ArZ w g zs k) (hn : zs.length ≤ 1048576) : ∃ ps,PrsT w (.slice (some ⟨g,0,none⟩) zs.length zs.length) ps ∧ Zms w ps zs k := by
 obtain ⟨ps,h1,h2⟩ := h;refine ⟨ps,?_,h2⟩;rw [← h2.1];exact h1.prsT (by rw [h2.1];exact hn)
def MB1 (w wx : World) (bm : Nat) (A0 M0 : List Value) : Prop := Cel wx w.heap.size 24 A0 ∧ Cel wx (w.heap.size + 1) 24 [.int .i64 0,.int .i64 0,.slice none 0 0] ∧ Cel wx bm 24 M0 ∧ Below w.heap.size w wx
def vmF (c : Nat) (xs ys : List Int) (j k : Nat) : Int := su k fun t => xs.getD t 0 * ys.getD (t * c + j) 0
def vmS (r c : Nat) (xs ys : List Int) (j t : Nat) : List Int := (List.range c).map fun s => if s < j then vmF c xs ys s r else if s = j then vmF c xs ys j t else 0
def vecZ (r c : Nat) (xs ys : List Int) : List Int := (List.range c).map fun j => vmF c xs ys j r
theorem ziF (r c : Nat) (xs ys : List Int) (j t : Nat) : (vmS r c xs ys j t).length = c := by simp [vmS]
theorem vmS_zero (r c : Nat) (xs ys : List Int) : vmS r c xs ys 0 0 = List.replicate c 0 := by
 apply List.ext_getElem (by simp [vmS])
 intro i h1 h2;simp [vmS,vmF,su]
theorem vmS_next (r c : Nat) (xs ys : List Int) (j : Nat) : vmS r c xs ys j r = vmS r c xs ys (j + 1) 0 := by
 unfold vmS
 apply List.map_congr_left
 intro s _
 by_cases h1 : s < j
 ·rw [if_pos h1,if_pos (by omega)]
 ·by_cases h2 : s = j
  ·subst h2;rw [if_neg h1,if_pos rfl,if_pos (by omega)]
  ·rw [if_neg h1,if_neg h2,if_neg (by omega)]
   by_cases h3 : s = j + 1
   ·rw [if_pos h3];rfl
   ·rw [if_neg h3]
theorem vmS_put {r c : Nat} {xs ys : List Int} {j t : Nat} (hj : j < c) : (vmS r c xs ys j t).set j (vmF c xs ys j (t + 1)) = vmS r c xs ys j (t + 1) := by
 apply List.ext_getElem (by simp [vmS])
 intro s h1 h2;rw [List.getElem_set];simp only [vmS,List.getElem_map,List.getElem_range]
 by_cases h : j = s
 ·subst h;simp
 ·rw [if_neg h]
  by_cases h3 : s < j
  ·rw [if_pos h3,if_pos h3]
  ·rw [if_neg h3,if_neg h3,if_neg (fun e => h e.symm),if_neg (fun e => h e.symm)]
theorem vmS_done (r c : Nat) (xs ys : List Int) : vmS r c xs ys c 0 = vecZ r c xs ys := by
 unfold vmS vecZ
 apply List.map_congr_left
 intro s hs;rw [if_pos (List.mem_range.1 hs)]
theorem ArZ.put_at {w : World} {g t : Nat} {zs : List Int} {k : Nat} {x y : Value} {z : Int} (h : ArZ w g zs k) (ht : t < zs.length) (hz : Zm 0 w (.agg #[x,y]) z k) :
  ((w.setCell ⟨g,t * 2,none⟩ x).setCell ⟨g,t * 2 + 1,none⟩ y).cell? ⟨g,t * 2,none⟩ = some x ∧ ((w.setCell ⟨g,t * 2,none⟩ x).setCell ⟨g,t * 2 + 1,none⟩ y).cell? ⟨g,t * 2 + 1,none⟩ = some y := by
 obtain ⟨ps,h1,h2⟩ := h;have h3 := h1.put (i := t) (by rw [h2.1];exact ht) (x := x) (y := y) hz.zi.isI;exact h3.at (i := t) (p := (x,y)) (by simp [show t < ps.length by rw [h2.1];exact ht])
theorem Zm.nought12 {B k : Nat} {w : World} {v : Value} (h : Zm B w v 0 k) (l : Nat) : Zm B w v 0 l := by
 obtain ⟨n,zs,a,c,rfl,h1,hc,hn,hv,-⟩ := h;have h0 : val zs = 0 := by
  cases n
  ·simpa [iv] using hv
  ·simp only [iv,if_true] at hv;omega
 have e := zCB hc h0;subst e;exact ⟨n,[],a,c,rfl,h1,hc,hn,hv,Nat.zero_le _⟩
def MBV (w wx : World) (A0 : List Value) : Prop := Cel wx w.heap.size 24 A0 ∧ Below w.heap.size w wx
theorem MBV.step {w x y : World} {A0 : List Value} (h : MBV w x A0) (hb : Below x.heap.size x y) : MBV w y A0 := ⟨h.1.step hb,below_step h.2 hb⟩
theorem MBV.ty {w x y : World} {A0 : List Value} (h : MBV w x A0) (ht : Ty 40 x y) (hb : Below w.heap.size w y) : MBV w y A0 := ⟨h.1.ty12 ht (by decide),hb⟩
def VmJ (w : World) (g r c : Nat) (xs ys : List Int) (kk : Nat) (A0 : List Value) (gk : Nat) (s : Value) (wx : World) : Prop :=
 ∃ j : Nat,s = .int .i64 (j : Int) ∧ j ≤ c ∧ gk = c - j ∧ ArZ wx g (vmS r c xs ys j 0) kk ∧ MBV w wx A0
def VmT (w : World) (g r c j : Nat) (xs ys : List Int) (kk k0 : Nat) (A0 : List Value) (gk : Nat) (s : Value) (wx : World) : Prop :=
 ∃ t : Nat,s = .int .i64 (t : Int) ∧ t ≤ r ∧ gk = r - t ∧ ArZ wx g (vmS r c xs ys j t) kk ∧ MBV w wx A0 ∧ ∃ n a l q,wx.cell? ⟨g,j * 2,none⟩ = some (.bool n) ∧ wx.cell? ⟨g,j * 2 + 1,none⟩ = some (.slice a l q) ∧ Zm 0 wx (.agg #[.bool n,.slice a l q]) (vmF c xs ys j t) (k0 + t)
def zyF (w : World) (r c : Nat) (xs ys : List Int) (k : Nat) (e : Ending) (w' : World) : Prop := ∃ g,e = .returned (.tuple #[.slice (some ⟨g,0,none⟩) c c,.int .i64 0]) ∧ w.heap.size ≤ g ∧ ArZ w' g (vecZ r c xs ys) k ∧ Below w.heap.size w w'
def GivesVO (w : World) (zs : List Int) (k : Nat) (e : Ending) (w' : World) : Prop := ∃ u ps,e = .returned (.tuple #[u,.int .i64 0]) ∧ PrsT w' u ps ∧ Zms w' ps zs k ∧ Below w.heap.size w w'
theorem zoG {w : World} {v va : Value} {pv : List (Value × Value)} {r c : Nat} {xs ys : List Int} {ka kb : Nat} (hv : Prs 0 w v pv) (hvz : Zis w pv xs ka) (hvl : xs.length = r) (ha : Mx w va r c ys kb) (hk : ka + kb + 64 ≤ 1099511627776) :
  Calls Tryz.prog 11 #[v,va] w (zyF w r c xs ys (ka + kb + 64)) := by
 have HCK := hid (rcheckM ha);obtain ⟨ata,pa,rfl,pa1,pa2,pa3,hr,hc⟩ := ha;have HVV : Hid (∀ wx,Below w.heap.size w wx → ∀ t,t < r → ∃ b off cap n a l c,v = .slice (some ⟨b,off,none⟩) r cap ∧ wx.cell? ⟨b,off + t * 2,none⟩ = some (.bool n) ∧ wx.cell? ⟨b,off + t * 2 + 1,none⟩ = some (.slice a l c) ∧ Zi wx (.agg #[.bool n,.slice a l c]) (xs.getD t 0) ka) := fun wx h t ht => by
  have := (hv.now h).isI12 (hvz.now h) (t := t) (by rw [hvl];exact ht);rw [hvl] at this;exact this
 have HAA : Hid (∀ wx,Below w.heap.size w wx → ∀ t,t < r * c → ∃ b off cap n a l c',ata = .slice (some ⟨b,off,none⟩) (r * c) cap ∧ wx.cell? ⟨b,off + t * 2,none⟩ = some (.bool n) ∧ wx.cell? ⟨b,off + t * 2 + 1,none⟩ = some (.slice a l c') ∧ Zi wx (.agg #[.bool n,.slice a l c']) (ys.getD t 0) kb) := fun wx h t ht => by
  have := (pa1.now h).isI12 (pa2.now h) (t := t) (by rw [pa3];exact ht);rw [pa3] at this;exact this
 have hrc : r * c ≤ 64 * 64 := Nat.mul_le_mul hr hc;obtain ⟨N,hN⟩ : ∃ N,r * c = N := ⟨_,rfl⟩
 have HNN := hid hN;obtain ⟨aa,ca,rfl,-,-,-,-⟩ := pa1.form;have hpl : pa.length = N := by rw [pa2.1,pa3,hN]
 rw [hN] at HAA hrc;rw [hpl] at HAA HCK ⊢;obtain ⟨av,cv,rfl,-,-,-,-⟩ := hv.form;have hvp : pv.length = r := by rw [hvz.1,hvl]
 rw [hvp] at HVV ⊢;obtain ⟨W0,hW⟩ : ∃ W0,w.alloc (matO r c (.slice aa N ca)) = W0 := ⟨_,rfl⟩
 obtain ⟨b0,sz0⟩ := alo1 w (matO r c (.slice aa N ca));rw [hW] at b0 sz0;have PA : Hid (Cel W0 w.heap.size 24 (matc r c (.slice aa N ca))) := by unfold Hid;rw [← hW];exact Cel.new w _ _
 have x0 := PA.out.at (i := 0) rfl;have x1 := PA.out.at (i := 1) rfl;have x2 := PA.out.at (i := 2) rfl;rw [← hW] at x0 x1 x2;have G0 := hid b0;have SZ := hid sz0;have HK := hid hk;have EW := hid hW;clear pa1 pa2 pa3 hv hvz hvl hvp hpl b0 sz0 hW hk hN;go_enter Tryz.func11,Tryz.ntmps11;go_wp2_with fail;rw [EW.out];refine (HCK.out _ G0.out).mono ?_;rintro e w1 ⟨rfl,b1⟩;have PA1 := hid (PA.out.step b1);have G1 := hid (below_step G0.out b1);have sz1 := b1.size;clear x0 x1 x2 EW PA G0 HCK;have x0 := PA1.out.at (i := 0) rfl;have x1 := PA1.out.at (i := 1) rfl;have q0 : ((r : Int) != (r : Int)) = false := by simp
 go_wp2_with (at_make;refine zdA _ rfl _ _ rfl _ _ c c rfl rfl rfl rfl (Nat.le_refl _) (by omega) ?_)
 intro w2 hrow hb2 hsz2;obtain ⟨g,hg⟩ : ∃ g,w1.heap.size = g := ⟨_,rfl⟩
 have HGW : Hid (w.heap.size < g) := by unfold Hid;have h1 := SZ.out;omega
 rw [hg] at hrow;have H0 : Hid (VmJ w g r c xs ys (ka + kb + 64) (matc r c (.slice aa N ca)) c (.int .i64 0) w2) :=
  ⟨0,rfl,Nat.zero_le _,by omega,by rw [vmS_zero];exact ArZ.start hrow _,PA1.out.step hb2,below_step G1.out hb2⟩
 clear x0 x1 q0 PA1 G1 hrow hb2 hsz2 SZ sz1 b1;go_wp2_with fail;rw [hg];clear hg
 go_loopg [8] c (fun gk s8 wx => VmJ w g r c xs ys (ka + kb + 64) (matc r c (.slice aa N ca)) gk s8 wx)
 case atStart => exact H0.out
 case round =>
  clear H0;obtain ⟨j,rfl,hjn,hg,hfil,hmb⟩ := hrel;have FI := hid hfil;have MBx := hid hmb;have HG := hid hg;clear hfil hmb hg;have x1 := MBx.out.1.at (i := 1) rfl
  by_cases hlt : j < c
  ·have hlt' : (j : Int) < (c : Int) := by omega
   have hw := zVA (i := j) (by omega);have HMM : Hid (c - (j + 1) < gk) := by unfold Hid;rw [HG.out];omega
   have H1 : Hid (VmT w g r c j xs ys (ka + kb + 64) (ka + kb) (matc r c (.slice aa N ca)) r (.int .i64 0) wr) := by
    obtain ⟨m0,am,lm,cm,e0,e1,-,-,e4⟩ := FI.out.cells (j := j) (by rw [ziF];exact hlt);refine ⟨0,rfl,Nat.zero_le _,by omega,FI.out,MBx.out,m0,am,lm,cm,e0,e1,?_⟩;have e5 : (vmS r c xs ys j 0).getD j 0 = 0 := by simp [vmS,hlt,vmF,su]
    rw [e5] at e4;have e6 : vmF c xs ys j 0 = 0 := rfl;rw [e6];exact e4.nought12 _
   clear HG FI MBx;go_wp2_with fail
   go_loopg [9] r (fun gk2 s9 wx => VmT w g r c j xs ys (ka + kb + 64) (ka + kb) (matc r c (.slice aa N ca)) gk2 s9 wx)
   case atStart => exact H1.out
   case round =>
    clear H1 x1;obtain ⟨t,rfl,htn,hg,hfil,hmb,ns,as_,ls,cs,s0,s1,hzm⟩ := hrel;have FI := hid hfil;have MBx := hid hmb;have HG := hid hg;have ZX := hid hzm;clear hfil hmb hg hzm;have x0 := MBx.out.1.at (i := 0) rfl
    by_cases hlt2 : t < r
    ·have hlt2' : (t : Int) < (r : Int) := by omega
     have hw2 := zVA (i := t) (by omega);have HMM2 : Hid (r - (t + 1) < gk) := by unfold Hid;rw [HG.out];omega
     have hp1 : t * c + j < N := by rw [← HNN.out];exact zyC hlt2 hlt
     obtain ⟨b1,o1,c1,n1,a1,l1,d1,e1,u0,u1,z1⟩ := HVV.out wr MBx.out.2 t hlt2;simp only [Value.slice.injEq] at e1;obtain ⟨rfl,-,rfl⟩ := e1;obtain ⟨b2,o2,c2,n2,a2,l2,d2,e2,v0,v1,z2⟩ := HAA.out wr MBx.out.2 (t * c + j) hp1;simp only [Value.slice.injEq] at e2;obtain ⟨rfl,-,rfl⟩ := e2;have k2 := zbC (i := t) (c := c) (by omega) hc;have k4 : IntKind.i64.wrap (((t * c : Nat) : Int) + (j : Int)) = ((t * c + j : Nat) : Int) := by rw [zYA] <;> omega
     have HS : Hid (∀ w',Below wr.heap.size wr w' → Calls Tryz.prog 27 #[.agg #[.bool n1,.slice a1 l1 d1],.agg #[.bool n2,.slice a2 l2 d2],.agg #[.bool ns,.slice as_ ls cs]] w' (zhA w' (vmF c xs ys j (t + 1)) (ka + kb + (t + 1)))) := fun w' h => by
      have q := rmulAdd_z (z1.now h) (z2.now h) (ZX.out.zi.now h) (by have := HK.out;omega) (by have := HK.out;omega);refine q.mono ?_;rintro e w'' ⟨rr,q1,q2,q3⟩;refine ⟨rr,q1,?_,q3⟩;have e1 : xs.getD t 0 * ys.getD (t * c + j) 0 + vmF c xs ys j t = vmF c xs ys j (t + 1) := by
       show _ = vmF c xs ys j t + xs.getD t 0 * ys.getD (t * c + j) 0
       exact Int.add_comm _ _
      rw [e1] at q2;exact q2.more (by omega)
     obtain ⟨q2,hq2⟩ : ∃ q2,t * c = q2 := ⟨_,rfl⟩
     rw [hq2] at hp1 k2 k4 v0 v1;obtain ⟨t2,ht2⟩ : ∃ t2,q2 + j = t2 := ⟨_,rfl⟩
     rw [ht2] at hp1 k4 v0 v1;have hp2' : (t2 : Int) < (N : Int) := by omega
     have k2' := k2;have k4' := k4;rw [IntKind.wrap_i64] at k2' k4';have x1 := MBx.out.1.at (i := 1) rfl;have x2 := MBx.out.1.at (i := 2) rfl;clear z1 z2 hq2 ht2 HG ZX;go_wp2_with fail;have KB : Hid (∀ w',Below wr.heap.size wr w' → w'.cell? ⟨w.heap.size,1,none⟩ = some (.int .i64 (c : Int)) ∧ w'.cell? ⟨w.heap.size,2,none⟩ = some (.slice (some ⟨b2,o2,none⟩) N ca) ∧ w'.cell? ⟨b1,o1 + t * 2,none⟩ = some (.bool n1) ∧ w'.cell? ⟨b1,o1 + t * 2 + 1,none⟩ = some (.slice a1 l1 d1) ∧ w'.cell? ⟨b2,o2 + t2 * 2,none⟩ = some (.bool n2) ∧ w'.cell? ⟨b2,o2 + t2 * 2 + 1,none⟩ = some (.slice a2 l2 d2) ∧ w'.cell? ⟨g,j * 2,none⟩ = some (.bool ns) ∧ w'.cell? ⟨g,j * 2 + 1,none⟩ = some (.slice as_ ls cs)) := fun w' h => ⟨cnow h x1,cnow h x2,cnow h u0,cnow h u1,cnow h v0,cnow h v1,cnow h s0,cnow h s1⟩
     refine zEA (fun w' => w'.cell? ⟨w.heap.size,1,none⟩ = some (.int .i64 (c : Int)) ∧ w'.cell? ⟨w.heap.size,2,none⟩ = some (.slice (some ⟨b2,o2,none⟩) N ca) ∧ w'.cell? ⟨b1,o1 + t * 2,none⟩ = some (.bool n1) ∧ w'.cell? ⟨b1,o1 + t * 2 + 1,none⟩ = some (.slice a1 l1 d1) ∧ w'.cell? ⟨b2,o2 + t2 * 2,none⟩ = some (.bool n2) ∧ w'.cell? ⟨b2,o2 + t2 * 2 + 1,none⟩ = some (.slice a2 l2 d2) ∧ w'.cell? ⟨g,j * 2,none⟩ = some (.bool ns) ∧ w'.cell? ⟨g,j * 2 + 1,none⟩ = some (.slice as_ ls cs)) 22 (by kernel_rfl) ?_;obtain ⟨D1,hD⟩ : ∃ D1,wr.drew = D1 := ⟨_,rfl⟩
     have GB : Hid (Below wr.heap.size wr D1) := by unfold Hid;rw [← hD];exact (Below.refl _ _).drew
     rw [hD];clear hD;have GBs := GB;refine zGA [(0,(.slice (some ⟨g,0,none⟩) c c)),(1,(.int .i64 (j : Int))),(2,(.slice (some ⟨b1,o1,none⟩) r cv)),(3,(.int .i64 (t : Int))),(4,(.pointer (some ⟨b1,o1 + t * 2,none⟩))),(5,(.agg #[.bool n1,.slice a1 l1 d1])),(6,(.pointer (some ⟨w.heap.size,2,none⟩))),(7,(.slice (some ⟨b2,o2,none⟩) N ca)),(8,(.int .i64 (t : Int))),(9,(.pointer (some ⟨w.heap.size,1,none⟩))),(10,(.int .i64 (c : Int))),(11,(.int .i64 (q2 : Int))),(12,(.int .i64 (j : Int))),(13,(.int .i64 (t2 : Int))),(14,(.pointer (some ⟨b2,o2 + t2 * 2,none⟩))),(15,(.agg #[.bool n2,.slice a2 l2 d2])),(16,(.slice (some ⟨g,0,none⟩) c c)),(17,(.int .i64 (j : Int))),(18,(.pointer (some ⟨g,j * 2,none⟩))),(19,(.agg #[.bool ns,.slice as_ ls cs]))] 20 ?_ (KB.out _ GB.out) ?_
     ·simp only [zQA,gA9,g09,g19,Act.put,sI9,s09,s19]
      (repeat' (first | exact trivial | refine And.intro (Or.inl ⟨by rfl,?_⟩) ?_)) <;> (intro w hSw;(try dsimp only at hSw);go_simp)
     simp only [actV,gA9,g09,g19,Act.put,sI9,s09,s19];refine zAA (i := 20) (o := ⟨some 55,.call { callee := .value (.func 27),args := #[.tmp 40,.tmp 50,.tmp 54],argTypes := #[40,40,40] },40, "ref.go:181",#[⟨5,.data⟩,⟨15,.data⟩,⟨19,.data⟩],none⟩) (by kernel_rfl) rfl (fun K hK => ?_);go_simp;go_at_call 27;refine (HS.out _ GB.out).mono ?_;rintro e w2 ⟨rr,rfl,m1,b⟩;have lz2 := (show Below _ _ _ from b).size;replace GB := hid (below_step GB.out b);have FI1 := hid (FI.out.step (below_step (w0 := wr) GBs.out b));have MB1 := hid (MBx.out.step (below_step (w0 := wr) GBs.out b));have M1 := hid (m1.mono (Nat.zero_le _));obtain ⟨nr,xr,ar,cr,rfl⟩ := m1.parts;clear m1;clear b;refine hK.out _ _ (fun _ => KB.out _ GB.out) ?_;clear hK;refine zGA [(21,(.pointer (some ⟨g,j * 2,none⟩)))] 1 ?_ (KB.out _ GB.out) ?_
     ·simp only [zQA,gA9,g09,g19,Act.put,sI9,s09,s19]
      (repeat' (first | exact trivial | refine And.intro (Or.inl ⟨by rfl,?_⟩) ?_)) <;> (intro w hSw;(try dsimp only at hSw);go_simp)
     simp only [actV,gA9,g09,g19,Act.put,sI9,s09,s19];refine zAA (i := 22) (o := ⟨none,.store 40 (.tmp 56) (.tmp 55),0, "ref.go:181",#[⟨21,.data⟩,⟨20,.data⟩,⟨20,.chain⟩,⟨0,.phase⟩,⟨1,.phase⟩,⟨2,.phase⟩,⟨3,.phase⟩,⟨4,.phase⟩,⟨5,.phase⟩,⟨6,.phase⟩,⟨7,.phase⟩,⟨8,.phase⟩,⟨9,.phase⟩,⟨10,.phase⟩,⟨11,.phase⟩,⟨12,.phase⟩,⟨13,.phase⟩,⟨14,.phase⟩,⟨15,.phase⟩,⟨16,.phase⟩,⟨17,.phase⟩,⟨18,.phase⟩,⟨19,.phase⟩,⟨20,.phase⟩],none⟩) (by kernel_rfl) rfl (fun K hK => ?_);obtain ⟨m0,am,lm,cm,e0,e1,e2,e3,-⟩ := FI1.out.cells (j := j) (by rw [ziF];exact hlt);go_simp;clear e0 e1 e2 e3;obtain ⟨V3,hW⟩ : ∃ V3,((w2.setCell ⟨g,j * 2,none⟩ (.bool nr)).setCell ⟨g,j * 2 + 1,none⟩ (.slice ar xr.length cr)) = V3 := ⟨_,rfl⟩
     have HN1 : Hid (VmT w g r c j xs ys (ka + kb + 64) (ka + kb) (matc r c (.slice (some ⟨b2,o2,none⟩) N ca)) (r - (t + 1)) (.int .i64 ((t + 1 : Nat) : Int)) V3) := by
      unfold Hid;rw [← hW];have hm := M1.out.more (l := ka + kb + 64) (by omega);have hj := (ziF r c xs ys j t).symm ▸ hlt;have hq := FI1.out.put_at hj hm;refine ⟨t + 1,rfl,by omega,rfl,?_,MB1.out.ty (FI1.out.ty12 _ _) (bset (bset MB1.out.2 (by have := HGW.out;omega)) (by have := HGW.out;omega)),nr,ar,xr.length,cr,hq.1,hq.2,M1.out.ty (FI1.out.ty12 _ _) (by decide)⟩;rw [← vmS_put hlt];exact FI1.out.put hj hm
     rw [hW];clear hW;refine hK.out _ _ (fun h => absurd h (by decide)) ?_;clear hK
     try simp only [Act.put]
     refine zDA (by kernel_rfl) ?_ _;clear HS FI MBx FI1 MB1 M1 GBs GB KB;go_wp2_with fail;go_roundg (r - (t + 1))
     case rel => exact HN1.out
     case measure => exact HMM2.out
    ·have hlt2' : ¬ (t : Int) < (r : Int) := by omega
     obtain rfl : t = r := by omega
     have HN1 : Hid (VmJ w g t c xs ys (ka + kb + 64) (matc t c (.slice aa N ca)) (c - (j + 1)) (.int .i64 ((j + 1 : Nat) : Int)) wr) := by
      refine ⟨j + 1,rfl,by omega,rfl,?_,MBx.out⟩;rw [← vmS_next];exact FI.out
     clear FI MBx HG ZX s0 s1;go_wp2_with fail;go_roundg (c - (j + 1))
     case rel => exact HN1.out
     case measure => exact HMM.out
  ·have hlt' : ¬ (j : Int) < (c : Int) := by omega
   obtain rfl : j = c := by omega
   have FI2 := FI.out;rw [vmS_done] at FI2;have FIN : Hid (zyF w r j xs ys (ka + kb + 64) (.returned (.tuple #[.slice (some ⟨g,0,none⟩) j j,.int .i64 0])) wr) := ⟨g,rfl,Nat.le_of_lt HGW.out,FI2,MBx.out.2⟩
   clear FI MBx HG FI2;go_wp2;go_ret2;exact FIN.out
theorem rvec12 {w : World} {v va : Value} {pv : List (Value × Value)} {r c : Nat} {xs ys : List Int} {ka kb : Nat} (hv : Prs 0 w v pv) (hvz : Zis w pv xs ka) (hvl : xs.length = r) (ha : Mx w va r c ys kb) (hk : ka + kb + 64 ≤ 1099511627776) :
  Calls Tryz.prog 11 #[v,va] w (GivesVO w (vecZ r c xs ys) (ka + kb + 64)) := by
 have hc : c ≤ 64 := by obtain ⟨_,_,_,_,_,_,_,h⟩ := ha;exact h
 refine (zoG hv hvz hvl ha hk).mono ?_;rintro e w' ⟨g,rfl,-,h,b⟩;have hl2 : (vecZ r c xs ys).length = c := by simp [vecZ]
 obtain ⟨ps,p1,p2⟩ := h.done (by rw [hl2];omega);rw [hl2] at p1;exact ⟨_,ps,rfl,p1,p2,b⟩
end Go.Proofs.YtdeomkkpainakaaGreat
