import Derived.Test.YtnfkibjoconphaaGreatQRm12
set_option maxRecDepth 100000
set_option maxHeartbeats 6400000
set_option linter.unusedVariables false
set_option linter.unusedSimpArgs false
namespace Go.Proofs.YtnfkibjoconphaaGreat
open Go.RowKit
def ArZ (wx : World) (g : Nat) (zs : List Int) (k : Nat) : Prop := ∃ ps,Arr wx g ps ∧ Zms wx ps zs k
theorem zlC (w : World) (k : Nat) : Zm 0 w (.agg #[.bool false,.slice none 0 0]) 0 k := ⟨false,[],none,0,rfl,Mine.nil _ _,⟨WF.nil,rfl⟩,fun _ => rfl,by simp [iv,val],Nat.zero_le _⟩
theorem ArZ.start {w : World} {g n : Nat} (h : Arr w g (List.replicate n zAG)) (k : Nat) : ArZ w g (List.replicate n 0) k := by
 refine ⟨_,h,by simp,fun j p z hp hz => ?_⟩;rw [List.eq_of_mem_replicate (List.mem_of_getElem? hp),List.eq_of_mem_replicate (List.mem_of_getElem? hz)];exact zlC w k
theorem ArZ.step {w w' : World} {g : Nat} {zs : List Int} {k : Nat} (h : ArZ w g zs k) (hb : Below w.heap.size w w') : ArZ w' g zs k := by
 obtain ⟨ps,h1,h2⟩ := h;exact ⟨ps,h1.step hb,h2.now hb⟩
theorem ArZ.ty12 {w : World} {g t : Nat} {zs : List Int} {k : Nat} (h : ArZ w g zs k) (x y : Value) : Ty 43 w ((w.setCell ⟨g,t * 2,none⟩ x).setCell ⟨g,t * 2 + 1,none⟩ y) := by
 obtain ⟨ps,h1,h2⟩ := h;exact h1.ty12 x y
theorem ArZ.put {w : World} {g t : Nat} {zs : List Int} {k : Nat} {x y : Value} {z : Int} (h : ArZ w g zs k) (ht : t < zs.length) (hz : Zm 0 w (.agg #[x,y]) z k) : ArZ ((w.setCell ⟨g,t * 2,none⟩ x).setCell ⟨g,t * 2 + 1,none⟩ y) g (zs.set t z) k := by
 have hty := h.ty12 (t := t) x y;obtain ⟨ps,h1,h2⟩ := h;refine ⟨ps.set t (x,y),h1.put (by rw [h2.1];exact ht) hz.zi.isI,by simp [h2.1],fun j p q hp hq => ?_⟩
 by_cases e : j = t
 ·subst e
  rw [List.getElem?_set_self (by rw [h2.1];exact ht),Option.some.injEq] at hp;rw [List.getElem?_set_self ht,Option.some.injEq] at hq;subst hp;subst hq;exact hz.ty hty (by decide)
 ·rw [List.getElem?_set_ne (by omega)] at hp hq
  exact (h2.2 j p q hp hq).ty hty (by decide)
theorem ArZ.cells {w : World} {g j : Nat} {zs : List Int} {k : Nat} (h : ArZ w g zs k) (hj : j < zs.length) : ∃ m a l c,w.cell? ⟨g,j * 2,none⟩ = some (.bool m) ∧ w.cell? ⟨g,j * 2 + 1,none⟩ = some (.slice a l c) ∧ w.frozen? ⟨g,j * 2,none⟩ = false ∧ w.frozen? ⟨g,j * 2 + 1,none⟩ = false ∧ Zm 0 w (.agg #[.bool m,.slice a l c]) (zs.getD j 0) k := by
 obtain ⟨ps,h1,h2⟩ := h;have hl := h2.1;have hp : ps[j]? = some (ps[j]'(by omega)) := List.getElem?_eq_getElem (by omega);have hq : zs[j]? = some (zs[j]) := List.getElem?_eq_getElem hj;obtain ⟨m,a,l,c,e⟩ := h1.2 _ (List.getElem_mem (l := ps) (n := j) (by omega));have q := h1.at hp;have z := h2.2 j _ _ hp hq;rw [e] at q z;have : zs.getD j 0 = zs[j] := by simp [hj]
 rw [this];exact ⟨m,a,l,c,q.1,q.2,h1.1.fz _,h1.1.fz _,z⟩
theorem ArZ.done {w : World} {g : Nat} {zs : List Int} {k : Nat} (h : ArZ w g zs k) (hn : zs.length ≤ 1048576) : ∃ ps,PrsT w (.slice (some ⟨g,0,none⟩) zs.length zs.length) ps ∧ Zms w ps zs k := by
 obtain ⟨ps,h1,h2⟩ := h;refine ⟨ps,?_,h2⟩;rw [← h2.1];exact h1.prsT (by rw [h2.1];exact hn)
def tnL (r c : Nat) (zs : List Int) (i j : Nat) : List Int := (List.range (c * r)).map fun t => if t % r < i ∨ (t % r = i ∧ t / r < j) then zs.getD (t % r * c + t / r) 0 else 0
theorem ztD (r c : Nat) (zs : List Int) (i j : Nat) : (tnL r c zs i j).length = c * r := by simp [tnL]
theorem tnL_zero (r c : Nat) (zs : List Int) : tnL r c zs 0 0 = List.replicate (c * r) 0 := by
 apply List.ext_getElem
 ·simp [tnL]
 ·intro t h1 h2
  simp [tnL]
theorem tnL_row (r c : Nat) (zs : List Int) (i : Nat) : tnL r c zs i c = tnL r c zs (i + 1) 0 := by
 apply List.ext_getElem
 ·simp [tnL]
 ·intro t h1 h2
  rw [ztD] at h1;have hr : 0 < r := Nat.pos_of_ne_zero fun q => by rw [q] at h1;simp at h1
  have hd : t / r < c := (Nat.div_lt_iff_lt_mul hr).2 h1;simp only [tnL,List.getElem_map,List.getElem_range];generalize t % r = X at *;generalize t / r = Y at *
  by_cases q : X < i + 1
  ·rw [if_pos (by omega),if_pos (by omega)]
  ·rw [if_neg (by omega),if_neg (by omega)]
theorem tnL_put {r c i j : Nat} {zs : List Int} (hi : i < r) (hj : j < c) : (tnL r c zs i j).set (j * r + i) (zs.getD (i * c + j) 0) = tnL r c zs i (j + 1) := by
 have e1 : (j * r + i) % r = i := by rw [Nat.mul_comm,Nat.mul_add_mod,Nat.mod_eq_of_lt hi]
 have e2 : (j * r + i) / r = j := by rw [Nat.mul_comm,Nat.mul_add_div (by omega),Nat.div_eq_of_lt hi];omega
 apply List.ext_getElem
 ·simp [tnL]
 ·intro t h1 h2
  rw [List.getElem_set]
  by_cases q : j * r + i = t
  ·rw [if_pos q]
   subst q;simp [tnL,e1,e2]
  ·rw [if_neg q]
   simp only [tnL,List.getElem_map,List.getElem_range];have hne : ¬ (t % r = i ∧ t / r = j) := fun h => q (by have := Nat.div_add_mod t r;rw [h.1,h.2,Nat.mul_comm] at this;exact this)
   generalize t % r = X at *;generalize t / r = Y at *
   by_cases q1 : X < i ∨ (X = i ∧ Y < j)
   ·rw [if_pos q1,if_pos (by omega)]
   ·rw [if_neg q1,if_neg (by omega)]
def zsD (r c : Nat) (zs : List Int) : List Int := tnL r c zs r 0
theorem turnZ_at {r c i j : Nat} {zs : List Int} (hi : i < r) (hj : j < c) : (zsD r c zs).getD (j * r + i) 0 = zs.getD (i * c + j) 0 := by
 have e1 : (j * r + i) % r = i := by rw [Nat.mul_comm,Nat.mul_add_mod,Nat.mod_eq_of_lt hi]
 have e2 : (j * r + i) / r = j := by rw [Nat.mul_comm,Nat.mul_add_div (by omega),Nat.div_eq_of_lt hi];omega
 have hlt : j * r + i < c * r := zkA hj hi;simp [zsD,tnL,hlt,e1,e2,hi]
def MB1 (w wx : World) (bm : Nat) (A0 M0 : List Value) : Prop := Cel wx w.heap.size 24 A0 ∧ Cel wx (w.heap.size + 1) 24 [.int .i64 0,.int .i64 0,.slice none 0 0] ∧ Cel wx bm 24 M0 ∧ Below w.heap.size w wx
theorem MB1.step {w x y : World} {bm : Nat} {A0 M0 : List Value} (h : MB1 w x bm A0 M0) (hb : Below x.heap.size x y) : MB1 w y bm A0 M0 := ⟨h.1.step hb,h.2.1.step hb,h.2.2.1.step hb,below_step h.2.2.2 hb⟩
theorem MB1.ty {w x y : World} {bm : Nat} {A0 M0 : List Value} (h : MB1 w x bm A0 M0) (ht : Ty 43 x y) (hb : Below w.heap.size w y) : MB1 w y bm A0 M0 := ⟨h.1.ty12 ht (by decide),h.2.1.ty12 ht (by decide),h.2.2.1.ty12 ht (by decide),hb⟩
def TnI (w : World) (bm g r c : Nat) (zs : List Int) (k : Nat) (A0 M0 : List Value) (gk : Nat) (s : Value) (wx : World) : Prop :=
 ∃ i : Nat,s = .int .i64 (i : Int) ∧ i ≤ r ∧ gk = r - i ∧ ArZ wx g (tnL r c zs i 0) k ∧ MB1 w wx bm A0 M0
def TnJ (w : World) (bm g r c i : Nat) (zs : List Int) (k : Nat) (A0 M0 : List Value) (gk : Nat) (s : Value) (wx : World) : Prop :=
 ∃ j : Nat,s = .int .i64 (j : Int) ∧ j ≤ c ∧ gk = c - j ∧ ArZ wx g (tnL r c zs i j) k ∧ MB1 w wx bm A0 M0
theorem rturn12 {w : World} {va : Value} {r c : Nat} {zs : List Int} {ka : Nat} (ha : Mx w va r c zs ka) (hk : ka ≤ 1099511627776) :
  Calls Tryz.prog 9 #[va] w (zAB w c r (zsD r c zs) ka) := by
 have HCK := hid (zzE ha);obtain ⟨ata,pa,rfl,pa1,pa2,pa3,hr,hc⟩ := ha;have HAA : Hid (∀ wx,Below w.heap.size w wx → ∀ t,t < r * c → ∃ b off cap n a l c',ata = .slice (some ⟨b,off,none⟩) (r * c) cap ∧ wx.cell? ⟨b,off + t * 2,none⟩ = some (.bool n) ∧ wx.cell? ⟨b,off + t * 2 + 1,none⟩ = some (.slice a l c') ∧ Zi wx (.agg #[.bool n,.slice a l c']) (zs.getD t 0) ka) := fun wx h t ht => by
  have := (pa1.now h).isI12 (pa2.now h) (t := t) (by rw [pa3];exact ht);rw [pa3] at this;exact this
 have hrc : c * r ≤ 64 * 64 := Nat.mul_le_mul hc hr;have hrc' : r * c ≤ 64 * 64 := Nat.mul_le_mul hr hc;obtain ⟨N,hN⟩ : ∃ N,c * r = N := ⟨_,rfl⟩
 have HBL : Hid (∀ w',Calls Tryz.prog 27 #[.int .i64 (c : Int),.int .i64 (r : Int)] w' (zOF w' c r N)) := fun w' => ziG hc hr hN
 have HNN := hid hN;rw [hN] at hrc;obtain ⟨W0,hW⟩ : ∃ W0,(w.alloc (matO r c ata)).alloc mbox = W0 := ⟨_,rfl⟩
 have b0 : Below w.heap.size w W0 := by rw [← hW];exact ((Below.refl _ _).alloc (Nat.le_refl _) _).alloc (by simp) _
 have sz0 : W0.heap.size = w.heap.size + 2 := by rw [← hW];simp
 have PA : Hid (Cel W0 w.heap.size 24 (matc r c ata)) := by unfold Hid;rw [← hW];exact (Cel.new w _ _).step ((Below.refl _ _).alloc (Nat.le_refl _) _)
 have PR : Hid (Cel W0 (w.heap.size + 1) 24 [.int .i64 0,.int .i64 0,.slice none 0 0]) := by
  unfold Hid;rw [← hW];have := Cel.new (w.alloc (matO r c ata)) 24 [.int .i64 0,.int .i64 0,.slice none 0 0]
  simpa using this
 have x0 := PA.out.at (i := 0) rfl;have x1 := PA.out.at (i := 1) rfl;have x2 := PA.out.at (i := 2) rfl;rw [← hW] at x0 x1 x2;have G0 := hid b0;have SZ := hid sz0;have HK := hid hk;have EW := hid hW;clear pa1 pa2 pa3 b0 sz0 hW hk hN;go_enter Tryz.func9,Tryz.ntmps9;go_wp2_with fail;rw [EW.out];refine (HCK.out _ G0.out).mono ?_;rintro e w1 ⟨rfl,b1⟩;have PA1 := hid (PA.out.step b1);have PR1 := hid (PR.out.step b1);have G1 := hid (below_step G0.out b1);clear x0 x1 x2 EW PA PR G0 HCK;have x0 := PA1.out.at (i := 0) rfl;have x1 := PA1.out.at (i := 1) rfl;have sz1 := b1.size;have q0 : ((0 : Int) != 0) = false := rfl;go_wp2_with fail;refine (HBL.out _).mono ?_;rintro e w2 ⟨g,rfl,hge,harr,b2⟩;clear x0 x1 q0 HBL;obtain ⟨V1,hV⟩ : ∃ V1,w2.alloc (matO c r (.slice (some ⟨g,0,none⟩) N N)) = V1 := ⟨_,rfl⟩
 obtain ⟨b3,sz3⟩ := alo1 w2 (matO c r (.slice (some ⟨g,0,none⟩) N N));rw [hV] at b3 sz3;have PM : Hid (Cel V1 w2.heap.size 24 (matc c r (.slice (some ⟨g,0,none⟩) N N))) := by unfold Hid;rw [← hV];exact Cel.new w2 _ _
 have HGW : Hid (w.heap.size + 1 < g) := by unfold Hid;have h1 := SZ.out;omega
 have H0 : Hid (TnI w w2.heap.size g r c zs ka (matc r c ata) (matc c r (.slice (some ⟨g,0,none⟩) N N)) r (.int .i64 0) V1) :=
  ⟨0,rfl,Nat.zero_le _,by omega,by rw [tnL_zero,HNN.out];exact (ArZ.start harr ka).step b3,(PA1.out.step b2).step b3,(PR1.out.step b2).step b3,PM.out,below_step (below_step G1.out b2) b3⟩
 have EV := hid hV;clear PA1 PR1 G1 harr b1 b2 b3 sz3 PM hV hge SZ sz1;go_wp2_with fail;rw [EV.out];clear EV;obtain ⟨bm,hbm⟩ : ∃ bm,w2.heap.size = bm := ⟨_,rfl⟩
 rw [hbm] at H0 ⊢;clear hbm
 go_loopg [6] r (fun gk s6 wx => TnI w bm g r c zs ka (matc r c ata) (matc c r (.slice (some ⟨g,0,none⟩) N N)) gk s6 wx)
 case atStart => exact H0.out
 case round =>
  clear H0;obtain ⟨i,rfl,hin,hg,hfil,hmb⟩ := hrel;have FI := hid hfil;have MBx := hid hmb;have HG := hid hg;clear hfil hmb hg;have x0 := MBx.out.1.at (i := 0) rfl
  by_cases hlt : i < r
  ·have hlt' : (i : Int) < (r : Int) := by omega
   have hw := zmA (i := i) (by omega);have HMM : Hid (r - (i + 1) < gk) := by unfold Hid;rw [HG.out];omega
   have H1 : Hid (TnJ w bm g r c i zs ka (matc r c ata) (matc c r (.slice (some ⟨g,0,none⟩) N N)) c (.int .i64 0) wr) := ⟨0,rfl,Nat.zero_le _,by omega,FI.out,MBx.out⟩
   clear HG FI MBx;go_wp2_with fail
   go_loopg [7] c (fun gk2 s7 wx => TnJ w bm g r c i zs ka (matc r c ata) (matc c r (.slice (some ⟨g,0,none⟩) N N)) gk2 s7 wx)
   case atStart => exact H1.out
   case round =>
    clear H1 x0;obtain ⟨j,rfl,hjn,hg,hfil,hmb⟩ := hrel;have FI := hid hfil;have MBx := hid hmb;have HG := hid hg;clear hfil hmb hg;have x1 := MBx.out.1.at (i := 1) rfl
    by_cases hlt2 : j < c
    ·have hlt2' : (j : Int) < (c : Int) := by omega
     have hw2 := zmA (i := j) (by omega);have HMM2 : Hid (c - (j + 1) < gk) := by unfold Hid;rw [HG.out];omega
     have hp1 : i * c + j < r * c := zkA hlt hlt2;have hp2 : j * r + i < N := by rw [← HNN.out];exact zkA hlt2 hlt
     obtain ⟨b1,o1,c1,n1,a1,l1,d1,rfl,u0,u1,z1⟩ := HAA.out wr MBx.out.2.2.2 (i * c + j) hp1;have k1 := zCB (i := i) (c := c) (by omega) hc;have k2 := zCB (i := j) (c := r) (by omega) hr;have k3 : IntKind.i64.wrap (((i * c : Nat) : Int) + (j : Int)) = ((i * c + j : Nat) : Int) := by rw [zPA] <;> omega
     have k4 : IntKind.i64.wrap (((j * r : Nat) : Int) + (i : Int)) = ((j * r + i : Nat) : Int) := by rw [zPA] <;> omega
     have HS : Hid (∀ w',Below wr.heap.size wr w' → Calls Tryz.prog 28 #[.agg #[.bool n1,.slice a1 l1 d1]] w' (zbA w' (zs.getD (i * c + j) 0) ka)) := fun w' h => zhG (z1.now h) HK.out
     have TP : Hid ((tnL r c zs i j).set (j * r + i) (zs.getD (i * c + j) 0) = tnL r c zs i (j + 1)) := tnL_put hlt hlt2;have TL : Hid ((tnL r c zs i j).length = N) := by unfold Hid;rw [ztD];exact HNN.out
     obtain ⟨n3,hn3⟩ : ∃ n3,r * c = n3 := ⟨_,rfl⟩
     obtain ⟨q1,hq1⟩ : ∃ q1,i * c = q1 := ⟨_,rfl⟩
     obtain ⟨q2,hq2⟩ : ∃ q2,j * r = q2 := ⟨_,rfl⟩
     rw [hn3] at hp1 hrc' MBx;rw [hq1] at hp1 k1 k3 u0 u1 HS TP;rw [hq2] at hp2 k2 k4 TP;obtain ⟨t1,ht1⟩ : ∃ t1,q1 + j = t1 := ⟨_,rfl⟩
     obtain ⟨t2,ht2⟩ : ∃ t2,q2 + i = t2 := ⟨_,rfl⟩
     rw [ht1] at hp1 k3 u0 u1 HS TP;rw [ht2] at hp2 k4 TP;have hp1' : (t1 : Int) < (n3 : Int) := by omega
     have hp2' : (t2 : Int) < (N : Int) := by omega
     have k1' := k1;have k2' := k2;have k3' := k3;have k4' := k4;rw [IntKind.wrap_i64] at k1' k2' k3' k4';have x2 := MBx.out.1.at (i := 2) rfl;have x0 := MBx.out.1.at (i := 0) rfl;have m2 := MBx.out.2.2.1.at (i := 2) rfl;have E3 := hid hn3;clear z1 hn3 hq1 hq2 ht1 ht2 HG;go_wp2_with fail;have KB : Hid (∀ w',Below wr.heap.size wr w' → w'.cell? ⟨w.heap.size,0,none⟩ = some (.int .i64 (r : Int)) ∧ w'.cell? ⟨w.heap.size,1,none⟩ = some (.int .i64 (c : Int)) ∧ w'.cell? ⟨w.heap.size,2,none⟩ = some (.slice (some ⟨b1,o1,none⟩) n3 c1) ∧ w'.cell? ⟨bm,2,none⟩ = some (.slice (some ⟨g,0,none⟩) N N) ∧ w'.cell? ⟨b1,o1 + t1 * 2,none⟩ = some (.bool n1) ∧ w'.cell? ⟨b1,o1 + t1 * 2 + 1,none⟩ = some (.slice a1 l1 d1)) := fun w' h => ⟨cnow h x0,cnow h x1,cnow h x2,cnow h m2,cnow h u0,cnow h u1⟩
     refine zDA (fun w' => w'.cell? ⟨w.heap.size,0,none⟩ = some (.int .i64 (r : Int)) ∧ w'.cell? ⟨w.heap.size,1,none⟩ = some (.int .i64 (c : Int)) ∧ w'.cell? ⟨w.heap.size,2,none⟩ = some (.slice (some ⟨b1,o1,none⟩) n3 c1) ∧ w'.cell? ⟨bm,2,none⟩ = some (.slice (some ⟨g,0,none⟩) N N) ∧ w'.cell? ⟨b1,o1 + t1 * 2,none⟩ = some (.bool n1) ∧ w'.cell? ⟨b1,o1 + t1 * 2 + 1,none⟩ = some (.slice a1 l1 d1)) 20 (by kernel_rfl) ?_;obtain ⟨D1,hD⟩ : ∃ D1,wr.drew = D1 := ⟨_,rfl⟩
     have GB : Hid (Below wr.heap.size wr D1) := by unfold Hid;rw [← hD];exact (Below.refl _ _).drew
     rw [hD];clear hD;have GBs := GB;refine zAA (i := 0) (oi := ⟨some 31,.fieldAddr 24 (.tmp 5) 2,0, "ref.go:225",#[],none⟩) (v := (.pointer (some ⟨bm,2,none⟩))) rfl (by kernel_rfl) (fun _ _ _ h => h) (Or.inl ⟨by rfl,?_⟩) (KB.out _ GB.out) ?_
     ·intro w hSw;(try dsimp only at hSw);go_simp
     simp only [Act.put,sIb,sC0,sC1];refine zAA (i := 1) (oi := ⟨some 32,.load 22 (.tmp 31),22, "ref.go:225",#[⟨0,.data⟩],none⟩) (v := (.slice (some ⟨g,0,none⟩) N N)) rfl (by kernel_rfl) (fun _ _ _ h => h) (Or.inl ⟨by rfl,?_⟩) (KB.out _ GB.out) ?_
     ·intro w hSw;(try dsimp only at hSw);go_simp
     simp only [Act.put,sIb,sC0,sC1];refine zAA (i := 2) (oi := ⟨some 33,.move (.tmp 7),3, "ref.go:225",#[],none⟩) (v := (.int .i64 (j : Int))) rfl (by kernel_rfl) (fun _ _ _ h => h) (Or.inl ⟨by rfl,?_⟩) (KB.out _ GB.out) ?_
     ·intro w hSw;(try dsimp only at hSw);go_simp
     simp only [Act.put,sIb,sC0,sC1];refine zAA (i := 3) (oi := ⟨some 34,.fieldAddr 24 (.tmp 1) 0,0, "ref.go:225",#[],none⟩) (v := (.pointer (some ⟨w.heap.size,0,none⟩))) rfl (by kernel_rfl) (fun _ _ _ h => h) (Or.inl ⟨by rfl,?_⟩) (KB.out _ GB.out) ?_
     ·intro w hSw;(try dsimp only at hSw);go_simp
     simp only [Act.put,sIb,sC0,sC1];refine zAA (i := 4) (oi := ⟨some 35,.load 3 (.tmp 34),3, "ref.go:225",#[⟨3,.data⟩],none⟩) (v := (.int .i64 (r : Int))) rfl (by kernel_rfl) (fun _ _ _ h => h) (Or.inl ⟨by rfl,?_⟩) (KB.out _ GB.out) ?_
     ·intro w hSw;(try dsimp only at hSw);go_simp
     simp only [Act.put,sIb,sC0,sC1];refine zAA (i := 5) (oi := ⟨some 36,.binOp .mul 3 (.tmp 33) (.tmp 35) 3,3, "ref.go:225",#[⟨2,.data⟩,⟨4,.data⟩],none⟩) (v := (.int .i64 (q2 : Int))) rfl (by kernel_rfl) (fun _ _ _ h => h) (Or.inl ⟨by rfl,?_⟩) (KB.out _ GB.out) ?_
     ·intro w hSw;(try dsimp only at hSw);go_simp
     simp only [Act.put,sIb,sC0,sC1];refine zAA (i := 6) (oi := ⟨some 37,.move (.tmp 6),3, "ref.go:225",#[],none⟩) (v := (.int .i64 (i : Int))) rfl (by kernel_rfl) (fun _ _ _ h => h) (Or.inl ⟨by rfl,?_⟩) (KB.out _ GB.out) ?_
     ·intro w hSw;(try dsimp only at hSw);go_simp
     simp only [Act.put,sIb,sC0,sC1];refine zAA (i := 7) (oi := ⟨some 38,.binOp .add 3 (.tmp 36) (.tmp 37) 3,3, "ref.go:225",#[⟨5,.data⟩,⟨6,.data⟩],none⟩) (v := (.int .i64 (t2 : Int))) rfl (by kernel_rfl) (fun _ _ _ h => h) (Or.inl ⟨by rfl,?_⟩) (KB.out _ GB.out) ?_
     ·intro w hSw;(try dsimp only at hSw);go_simp
     simp only [Act.put,sIb,sC0,sC1];refine zAA (i := 8) (oi := ⟨some 39,.fieldAddr 24 (.tmp 1) 2,0, "ref.go:225",#[],none⟩) (v := (.pointer (some ⟨w.heap.size,2,none⟩))) rfl (by kernel_rfl) (fun _ _ _ h => h) (Or.inl ⟨by rfl,?_⟩) (KB.out _ GB.out) ?_
     ·intro w hSw;(try dsimp only at hSw);go_simp
     simp only [Act.put,sIb,sC0,sC1];refine zAA (i := 9) (oi := ⟨some 40,.load 22 (.tmp 39),22, "ref.go:225",#[⟨8,.data⟩],none⟩) (v := (.slice (some ⟨b1,o1,none⟩) n3 c1)) rfl (by kernel_rfl) (fun _ _ _ h => h) (Or.inl ⟨by rfl,?_⟩) (KB.out _ GB.out) ?_
     ·intro w hSw;(try dsimp only at hSw);go_simp
     simp only [Act.put,sIb,sC0,sC1];refine zAA (i := 10) (oi := ⟨some 41,.move (.tmp 6),3, "ref.go:225",#[],none⟩) (v := (.int .i64 (i : Int))) rfl (by kernel_rfl) (fun _ _ _ h => h) (Or.inl ⟨by rfl,?_⟩) (KB.out _ GB.out) ?_
     ·intro w hSw;(try dsimp only at hSw);go_simp
     simp only [Act.put,sIb,sC0,sC1];refine zAA (i := 11) (oi := ⟨some 42,.fieldAddr 24 (.tmp 1) 1,0, "ref.go:225",#[],none⟩) (v := (.pointer (some ⟨w.heap.size,1,none⟩))) rfl (by kernel_rfl) (fun _ _ _ h => h) (Or.inl ⟨by rfl,?_⟩) (KB.out _ GB.out) ?_
     ·intro w hSw;(try dsimp only at hSw);go_simp
     simp only [Act.put,sIb,sC0,sC1];refine zAA (i := 12) (oi := ⟨some 43,.load 3 (.tmp 42),3, "ref.go:225",#[⟨11,.data⟩],none⟩) (v := (.int .i64 (c : Int))) rfl (by kernel_rfl) (fun _ _ _ h => h) (Or.inl ⟨by rfl,?_⟩) (KB.out _ GB.out) ?_
     ·intro w hSw;(try dsimp only at hSw);go_simp
     simp only [Act.put,sIb,sC0,sC1];refine zAA (i := 13) (oi := ⟨some 44,.binOp .mul 3 (.tmp 41) (.tmp 43) 3,3, "ref.go:225",#[⟨10,.data⟩,⟨12,.data⟩],none⟩) (v := (.int .i64 (q1 : Int))) rfl (by kernel_rfl) (fun _ _ _ h => h) (Or.inl ⟨by rfl,?_⟩) (KB.out _ GB.out) ?_
     ·intro w hSw;(try dsimp only at hSw);go_simp
     simp only [Act.put,sIb,sC0,sC1];refine zAA (i := 14) (oi := ⟨some 45,.move (.tmp 7),3, "ref.go:225",#[],none⟩) (v := (.int .i64 (j : Int))) rfl (by kernel_rfl) (fun _ _ _ h => h) (Or.inl ⟨by rfl,?_⟩) (KB.out _ GB.out) ?_
     ·intro w hSw;(try dsimp only at hSw);go_simp
     simp only [Act.put,sIb,sC0,sC1];refine zAA (i := 15) (oi := ⟨some 46,.binOp .add 3 (.tmp 44) (.tmp 45) 3,3, "ref.go:225",#[⟨13,.data⟩,⟨14,.data⟩],none⟩) (v := (.int .i64 (t1 : Int))) rfl (by kernel_rfl) (fun _ _ _ h => h) (Or.inl ⟨by rfl,?_⟩) (KB.out _ GB.out) ?_
     ·intro w hSw;(try dsimp only at hSw);go_simp
     simp only [Act.put,sIb,sC0,sC1];refine zAA (i := 16) (oi := ⟨some 47,.indexAddr 22 (.tmp 40) (.tmp 46),0, "ref.go:225",#[⟨9,.data⟩,⟨15,.data⟩],none⟩) (v := (.pointer (some ⟨b1,o1 + t1 * 2,none⟩))) rfl (by kernel_rfl) (fun _ _ _ h => h) (Or.inl ⟨by rfl,?_⟩) (KB.out _ GB.out) ?_
     ·intro w hSw;(try dsimp only at hSw);go_simp
     simp only [Act.put,sIb,sC0,sC1];refine zAA (i := 17) (oi := ⟨some 48,.load 43 (.tmp 47),43, "ref.go:225",#[⟨16,.data⟩],none⟩) (v := (.agg #[.bool n1,.slice a1 l1 d1])) rfl (by kernel_rfl) (fun _ _ _ h => h) (Or.inl ⟨by rfl,?_⟩) (KB.out _ GB.out) ?_
     ·intro w hSw;(try dsimp only at hSw);go_simp
     simp only [Act.put,sIb,sC0,sC1];refine zBA (i := 18) (o := ⟨some 49,.call { callee := .value (.func 28),args := #[.tmp 48],argTypes := #[43] },43, "ref.go:225",#[⟨17,.data⟩],none⟩) (by kernel_rfl) rfl (fun K hK => ?_);go_simp;go_at_call 28;refine (HS.out _ GB.out).mono ?_;rintro e w2 ⟨rr,rfl,m1,b⟩;have lz2 := (show Below _ _ _ from b).size;replace GB := hid (below_step GB.out b);have FI1 := hid (FI.out.step (below_step (w0 := wr) GBs.out b));have MB2 := hid (MBx.out.step (below_step (w0 := wr) GBs.out b));have M1 := hid (m1.mono (Nat.zero_le _));obtain ⟨nr,xr,ar,cr,rfl⟩ := m1.parts;clear m1;clear b;refine hK.out _ _ (fun _ => KB.out _ GB.out) ?_;clear hK;refine zAA (i := 19) (oi := ⟨some 50,.indexAddr 22 (.tmp 32) (.tmp 38),0, "ref.go:225",#[⟨1,.data⟩,⟨7,.data⟩,⟨0,.phase⟩,⟨1,.phase⟩,⟨2,.phase⟩,⟨3,.phase⟩,⟨4,.phase⟩,⟨5,.phase⟩,⟨6,.phase⟩,⟨7,.phase⟩,⟨8,.phase⟩,⟨9,.phase⟩,⟨10,.phase⟩,⟨11,.phase⟩,⟨12,.phase⟩,⟨13,.phase⟩,⟨14,.phase⟩,⟨15,.phase⟩,⟨16,.phase⟩,⟨17,.phase⟩,⟨18,.phase⟩],none⟩) (v := (.pointer (some ⟨g,t2 * 2,none⟩))) rfl (by kernel_rfl) (fun _ _ _ h => h) (Or.inl ⟨by rfl,?_⟩) (KB.out _ GB.out) ?_
     ·intro w hSw;(try dsimp only at hSw);go_simp
     simp only [Act.put,sIb,sC0,sC1];refine zBA (i := 20) (o := ⟨none,.store 43 (.tmp 50) (.tmp 49),0, "ref.go:225",#[⟨19,.data⟩,⟨18,.data⟩,⟨18,.chain⟩,⟨0,.phase⟩,⟨1,.phase⟩,⟨2,.phase⟩,⟨3,.phase⟩,⟨4,.phase⟩,⟨5,.phase⟩,⟨6,.phase⟩,⟨7,.phase⟩,⟨8,.phase⟩,⟨9,.phase⟩,⟨10,.phase⟩,⟨11,.phase⟩,⟨12,.phase⟩,⟨13,.phase⟩,⟨14,.phase⟩,⟨15,.phase⟩,⟨16,.phase⟩,⟨17,.phase⟩,⟨18,.phase⟩],none⟩) (by kernel_rfl) rfl (fun K hK => ?_);obtain ⟨m0,am,lm,cm,e0,e1,e2,e3,-⟩ := FI1.out.cells (j := t2) (by rw [TL.out];exact hp2);go_simp;clear e0 e1 e2 e3;obtain ⟨V3,hW⟩ : ∃ V3,((w2.setCell ⟨g,t2 * 2,none⟩ (.bool nr)).setCell ⟨g,t2 * 2 + 1,none⟩ (.slice ar xr.length cr)) = V3 := ⟨_,rfl⟩
     have HN1 : Hid (TnJ w bm g r c i zs ka (matc r c (.slice (some ⟨b1,o1,none⟩) n3 c1)) (matc c r (.slice (some ⟨g,0,none⟩) N N)) (c - (j + 1)) (.int .i64 ((j + 1 : Nat) : Int)) V3) := by
      unfold Hid;rw [← hW];refine ⟨j + 1,rfl,by omega,rfl,?_,MB2.out.ty (FI1.out.ty12 _ _) (bset (bset MB2.out.2.2.2 (by have := HGW.out;omega)) (by have := HGW.out;omega))⟩;have := FI1.out.put (t := t2) (by rw [TL.out];exact hp2) M1.out;rw [TP.out] at this;exact this
     rw [E3.out.symm] at HN1;rw [hW];clear hW;refine hK.out _ _ (fun h => absurd h (by decide)) ?_;clear hK
     try simp only [Act.put]
     refine zFA (by kernel_rfl) ?_ _;clear HS FI MBx FI1 MB2 M1 GBs GB KB;go_wp2_with fail;go_roundg (c - (j + 1))
     case rel => exact HN1.out
     case measure => exact HMM2.out
    ·have hlt2' : ¬ (j : Int) < (c : Int) := by omega
     obtain rfl : j = c := by omega
     have HN1 : Hid (TnI w bm g r j zs ka (matc r j ata) (matc j r (.slice (some ⟨g,0,none⟩) N N)) (r - (i + 1)) (.int .i64 ((i + 1 : Nat) : Int)) wr) := by
      refine ⟨i + 1,rfl,by omega,rfl,?_,MBx.out⟩;rw [← tnL_row];exact FI.out
     clear FI MBx HG;go_wp2_with fail;go_roundg (r - (i + 1))
     case rel => exact HN1.out
     case measure => exact HMM.out
  ·have hlt' : ¬ (i : Int) < (r : Int) := by omega
   obtain rfl : i = r := by omega
   have m0 := MBx.out.2.2.1.at (i := 0) rfl;have m1 := MBx.out.2.2.1.at (i := 1) rfl;have m2 := MBx.out.2.2.1.at (i := 2) rfl;have r0 := MBx.out.2.1.at (i := 0) rfl;have r1 := MBx.out.2.1.at (i := 1) rfl;have r2 := MBx.out.2.1.at (i := 2) rfl;have f0 := MBx.out.2.1.fz 0;have f1 := MBx.out.2.1.fz 1;have f2 := MBx.out.2.1.fz 2;have hln : (tnL i c zs i 0).length = N := by rw [ztD];exact HNN.out
   obtain ⟨ps,p1,p2⟩ := FI.out.done (by rw [hln];omega);rw [hln] at p1;have FIN : Hid (zAB w c i (zsD i c zs) ka (.returned (.tuple #[.agg #[.int .i64 (c : Int),.int .i64 (i : Int),.slice (some ⟨g,0,none⟩) N N],.int .i64 0])) (put3 wr (w.heap.size + 1) (.int .i64 (c : Int)) (.int .i64 (i : Int)) (.slice (some ⟨g,0,none⟩) N N))) := by
    have t1 : Ty 24 wr (put3 wr (w.heap.size + 1) (.int .i64 (c : Int)) (.int .i64 (i : Int)) (.slice (some ⟨g,0,none⟩) N N)) := ((Ty.set MBx.out.2.1).trans (Ty.set (MBx.out.2.1.set 0 _))).trans (Ty.set ((MBx.out.2.1.set 0 _).set 1 _));exact ⟨_,rfl,⟨_,ps,rfl,(p1.ty t1 (by decide)).1,(p2.ty t1 (by decide)).zcs,by unfold zsD;rw [ztD],hc,hr⟩,zWA MBx.out.2.2.2 (by omega) _ _ _⟩
   have PG := hid (MBx.out.2.1.put3 (.int .i64 (c : Int)) (.int .i64 (i : Int)) (.slice (some ⟨g,0,none⟩) N N));clear FI MBx HG p1 p2;go_wp2;exact bodyPost_ret (zwC Tryz.results9 PG.out _ (by rfl) (by rfl)) rfl FIN.out
end Go.Proofs.YtnfkibjoconphaaGreat
