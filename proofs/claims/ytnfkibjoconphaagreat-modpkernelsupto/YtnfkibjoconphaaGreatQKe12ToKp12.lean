/-
 QKe12ToKp12: Ke12, De12, Sa12, Dr12, Kp12, joined.
-/
import Derived.Test.YtnfkibjoconphaaGreatQWo12ToCo12
import Derived.Test.YtnfkibjoconphaaGreatQDim12ToBr12
import Derived.Test.YtnfkibjoconphaaGreatQKl12ToRc12
import Derived.Test.YtnfkibjoconphaaGreatQRm12
import Derived.Test.YtnfkibjoconphaaGreatQTn12

set_option maxRecDepth 100000
set_option maxHeartbeats 6400000
set_option linter.unusedVariables false
set_option linter.unusedSimpArgs false
namespace Go.Proofs.YtnfkibjoconphaaGreat
open Go.RowKit
theorem zsE {N top left : Nat} {ms : List (List Int)} (h : WidE N ms) : WidE (N - left) (zOD top left ms) := fun l hl => by
 obtain ⟨x,hx,rfl⟩ := List.mem_map.1 hl;rw [List.length_drop,h x (List.mem_of_mem_drop hx)]
theorem zuF {p top left : Nat} {ms : List (List Int)} (h : ResM p ms) : ResM p (zOD top left ms) := fun l hl => by
 obtain ⟨x,hx,rfl⟩ := List.mem_map.1 hl;exact fun y hy => h x (List.mem_of_mem_drop hx) y (List.mem_of_mem_drop hy)
theorem zvF {top left r : Nat} {ms : List (List Int)} (h : ms.length = r) : (zOD top left ms).length = r - top := by simp [zOD,h]
def kerL (p r c : Nat) (zs : List Int) : List (List Int) := zOD (wkR p r c zs) c (wkS p r c zs).m
theorem kernel12 {w : World} {v : Value} {p r c : Nat} {zs : List Int} {K : Nat} (hp : gdB p = true) (h : Mx w v r c zs K) (hK : K ≤ 1099511627775) :
  Calls Tryz.prog 12 #[v,.int .u64 (p : Int)] w (zAB w (r - wkR p r c zs) r (kerL p r c zs).flatten 1) := by
 obtain ⟨hpr,hp2⟩ := zWC hp;have hp1 := hpr.1;have hm0 := h;obtain ⟨a,cap,rfl,hr,hc⟩ := h.form;have hl : zs.length = r * c := by obtain ⟨_,_,_,_,_,q,_⟩ := hm0;exact q
 have OKS := hid (zBG (p := p) (c := c) (r := r) hp1 hl);have HKF : Hid (kerL p r c zs = zOD (wkR p r c zs) c (wkS p r c zs).m) := rfl;have HRK : Hid (wkR p r c zs ≤ r) := Nat.le_trans (zOG _ _) OKS.out.piv;obtain ⟨n,hn⟩ : ∃ n,r * c = n := ⟨_,rfl⟩
 rw [hn] at hm0 ⊢;obtain ⟨W0,hW⟩ : ∃ W0,(w.alloc (mrO (r : Int) (c : Int) a n cap)).alloc mbox = W0 := ⟨_,rfl⟩
 have b0 : Below w.heap.size w W0 := by rw [← hW];exact ((Below.refl _ _).alloc (Nat.le_refl _) _).alloc (by simp) _
 have P1 : Hid (Cel W0 w.heap.size 24 (mrC (r : Int) (c : Int) a n cap)) := by unfold Hid;rw [← hW];exact (Cel.new w _ _).step (zJA _ _).1
 have PR : Hid (Cel W0 (w.heap.size + 1) 24 [.int .i64 0,.int .i64 0,.slice none 0 0]) := by
  unfold Hid;rw [← hW];have := Cel.new (w.alloc (mrO (r : Int) (c : Int) a n cap)) 24 [.int .i64 0,.int .i64 0,.slice none 0 0]
  simpa using this
 have x0 := P1.out.at (i := 0) rfl;have x1 := P1.out.at (i := 1) rfl;have x2 := P1.out.at (i := 2) rfl;rw [← hW] at x0 x1 x2;have HF := hid (zJB (s := true) (f := true) (p := p) (hm0.now b0).chk);rw [zXC hp] at HF;have HWO : Hid (∀ w',Below W0.heap.size W0 w' → Calls Tryz.prog 33 #[matv r c (.slice a n cap),.int .u64 (p : Int)] w' (zyF w' p r c zs)) := fun w' q => worked12 hp ((hm0.now b0).now q) hK
 have G0 := hid b0;have EW := hid hW;obtain ⟨KL,hKL⟩ : ∃ KL,kerL p r c zs = KL := ⟨_,rfl⟩
 rw [hKL] at HKF ⊢;have HWU : Hid (∀ w' e x,zyF w' p r c zs e x → ∃ lv gs pa pcap,e = .returned (.tuple #[shv p (c + r) lv,.slice pa (wkR p r c zs) pcap]) ∧ Lns w'.heap.size x lv (c + r) gs (wkS p r c zs).m ∧ Below w'.heap.size w' x) := fun _ _ _ q => q
 obtain ⟨rk,hrk⟩ : ∃ rk,wkR p r c zs = rk := ⟨_,rfl⟩
 obtain ⟨S,hS⟩ : ∃ S,wkS p r c zs = S := ⟨_,rfl⟩
 rw [hrk] at HKF HRK HWU ⊢;rw [hS] at HKF HWU OKS;obtain ⟨N,hN⟩ : ∃ N,c + r = N := ⟨_,rfl⟩
 have HNN := hid hN;rw [hN] at HWU OKS;have HKW : Hid (WidE r KL) := by
  unfold Hid;rw [HKF.out];have := zsE (top := rk) (left := c) OKS.out.wid;rw [show N - c = r by omega] at this;exact this
 have HKR : Hid (ResM p KL) := by unfold Hid;rw [HKF.out];exact zuF OKS.out.res
 have HKN : Hid (KL.length = r - rk) := by unfold Hid;rw [HKF.out];exact zvF OKS.out.len
 clear b0 hW h hm0 hK hl hn hpr hp hKL hrk hS hN;go_enter Tryz.func12,Tryz.ntmps12;go_wp2_with fail;rw [EW.out];refine HF.out.mono ?_;rintro e w1 ⟨rfl,b1⟩;have q0 : ((0 : Int) != 0) = false := rfl;replace P1 := hid (P1.out.step b1);have z0 := P1.out.at (i := 0) rfl;have z1 := P1.out.at (i := 1) rfl;have z2 := P1.out.at (i := 2) rfl;have HW1 := hid (HWO.out _ b1);have G1 := hid (below_step G0.out b1);replace PR := hid (PR.out.step b1);clear HF b1 x0 x1 x2 EW G0 HWO;go_wp2_with fail;refine HW1.out.mono ?_;intro e w2 hwk;obtain ⟨lv,gs,pa,pcap,rfl,hln,b2⟩ := HWU.out _ _ _ hwk;clear hwk;have G2 := hid (below_step G1.out b2);obtain ⟨la,lcap,rfl,-,-⟩ := hln.form;rw [OKS.out.len] at hln ⊢;obtain ⟨V,hV⟩ : ∃ V,w2.alloc (shO p N (.slice la r lcap)) = V := ⟨_,rfl⟩
 obtain ⟨bV,szV⟩ := zJA w2 (shO p N (.slice la r lcap));rw [hV] at bV szV;have PB : Hid (Cel V w2.heap.size 67 (shc p N (.slice la r lcap))) := by unfold Hid;rw [← hV];exact Cel.new w2 _ _
 have HCO := hid (corner12 (p := p) (top := rk) (left := c) (hln.now bV) OKS.out.len hr (by have := HNN.out;omega) HRK.out (by have := HNN.out;omega) (fun _ => by have := HNN.out;omega));rw [← HKF.out] at HCO;have HNC : Hid (N - c = r) := by unfold Hid;have := HNN.out;omega
 rw [HNC.out] at HCO;replace PR := hid ((PR.out.step b2).step bV);replace P1 := hid ((P1.out.step b2).step bV);have y0 := PB.out.at (i := 0) rfl;have y1 := PB.out.at (i := 1) rfl;have y2 := PB.out.at (i := 2) rfl;have z1' := P1.out.at (i := 1) rfl;rw [← hV] at y0 y1 y2 z1';have EV := hid hV;have GV := hid (below_step G2.out bV);clear HW1 hln b2 z0 z1 z2 G1 G2 bV szV hV HWU;go_wp2_with fail;rw [EV.out];refine HCO.out.mono ?_;rintro e w4 ⟨lv4,rfl,hrd,b4⟩;obtain ⟨la4,lcap4,rfl,-,-⟩ := hrd.form;rw [HKN.out] at hrd ⊢;have HMT := hid (zEF (p := p) hrd HKW.out HKR.out hp2 HKN.out (by omega) hr);have PR4 := hid (PR.out.step b4);have G4 := hid (below_step GV.out b4);clear HCO hrd b4 y0 y1 y2 z1' EV GV PR PB P1;go_wp2_with fail;refine HMT.out.mono ?_;rintro e w5 ⟨v5,rfl,hm5,b5⟩;have PR5 := hid (PR4.out.step b5);have G5 := hid (below_step G4.out b5);obtain ⟨a5,q5,rfl,-,-⟩ := hm5.mx.form;obtain ⟨la9,hla⟩ : ∃ la9,(r - rk) * r = la9 := ⟨_,rfl⟩
 obtain ⟨r9,hr9⟩ : ∃ r9,r - rk = r9 := ⟨_,rfl⟩
 rw [hla] at hm5 ⊢;rw [hr9] at hm5 ⊢;have FIN : Hid (zAB w (r - rk) r KL.flatten 1 (.returned (.tuple #[.agg #[.int .i64 (r9 : Int),.int .i64 (r : Int),.slice a5 la9 q5],.int .i64 0])) (put3 w5 (w.heap.size + 1) (.int .i64 (r9 : Int)) (.int .i64 (r : Int)) (.slice a5 la9 q5))) := by
  unfold Hid;rw [hr9];exact ⟨_,rfl,hm5.wk PR5.out _ _ _,zWA G5.out (by omega) _ _ _⟩
 have PF := hid (PR5.out.put3 (.int .i64 (r9 : Int)) (.int .i64 (r : Int)) (.slice a5 la9 q5));have r0 := PR5.out.at (i := 0) rfl;have r1 := PR5.out.at (i := 1) rfl;have r2 := PR5.out.at (i := 2) rfl;have f0 := PR5.out.fz 0;have f1 := PR5.out.fz 1;have f2 := PR5.out.fz 2;clear HMT hm5 b5 PR4 G4 PR5 G5;go_wp2;exact bodyPost_ret (zwC Tryz.results12 PF.out _ (by rfl) (by rfl)) rfl FIN.out
end Go.Proofs.YtnfkibjoconphaaGreat
namespace Go.Proofs.YtnfkibjoconphaaGreat
section
variable {p : Nat} [NeZero p]
end
open Go.RowKit
theorem zAD {n : Nat} : ∀ {ls : List (List Int)} {i j : Nat},WidE n ls → i < ls.length → j < n → ls.flatten.getD (i * n + j) 0 = ent ls i j
 | [],i,j,_,hi,_ => by simp at hi
 | l :: ls,0,j,hw,_,hj => by
  have hl : l.length = n := hw l (by simp);have e : (l :: ls).flatten = l ++ ls.flatten := rfl;rw [e,Nat.zero_mul,Nat.zero_add];simp [ent,rowE,List.getElem?_append_left (show j < l.length by omega)]
 | l :: ls,i + 1,j,hw,hi,hj => by
  have hl : l.length = n := hw l (by simp);have e : (l :: ls).flatten = l ++ ls.flatten := rfl;have ih := zAD (ls := ls) (i := i) (j := j) (fun x hx => hw x (by simp [hx])) (by simpa using hi) hj;have e2 : ent (l :: ls) (i + 1) j = ent ls i j := by simp [ent,rowE]
  rw [e2,← ih,e];simp only [List.getD_eq_getElem?_getD];rw [List.getElem?_append_right (by rw [hl,Nat.succ_mul];omega)]
  congr 2
  rw [hl,Nat.succ_mul];omega
theorem ent_lines {p r c i j : Nat} {zs : List Int} (hl : zs.length = r * c) (hi : i < r) (hj : j < c) : ent (zHA p r c zs) i j = zs.getD (i * c + j) 0 % (p : Int) := by
 have h1 := zAD (n := c) (i := i) (j := j) (zSA (p := p) hl) (by rw [zOA];exact hi) hj;rw [← h1,zCE hl];have hlt : i * c + j < zs.length := by rw [hl];exact zkA hi hj
 simp [resL,hlt]
section
variable {p : Nat} [NeZero p]
theorem zNI : ∀ (n : Nat) (f : Nat → Int),(fp (su n f) : Fin p) = sm n fun k => fp (f k)
 | 0,f => zlB
 | n + 1,f => by
  show fp (su n f + f n) = sm n _ + fp (f n)
  rw [zdH,zNI n f]
def mz (c : Nat) (zs : List Int) (i j : Nat) : Fin p := fp (zs.getD (i * c + j) 0)
theorem zfD {r c i j : Nat} {zs : List Int} (hl : zs.length = r * c) (hi : i < r) (hj : j < c) : (mt (zHA p r c zs) i j : Fin p) = mz c zs i j := by
 unfold mt mz;rw [ent_lines hl hi hj,zcH]
theorem zqF (hp : IsPr p) {r c : Nat} {zs : List Int} (hl : zs.length = r * c) : Rref r c (mt (p := p) (zUA p (zHA p r c zs) c).m) (zUA p (zHA p r c zs) c).pv ∧ Eqv c r (mt (p := p) (zUA p (zHA p r c zs) c).m) (mz c zs) := by
 have hp2 := hp.1;obtain ⟨h1,h2⟩ := zUC hp (zSA (p := p) hl) (zZA (by omega)) (zOA _ _ _ _) c (Nat.le_refl _);refine ⟨h1,h2.trans ?_⟩;refine ⟨⟨dlt,fun i j hi hj => ?_⟩,⟨dlt,fun i j hi hj => ?_⟩⟩
 ·rw [zfD hl hi hj,zRF hi]
 ·rw [zRF hi,zfD hl hi hj]
theorem zPD {x : Nat} : ∀ {l : List Nat} {i a : Nat},l.Pairwise (· < ·) → l[i]? = some a → cntB l x ≤ i → x ≤ a
 | [],i,a,_,h,_ => by simp at h
 | b :: l,0,a,hp,h,hc => by
  simp at h;subst h;unfold cntB at hc;rw [List.countP_cons] at hc
  by_cases q : b < x
  ·simp [q] at hc
  ·omega
 | b :: l,i + 1,a,hp,h,hc => by
  obtain ⟨h1,h2⟩ := List.pairwise_cons.1 hp;have h' : l[i]? = some a := by simpa using h
  by_cases q : b < x
  ·refine zPD h2 h' ?_
   unfold cntB at hc ⊢;rw [List.countP_cons] at hc;simp [q] at hc;exact hc
  ·have := h1 a (List.mem_of_getElem? h')
   omega
theorem ker_zero (hp : IsPr p) {r c : Nat} {zs : List Int} (hl : zs.length = r * c) {i j : Nat} (hi : i < r - wkR p r c zs) (hj : j < c) : vm r (fun t => fp (ent (kerL p r c zs) i t)) (mz (p := p) c zs) j = 0 := by
 have hp2 := hp.1;have hwd := zqB (r := r) (zSA (p := p) hl) (zOA _ _ _ _);have hrs := zrB (r := r) hp2 (zZA (p := p) (r := r) (c := c) (zs := zs) (by omega));obtain ⟨h1,h2⟩ := zUC hp hwd hrs (zGB _ _) (c + r) (Nat.le_refl _);have ho := zBG (p := p) (c := c) (r := r) hp2 hl;have hst := znD hp hl
 change Rref r (c + r) (mt (p := p) (wkS p r c zs).m) (wkS p r c zs).pv at h1
 change Eqv (c + r) r (mt (p := p) (wkS p r c zs).m) (mt (p := p) (zXB r (zHA p r c zs))) at h2
 obtain ⟨X,hX⟩ := h2.1;obtain ⟨I,hI⟩ : ∃ I,wkR p r c zs + i = I := ⟨_,rfl⟩
 have hIr : I < r := by omega
 have wl : ∀ k j,k < r → j < c → (mt (zXB r (zHA p r c zs)) k j : Fin p) = mz c zs k j := fun k j hk hj => by
  rw [← zfD hl hk hj];unfold mt ent
  congr 1
  have e : rowE (zXB r (zHA p r c zs)) k = rowE (zHA p r c zs) k ++ uniR r k := by unfold rowE;rw [List.getD_eq_getElem?_getD,zoC hk];rfl
  rw [e];have hlen := (zSA (p := p) hl).at (i := k) (by rw [zOA];exact hk);simp [List.getElem?_append_left (show j < (rowE (zHA p r c zs) k).length by omega)]
 have wr_ : ∀ k t,k < r → t < r → (mt (zXB r (zHA p r c zs)) k (c + t) : Fin p) = dlt k t := fun k t hk ht => by
  unfold mt ent;have e : rowE (zXB r (zHA p r c zs)) k = rowE (zHA p r c zs) k ++ uniR r k := by unfold rowE;rw [List.getD_eq_getElem?_getD,zoC hk];rfl
  have hlen := (zSA (p := p) hl).at (i := k) (by rw [zOA];exact hk);have e2 : (rowE (zHA p r c zs) k ++ uniR r k).getD (c + t) 0 = if k = t then 1 else 0 := by
   rw [List.getD_eq_getElem?_getD,List.getElem?_append_right (by omega),hlen,Nat.add_sub_cancel_left];simp [uniR,ht]
  rw [e,e2];unfold dlt
  split
  ·exact zoF hp2
  ·exact zlB
 have hright : ∀ t,t < r → (fp (ent (kerL p r c zs) i t) : Fin p) = X I t := fun t ht => by
  have e : ent (kerL p r c zs) i t = ent (wkS p r c zs).m I (c + t) := by
   unfold kerL zOD ent rowE;rw [← hI];simp only [List.getD_eq_getElem?_getD,List.getElem?_map,List.getElem?_drop];have hb : wkR p r c zs + i < (wkS p r c zs).m.length := by rw [ho.len];omega
   rw [List.getElem?_eq_getElem hb];simp [List.getElem?_drop]
  rw [e];have := hX I (c + t) hIr (by omega)
  change (fp (ent (wkS p r c zs).m I (c + t)) : Fin p) = _ at this
  rw [this];unfold vm;rw [ziA (g := fun k => X I k * dlt k t) fun k hk => by rw [wr_ k t hk ht],zcE (i := t) ht fun k _ hne => by unfold dlt;rw [if_neg hne];grind];unfold dlt;grind
 have hleft : (mt (wkS p r c zs).m I j : Fin p) = 0 := by
  by_cases q : I < (wkS p r c zs).pv.length
  ·have e : (wkS p r c zs).pv[I]? = some ((wkS p r c zs).pv[I]) := List.getElem?_eq_getElem q
   have := zPD (x := c) hst e (by show wkR p r c zs ≤ I;omega);exact h1.low I _ j e (by omega)
  ·exact h1.zer I j (by omega) hIr (by omega)
 rw [zTC (y := X I) (B := mt (zXB r (zHA p r c zs))) hright fun k hk => (wl k j hk hj).symm,← hX I j hIr (by omega)];exact hleft
end
theorem turnZ_len (r c : Nat) (zs : List Int) : (zsD r c zs).length = c * r := by unfold zsD;exact ztD _ _ _ _ _
section
variable {p : Nat} [NeZero p]
omit [NeZero p] in
theorem zfH {m : List (List Int)} {n r c : Nat} (hp : 2 ≤ p) (hw : WidE n m) (hr : ResM p m) (hl : m.length = r) : ∀ k,cntB (zUA p m (c + k)).pv c = (zUA p m c).pv.length
 | 0 => by
  have h := (Ok12.red hp hw hr hl c).pvc;unfold cntB;rw [Nat.add_zero,List.countP_eq_length];exact fun a ha => by simpa using h a ha
 | k + 1 => by
  rw [← zfH hp hw hr hl k]
  show cntB (zbB p (c + k) (zUA p m (c + k))).pv c = _
  unfold zbB
  split
  ·rfl
  ·show cntB ((zUA p m (c + k)).pv ++ [c + k]) c = _
   unfold cntB;rw [List.countP_append]
   simp
theorem wkR_rank (hp : IsPr p) {r c : Nat} {zs : List Int} (hl : zs.length = r * c) : wkR p r c zs = (zUA p (zHA p r c zs) c).pv.length := by
 have hp2 := hp.1;have hwd := zqB (r := r) (zSA (p := p) hl) (zOA _ _ _ _);have hrs := zrB (r := r) hp2 (zZA (p := p) (r := r) (c := c) (zs := zs) (by omega));unfold wkR wkS;rw [zfH hp2 hwd hrs (zGB _ _) r];obtain ⟨h1,h2⟩ := zUC hp hwd hrs (zGB _ _) c (by omega);obtain ⟨g1,g2⟩ := zqF hp hl;have wl : ∀ k j,k < r → j < c → (mt (zXB r (zHA p r c zs)) k j : Fin p) = mz c zs k j := fun k j hk hj => by
  rw [← zfD hl hk hj];unfold mt ent
  congr 1
  have e : rowE (zXB r (zHA p r c zs)) k = rowE (zHA p r c zs) k ++ uniR r k := by unfold rowE;rw [List.getD_eq_getElem?_getD,zoC hk];rfl
  rw [e];have hlen := (zSA (p := p) hl).at (i := k) (by rw [zOA];exact hk);simp [List.getElem?_append_left (show j < (rowE (zHA p r c zs) k).length by omega)]
 have h3 : Eqv c r (mt (p := p) (zUA p (zXB r (zHA p r c zs)) c).m) (mz c zs) := by
  obtain ⟨⟨X,hX⟩,⟨Y,hY⟩⟩ := h2;refine ⟨⟨X,fun i j hi hj => ?_⟩,⟨Y,fun i j hi hj => ?_⟩⟩
  ·rw [hX i j hi (by omega)]
   exact zTC (fun _ _ => rfl) fun k hk => wl k j hk hj
  ·rw [← wl i j hi hj,hY i j hi (by omega)]
 rw [(h1.unique (zvG hp) g1 (h3.trans g2.symm)).1]
end
end Go.Proofs.YtnfkibjoconphaaGreat
namespace Go.Proofs.YtnfkibjoconphaaGreat
structure Rz12 (r c : Nat) (ms : List (List Int)) (pv : List Nat) : Prop where
 len : pv.length ≤ r
 inc : ∀ s t,s < t → t < pv.length → pv.getD s 0 < pv.getD t 0
 lt : ∀ t,t < pv.length → pv.getD t 0 < c
 one : ∀ t i,t < pv.length → i < r → ent ms i (pv.getD t 0) = if i = t then 1 else 0
 low : ∀ t j,t < pv.length → j < pv.getD t 0 → ent ms t j = 0
 zer : ∀ i j,pv.length ≤ i → i < r → j < c → ent ms i j = 0
theorem zTH {p : Nat} {ms : List (List Int)} (hp : 0 < p) (h : ResM p ms) (i j : Nat) : IsR p (ent ms i j) := (h.at i).getD hp j
section
variable {p : Nat} [NeZero p]
theorem Rref.rz12 (hp : IsPr p) {r c : Nat} {ms : List (List Int)} {pv : List Nat} (hr : ResM p ms) (h : Rref r c (mt (p := p) ms) pv) : Rz12 r c ms pv := by
 have hp2 := hp.1;have at_ : ∀ t,t < pv.length → pv[t]? = some (pv.getD t 0) := fun t ht => by simp [ht]
 have z0 : ∀ i j,(mt (p := p) ms i j) = 0 → ent ms i j = 0 := fun i j e => (fp_is_zero (zTH (by omega) hr i j)).1 e
 refine ⟨h.len,fun s t hst ht => h.inc s t _ _ hst (at_ s (by omega)) (at_ t ht),fun t ht => h.lt t _ (at_ t ht),fun t i ht hi => ?_,fun t j ht hj => z0 t j (h.low t _ j (at_ t ht) hj),fun i j h1 h2 h3 => z0 i j (h.zer i j h1 h2 h3)⟩;have e := h.one t _ i (at_ t ht) hi;unfold dlt at e
 by_cases q : i = t
 ·rw [if_pos q] at e ⊢
  refine fp_inj (p := p) (zTH (by omega) hr i _) ⟨by omega,by omega⟩ ?_;rw [zoF hp2];exact e
 ·rw [if_neg q] at e ⊢
  exact z0 _ _ e
theorem ech_rz12 (hp : IsPr p) {r c : Nat} {zs : List Int} (hl : zs.length = r * c) : Rz12 r c (zUA p (zHA p r c zs) c).m (zUA p (zHA p r c zs) c).pv := by
 have ho := Ok12.red (p := p) hp.1 (zSA (p := p) hl) (zZA (p := p) (r := r) (c := c) (zs := zs) (by have := hp.1;omega)) (zOA _ _ _ _) c;exact (zqF hp hl).1.rz12 hp ho.res
theorem rank_turn12 (hp : IsPr p) {r c : Nat} {zs : List Int} (hl : zs.length = r * c) : (zUA p (zHA p c r (zsD r c zs)) r).pv.length = (zUA p (zHA p r c zs) c).pv.length := by
 have F := zvG hp;have h1 := zqF hp hl;have h2 := zqF hp (zs := zsD r c zs) (turnZ_len r c zs);have e : ∀ i j,i < r → j < c → (mz (p := p) r (zsD r c zs) j i) = mz c zs i j := fun i j hi hj => by
  unfold mz;rw [turnZ_at hi hj]
 refine Nat.le_antisymm ?_ ?_
 ·refine zVD F h1.1 h1.2.2 h2.1 ?_
  obtain ⟨U,hU⟩ := h2.2.1;exact ⟨U,fun j i hj hi => by rw [hU j i hj hi];exact zTC (fun _ _ => rfl) fun k hk => e i k hi hk⟩
 ·refine zVD F h2.1 h2.2.2 h1.1 ?_
  obtain ⟨U,hU⟩ := h1.2.1;exact ⟨U,fun i j hi hj => by rw [hU i j hi hj];exact zTC (fun _ _ => rfl) fun k hk => (e k j hk hj).symm⟩
theorem wide_right12 (hp : IsPr p) {r c : Nat} {zs : List Int} (hl : zs.length = r * c) {k t : Nat} (hk : k < r) (ht : t < r) : (mt (zXB r (zHA p r c zs)) k (c + t) : Fin p) = dlt k t := by
 unfold mt ent;have e : rowE (zXB r (zHA p r c zs)) k = rowE (zHA p r c zs) k ++ uniR r k := by unfold rowE;rw [List.getD_eq_getElem?_getD,zoC hk];rfl
 have hlen := (zSA (p := p) hl).at (i := k) (by rw [zOA];exact hk);have e2 : (rowE (zHA p r c zs) k ++ uniR r k).getD (c + t) 0 = if k = t then 1 else 0 := by
  rw [List.getD_eq_getElem?_getD,List.getElem?_append_right (by omega),hlen,Nat.add_sub_cancel_left];simp [uniR,ht]
 rw [e,e2];unfold dlt
 split
 ·exact zoF hp.1
 ·exact zlB
theorem zPF (hp : IsPr p) {r c : Nat} {zs : List Int} (hl : zs.length = r * c) : Rref r (c + r) (mt (p := p) (wkS p r c zs).m) (wkS p r c zs).pv ∧ Eqv (c + r) r (mt (p := p) (wkS p r c zs).m) (mt (p := p) (zXB r (zHA p r c zs))) :=
 zUC hp (zqB (r := r) (zSA (p := p) hl) (zOA _ _ _ _)) (zrB (r := r) hp.1 (zZA (p := p) (r := r) (c := c) (zs := zs) (by have := hp.1;omega))) (zGB _ _) (c + r) (Nat.le_refl _)
theorem zQF (hp : IsPr p) {r c : Nat} {zs : List Int} (hl : zs.length = r * c) : (wkS p r c zs).pv.length = r := by
 obtain ⟨h1,h2⟩ := zPF hp hl;obtain ⟨U,hU⟩ := h2.2;refine Nat.le_antisymm h1.len (zHI (zvG hp) (Z := U) (Y := fun s t => mt (p := p) (wkS p r c zs).m s (c + t)) fun i j hi hj => ?_);rw [← wide_right12 hp hl hi hj,hU i (c + j) hi (by omega)];unfold vm;exact zcG h1.len fun k hk1 hk2 => by rw [h1.zer k (c + j) hk1 hk2 (by omega)];grind
omit [NeZero p] in
theorem ker_ent12 (hp : IsPr p) {r c : Nat} {zs : List Int} (hl : zs.length = r * c) {i : Nat} (hi : i < r - wkR p r c zs) (j : Nat) : ent (kerL p r c zs) i j = ent (wkS p r c zs).m (wkR p r c zs + i) (c + j) := by
 have ho := zBG (p := p) (c := c) (r := r) hp.1 hl;unfold kerL zOD ent rowE;simp only [List.getD_eq_getElem?_getD,List.getElem?_map,List.getElem?_drop];have hb : wkR p r c zs + i < (wkS p r c zs).m.length := by rw [ho.len];omega
 rw [List.getElem?_eq_getElem hb];simp [List.getElem?_drop]
theorem ker_rz12 (hp : IsPr p) {r c : Nat} {zs : List Int} (hl : zs.length = r * c) : Rz12 (r - wkR p r c zs) r (kerL p r c zs) (((wkS p r c zs).pv.drop (wkR p r c zs)).map (· - c)) := by
 have ho := zBG (p := p) (c := c) (r := r) hp.1 hl;have h := (zPF hp hl).1.rz12 hp ho.res;have hf := zQF hp hl;have hst := znD hp hl;obtain ⟨R,hR⟩ : ∃ R,wkR p r c zs = R := ⟨_,rfl⟩
 obtain ⟨pv,hpv⟩ : ∃ pv,(wkS p r c zs).pv = pv := ⟨_,rfl⟩
 have ke := fun i hi j => ker_ent12 hp hl (i := i) hi j
 have hc : ∀ t,R ≤ t → t < r → c ≤ pv.getD t 0 := fun t h1 h2 => by
  have e : (wkS p r c zs).pv[t]? = some (pv.getD t 0) := by rw [hpv];simp [show t < pv.length by rw [← hpv,hf];exact h2]
  exact zPD (x := c) hst e (by show wkR p r c zs ≤ t;omega)
 rw [hR] at ke ⊢;rw [hpv] at h hf ⊢;have ln : ((pv.drop R).map (· - c)).length = r - R := by simp [hf]
 have gd : ∀ t,t < r - R → ((pv.drop R).map (· - c)).getD t 0 = pv.getD (R + t) 0 - c := fun t ht => by
  simp [List.getD_eq_getElem?_getD,List.getElem?_drop,show R + t < pv.length by omega]
 refine ⟨by rw [ln];exact Nat.le_refl _,fun s t hst ht => ?_,fun t ht => ?_,fun t i ht hi => ?_,fun t j ht hj => ?_,fun i j h1 h2 _ => by omega⟩
 ·rw [ln] at ht
  rw [gd s (by omega),gd t ht];have := h.inc (R + s) (R + t) (by omega) (by omega);have := hc (R + s) (by omega) (by omega);omega
 ·rw [ln] at ht
  rw [gd t ht];have := h.lt (R + t) (by omega);have := hc (R + t) (by omega) (by omega);omega
 ·rw [ln] at ht
  rw [gd t ht,ke i hi];have h1 := hc (R + t) (by omega) (by omega);rw [show c + (pv.getD (R + t) 0 - c) = pv.getD (R + t) 0 by omega,h.one (R + t) (R + i) (by omega) (by omega)]
  by_cases q : i = t
  ·rw [if_pos q,if_pos (by omega)]
  ·rw [if_neg q,if_neg (by omega)]
 ·rw [ln] at ht
  rw [gd t ht] at hj;rw [ke t ht];exact h.low (R + t) (c + j) (by omega) (by omega)
theorem ker_mul12 (hp : IsPr p) {r c : Nat} {zs : List Int} (hl : zs.length = r * c) (hw : WidE r (kerL p r c zs)) (hk : (kerL p r c zs).length = r - wkR p r c zs) : ∀ z ∈ mulL (r - wkR p r c zs) r c (kerL p r c zs).flatten zs,z % (p : Int) = 0 := fun z hz => by
 unfold mulL at hz;simp only [List.mem_map,List.mem_range] at hz;obtain ⟨t,ht,rfl⟩ := hz;have hc0 : 0 < c := Nat.pos_of_ne_zero fun e => by subst e;simp at ht
 have hi : t / c < r - wkR p r c zs := Nat.div_lt_of_lt_mul (by rw [Nat.mul_comm];exact ht);have hj : t % c < c := Nat.mod_lt _ hc0;have h0 := ker_zero hp hl hi hj;have e : (fp (mulE r c (kerL p r c zs).flatten zs t) : Fin p) = 0 := by
  rw [← h0];unfold mulE mulF;rw [zNI];unfold vm;exact ziA fun k hk' => by rw [zmE,zAD hw (by rw [hk];exact hi) hk'];rfl
 rw [← zlB] at e;have := zpF.1 e
 simpa using this
theorem ech_row12 (hp : IsPr p) {r c : Nat} {zs : List Int} (hl : zs.length = r * c) {i j : Nat} (hi : i < r) (hj : j < c) :
  (su r (fun t => (if t < (zUA p (zHA p r c zs) c).pv.length then zs.getD (i * c + (zUA p (zHA p r c zs) c).pv.getD t 0) 0 else 0) * ent (zUA p (zHA p r c zs) c).m t j) - zs.getD (i * c + j) 0) % (p : Int) = 0 := by
 obtain ⟨h1,h2⟩ := zqF hp hl;obtain ⟨U,hU⟩ := h2.2;have e1 := h1.coords (v := mz (p := p) c zs i) (x := U i) (fun j hj => hU i j hi hj) hj;have e2 : (fp (su r (fun t => (if t < (zUA p (zHA p r c zs) c).pv.length then zs.getD (i * c + (zUA p (zHA p r c zs) c).pv.getD t 0) 0 else 0) * ent (zUA p (zHA p r c zs) c).m t j) - zs.getD (i * c + j) 0) : Fin p) = 0 := by
  rw [zFI,zNI];have e3 : sm r (fun t => (fp ((if t < (zUA p (zHA p r c zs) c).pv.length then zs.getD (i * c + (zUA p (zHA p r c zs) c).pv.getD t 0) 0 else 0) * ent (zUA p (zHA p r c zs) c).m t j) : Fin p)) = vm (zUA p (zHA p r c zs) c).pv.length (fun t => mz (p := p) c zs i ((zUA p (zHA p r c zs) c).pv.getD t 0)) (mt (p := p) (zUA p (zHA p r c zs) c).m) j := by
   unfold vm;rw [zcG h1.len fun k hk1 hk2 => by rw [if_neg (by omega),Int.zero_mul];exact zlB];exact ziA fun k hk => by rw [if_pos hk,zmE];rfl
  rw [e3,← e1];unfold mz
  grind
 rw [← zlB] at e2;have := zpF.1 e2
 simpa using this
end
end Go.Proofs.YtnfkibjoconphaaGreat
