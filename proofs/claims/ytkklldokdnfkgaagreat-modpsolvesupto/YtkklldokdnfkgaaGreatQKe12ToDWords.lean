/-
 QKe12ToDWords: Ke12, Dz12, Du12, Rc12, ZDivs, DWords, joined.
-/
import Derived.Test.YtkklldokdnfkgaaGreatQCa12ToWq12
import Derived.Test.YtkklldokdnfkgaaGreatQCo12
import Derived.Test.YtkklldokdnfkgaaGreatQEach9ToPr12
import Derived.Test.YtkklldokdnfkgaaGreatQCw12ToTy9
import Derived.Test.YtkklldokdnfkgaaGreatQZModToZSmall
import Derived.Test.YtkklldokdnfkgaaGreatQZStoreToLst9
import Derived.Test.YtkklldokdnfkgaaGreatQWordsToCarry

set_option maxRecDepth 100000
set_option maxHeartbeats 6400000
set_option linter.unusedVariables false
set_option linter.unusedSimpArgs false
namespace Go.Proofs.YtkklldokdnfkgaaGreat
open Go.RowKit
theorem zqE {N top left : Nat} {ms : List (List Int)} (h : WidE N ms) : WidE (N - left) (zdD top left ms) := fun l hl => by
 obtain ⟨x,hx,rfl⟩ := List.mem_map.1 hl;rw [List.length_drop,h x (List.mem_of_mem_drop hx)]
theorem cornL_res {p top left : Nat} {ms : List (List Int)} (h : ResM p ms) : ResM p (zdD top left ms) := fun l hl => by
 obtain ⟨x,hx,rfl⟩ := List.mem_map.1 hl;exact fun y hy => h x (List.mem_of_mem_drop hx) y (List.mem_of_mem_drop hy)
theorem zoF {top left r : Nat} {ms : List (List Int)} (h : ms.length = r) : (zdD top left ms).length = r - top := by simp [zdD,h]
def kerL (p r c : Nat) (zs : List Int) : List (List Int) := zdD (wkR p r c zs) c (wkS p r c zs).m
theorem kernel12 {w : World} {v : Value} {p r c : Nat} {zs : List Int} {K : Nat} (hp : gdB p = true) (h : Mx w v r c zs K) (hK : K ≤ 1099511627775) :
  Calls Tryz.prog 7 #[v,.int .u64 (p : Int)] w (zRC w (r - wkR p r c zs) r (kerL p r c zs).flatten 1) := by
 obtain ⟨hpr,hp2⟩ := zXC hp;have hp1 := hpr.1;have hm0 := h;obtain ⟨a,cap,rfl,hr,hc⟩ := h.form;have hl : zs.length = r * c := by obtain ⟨_,_,_,_,_,q,_⟩ := hm0;exact q
 have OKS := hid (zUE (p := p) (c := c) (r := r) hp1 hl);have HKF : Hid (kerL p r c zs = zdD (wkR p r c zs) c (wkS p r c zs).m) := rfl;have HRK : Hid (wkR p r c zs ≤ r) := Nat.le_trans (zNC _ _) OKS.out.piv;obtain ⟨n,hn⟩ : ∃ n,r * c = n := ⟨_,rfl⟩
 rw [hn] at hm0 ⊢;obtain ⟨W0,hW⟩ : ∃ W0,(w.alloc (mrO (r : Int) (c : Int) a n cap)).alloc mbox = W0 := ⟨_,rfl⟩
 have b0 : Below w.heap.size w W0 := by rw [← hW];exact ((Below.refl _ _).alloc (Nat.le_refl _) _).alloc (by simp) _
 have P1 : Hid (Cel W0 w.heap.size 24 (mrC (r : Int) (c : Int) a n cap)) := by unfold Hid;rw [← hW];exact (Cel.new w _ _).step (zVA _ _).1
 have PR : Hid (Cel W0 (w.heap.size + 1) 24 [.int .i64 0,.int .i64 0,.slice none 0 0]) := by
  unfold Hid;rw [← hW];have := Cel.new (w.alloc (mrO (r : Int) (c : Int) a n cap)) 24 [.int .i64 0,.int .i64 0,.slice none 0 0]
  simpa using this
 have x0 := P1.out.at (i := 0) rfl;have x1 := P1.out.at (i := 1) rfl;have x2 := P1.out.at (i := 2) rfl;rw [← hW] at x0 x1 x2;have HF := hid (zIE (s := true) (f := true) (p := p) (hm0.now b0).chk);rw [zOD hp] at HF;have HWO : Hid (∀ w',Below W0.heap.size W0 w' → Calls Tryz.prog 20 #[matv r c (.slice a n cap),.int .u64 (p : Int)] w' (zrF w' p r c zs)) := fun w' q => worked12 hp ((hm0.now b0).now q) hK
 have G0 := hid b0;have EW := hid hW;obtain ⟨KL,hKL⟩ : ∃ KL,kerL p r c zs = KL := ⟨_,rfl⟩
 rw [hKL] at HKF ⊢;have HWU : Hid (∀ w' e x,zrF w' p r c zs e x → ∃ lv gs pa pcap,e = .returned (.tuple #[shv p (c + r) lv,.slice pa (wkR p r c zs) pcap]) ∧ Lns w'.heap.size x lv (c + r) gs (wkS p r c zs).m ∧ Below w'.heap.size w' x) := fun _ _ _ q => q
 obtain ⟨rk,hrk⟩ : ∃ rk,wkR p r c zs = rk := ⟨_,rfl⟩
 obtain ⟨S,hS⟩ : ∃ S,wkS p r c zs = S := ⟨_,rfl⟩
 rw [hrk] at HKF HRK HWU ⊢;rw [hS] at HKF HWU OKS;obtain ⟨N,hN⟩ : ∃ N,c + r = N := ⟨_,rfl⟩
 have HNN := hid hN;rw [hN] at HWU OKS;have HKW : Hid (WidE r KL) := by
  unfold Hid;rw [HKF.out];have := zqE (top := rk) (left := c) OKS.out.wid;rw [show N - c = r by omega] at this;exact this
 have HKR : Hid (ResM p KL) := by unfold Hid;rw [HKF.out];exact cornL_res OKS.out.res
 have HKN : Hid (KL.length = r - rk) := by unfold Hid;rw [HKF.out];exact zoF OKS.out.len
 clear b0 hW h hm0 hK hl hn hpr hp hKL hrk hS hN;go_enter Tryz.func7,Tryz.ntmps7;go_wp2_with fail;rw [EW.out];refine HF.out.mono ?_;rintro e w1 ⟨rfl,b1⟩;have q0 : ((0 : Int) != 0) = false := rfl;replace P1 := hid (P1.out.step b1);have z0 := P1.out.at (i := 0) rfl;have z1 := P1.out.at (i := 1) rfl;have z2 := P1.out.at (i := 2) rfl;have HW1 := hid (HWO.out _ b1);have G1 := hid (below_step G0.out b1);replace PR := hid (PR.out.step b1);clear HF b1 x0 x1 x2 EW G0 HWO;go_wp2_with fail;refine HW1.out.mono ?_;intro e w2 hwk;obtain ⟨lv,gs,pa,pcap,rfl,hln,b2⟩ := HWU.out _ _ _ hwk;clear hwk;have G2 := hid (below_step G1.out b2);obtain ⟨la,lcap,rfl,-,-⟩ := hln.form;rw [OKS.out.len] at hln ⊢;obtain ⟨V,hV⟩ : ∃ V,w2.alloc (shO p N (.slice la r lcap)) = V := ⟨_,rfl⟩
 obtain ⟨bV,szV⟩ := zVA w2 (shO p N (.slice la r lcap));rw [hV] at bV szV;have PB : Hid (Cel V w2.heap.size 54 (shc p N (.slice la r lcap))) := by unfold Hid;rw [← hV];exact Cel.new w2 _ _
 have HCO := hid (corner12 (p := p) (top := rk) (left := c) (hln.now bV) OKS.out.len hr (by have := HNN.out;omega) HRK.out (by have := HNN.out;omega) (fun _ => by have := HNN.out;omega));rw [← HKF.out] at HCO;have HNC : Hid (N - c = r) := by unfold Hid;have := HNN.out;omega
 rw [HNC.out] at HCO;replace PR := hid ((PR.out.step b2).step bV);replace P1 := hid ((P1.out.step b2).step bV);have y0 := PB.out.at (i := 0) rfl;have y1 := PB.out.at (i := 1) rfl;have y2 := PB.out.at (i := 2) rfl;have z1' := P1.out.at (i := 1) rfl;rw [← hV] at y0 y1 y2 z1';have EV := hid hV;have GV := hid (below_step G2.out bV);clear HW1 hln b2 z0 z1 z2 G1 G2 bV szV hV HWU;go_wp2_with fail;rw [EV.out];refine HCO.out.mono ?_;rintro e w4 ⟨lv4,rfl,hrd,b4⟩;obtain ⟨la4,lcap4,rfl,-,-⟩ := hrd.form;rw [HKN.out] at hrd ⊢;have HMT := hid (matrix12 (p := p) hrd HKW.out HKR.out hp2 HKN.out (by omega) hr);have PR4 := hid (PR.out.step b4);have G4 := hid (below_step GV.out b4);clear HCO hrd b4 y0 y1 y2 z1' EV GV PR PB P1;go_wp2_with fail;refine HMT.out.mono ?_;rintro e w5 ⟨v5,rfl,hm5,b5⟩;have PR5 := hid (PR4.out.step b5);have G5 := hid (below_step G4.out b5);obtain ⟨a5,q5,rfl,-,-⟩ := hm5.mx.form;obtain ⟨la9,hla⟩ : ∃ la9,(r - rk) * r = la9 := ⟨_,rfl⟩
 obtain ⟨r9,hr9⟩ : ∃ r9,r - rk = r9 := ⟨_,rfl⟩
 rw [hla] at hm5 ⊢;rw [hr9] at hm5 ⊢;have FIN : Hid (zRC w (r - rk) r KL.flatten 1 (.returned (.tuple #[.agg #[.int .i64 (r9 : Int),.int .i64 (r : Int),.slice a5 la9 q5],.int .i64 0])) (put3 w5 (w.heap.size + 1) (.int .i64 (r9 : Int)) (.int .i64 (r : Int)) (.slice a5 la9 q5))) := by
  unfold Hid;rw [hr9];exact ⟨_,rfl,hm5.wk PR5.out _ _ _,zgA G5.out (by omega) _ _ _⟩
 have PF := hid (PR5.out.put3 (.int .i64 (r9 : Int)) (.int .i64 (r : Int)) (.slice a5 la9 q5));have r0 := PR5.out.at (i := 0) rfl;have r1 := PR5.out.at (i := 1) rfl;have r2 := PR5.out.at (i := 2) rfl;have f0 := PR5.out.fz 0;have f1 := PR5.out.fz 1;have f2 := PR5.out.fz 2;clear HMT hm5 b5 PR4 G4 PR5 G5;go_wp2;exact bodyPost_ret (zeH Tryz.results7 PF.out _ (by rfl) (by rfl)) rfl FIN.out
end Go.Proofs.YtkklldokdnfkgaaGreat
namespace Go.Proofs.YtkklldokdnfkgaaGreat
def su : Nat → (Nat → Int) → Int
 | 0,_ => 0
 | n + 1,f => su n f + f n
section
variable {n : Nat} {F : (Nat → Nat → Int) → Int}
end

open Go.RowKit
def RCk (w : World) (e : Ending) (w' : World) : Prop := e = .returned (.int .i64 0) ∧ Below w.heap.size w w'
theorem zgG {w : World} {r c : Nat} {a : Option Addr} {l cap : Nat} (hr : r ≤ 64) (hc : c ≤ 64) (hl : l = r * c) : Calls Tryz.prog 24 #[matv r c (.slice a l cap)] w (RCk w) := by
 obtain ⟨W0,hW⟩ : ∃ W0,w.alloc (matO r c (.slice a l cap)) = W0 := ⟨_,rfl⟩
 obtain ⟨b0,sz0⟩ := alo1 w (matO r c (.slice a l cap));rw [hW] at b0 sz0;have P1 : Hid (Cel W0 w.heap.size 24 (matc r c (.slice a l cap))) := by unfold Hid;rw [← hW];exact Cel.new w _ _
 have x0 := P1.out.at (i := 0) rfl;have x1 := P1.out.at (i := 1) rfl;have x2 := P1.out.at (i := 2) rfl;rw [← hW] at x0 x1 x2;have G0 := hid b0;have EW := hid hW;clear b0 sz0 hW P1;have h1 : ¬ (r : Int) < 0 := by omega
 have h2 : ¬ (64 : Int) < (r : Int) := by omega
 have h3 : ¬ (c : Int) < 0 := by omega
 have h4 : ¬ (64 : Int) < (c : Int) := by omega
 have hw := zGC (i := r) (c := c) hr hc;rw [← hl] at hw;have hw2 := hw;rw [IntKind.wrap_i64] at hw2;have q0 : ((l : Int) != (l : Int)) = false := by simp
 clear hl;go_enter Tryz.func24,Tryz.ntmps24;go_wp2;rw [EW.out];go_ret;exact ⟨rfl,G0.out⟩
theorem rcheckM {w : World} {v : Value} {r c : Nat} {zs : List Int} {K0 : Nat} (h : Mx w v r c zs K0) : ∀ w',Below w.heap.size w w' → Calls Tryz.prog 24 #[v] w' (RCk w') := fun w' hb => by
 obtain ⟨a,cap,rfl,h1,h2⟩ := h.form;exact zgG h1 h2 rfl
def zPG (w : World) (r c n : Nat) (e : Ending) (w' : World) : Prop := ∃ g,e = .returned (matv r c (.slice (some ⟨g,0,none⟩) n n)) ∧ w.heap.size ≤ g ∧ Arr w' g (List.replicate n ztF) ∧ Below w.heap.size w w'
theorem rblank12 {w : World} {r c n : Nat} (hr : r ≤ 64) (hc : c ≤ 64) (hn : r * c = n) : Calls Tryz.prog 50 #[.int .i64 (r : Int),.int .i64 (c : Int)] w (zPG w r c n) := by
 obtain ⟨W0,hW⟩ : ∃ W0,w.alloc mbox = W0 := ⟨_,rfl⟩
 obtain ⟨b0,sz0⟩ := alo1 w mbox;rw [hW] at b0 sz0;have P4 := hid (zCF hW);have hm0 := zGC (i := r) (c := c) hr hc;have hrc : r * c ≤ 64 * 64 := Nat.mul_le_mul hr hc;rw [hn] at hm0 hrc;have hm2 := hm0;rw [IntKind.wrap_i64] at hm2;have G0 := hid b0;have EW := hid hW;have SZ := hid sz0;clear b0 hW sz0 hn;go_enter Tryz.func50,Tryz.ntmps50;go_wp2_with (at_make;rw [EW.out];refine zvA _ rfl _ _ rfl _ _ n n rfl rfl rfl rfl (Nat.le_refl _) (by omega) ?_)
 intro w2 hrow hb2 hsz2;have PR := hid (P4.out.step hb2);have r0 := PR.out.at (i := 0) rfl;have r1 := PR.out.at (i := 1) rfl;have r2 := PR.out.at (i := 2) rfl;have f0 := PR.out.fz 0;have f1 := PR.out.fz 1;have f2 := PR.out.fz 2;have FIN : Hid (zPG w r c n (.returned (.agg #[.int .i64 (r : Int),.int .i64 (c : Int),.slice (some ⟨W0.heap.size,0,none⟩) n n])) (put3 w2 w.heap.size (.int .i64 (r : Int)) (.int .i64 (c : Int)) (.slice (some ⟨W0.heap.size,0,none⟩) n n))) :=
  ⟨_,rfl,by have := SZ.out;omega,hrow.put3 (by have := SZ.out;omega) _ _ _,zgA (below_step G0.out hb2) (Nat.le_refl _) _ _ _⟩
 have PF := hid (PR.out.put3 (.int .i64 (r : Int)) (.int .i64 (c : Int)) (.slice (some ⟨W0.heap.size,0,none⟩) n n));clear P4 hrow hb2 hsz2 G0 EW;go_wp2;exact bodyPost_ret (zhI Tryz.results50 PF.out _ (by rfl)) rfl FIN.out
theorem zDH (w : World) (o1 : Obj) : Below w.heap.size w (w.alloc o1) ∧ (w.alloc o1).heap.size = w.heap.size + 1 := ⟨(Below.refl _ _).alloc (Nat.le_refl _) _,by simp⟩
end Go.Proofs.YtkklldokdnfkgaaGreat
namespace Go.Proofs.YtkklldokdnfkgaaGreat
def dwB : Int := 65536
def IsD (x : Int) : Prop := 0 ≤ x ∧ x < dwB
def DF (xs : List Int) : Prop := ∀ x ∈ xs,IsD x
def dval : List Int → Int
 | [] => 0
 | x :: r => x + dwB * dval r
def dwid : List Int → Nat
 | [] => 0
 | x :: r => if dwid r = 0 then (if x = 0 then 0 else 1) else dwid r + 1
def dpw : Nat → Int
 | 0 => 1
 | n + 1 => dwB * dpw n
def zcD (xs : List Int) : Prop := DF xs ∧ dwid xs = xs.length
theorem DF.nil : DF [] := fun x h => by cases h
theorem DF.cons {x : Int} {r : List Int} (hx : IsD x) (hr : DF r) : DF (x :: r) := by
 intro y hy;rcases List.mem_cons.1 hy with rfl | h
 ·exact hx
 ·exact hr y h
theorem DF.head {x : Int} {r : List Int} (h : DF (x :: r)) : IsD x := h x (by simp)
theorem DF.tail {x : Int} {r : List Int} (h : DF (x :: r)) : DF r := fun y hy => h y (by simp [hy])
theorem DF.take {xs : List Int} (h : DF xs) (n : Nat) : DF (xs.take n) := fun x hx => h x (List.mem_of_mem_take hx)
theorem DF.append {xs ys : List Int} (h : DF xs) (k : DF ys) : DF (xs ++ ys) := by
 intro x hx;rcases List.mem_append.1 hx with q | q
 ·exact h x q
 ·exact k x q
theorem DF.get {xs : List Int} (h : DF xs) {i : Nat} (hi : i < xs.length) : IsD xs[i] := h _ (List.getElem_mem hi)
theorem DF.set {xs : List Int} (h : DF xs) (i : Nat) {x : Int} (hx : IsD x) : DF (xs.set i x) := by
 intro y hy;rcases List.mem_or_eq_of_mem_set hy with q | rfl
 ·exact h y q
 ·exact hx
theorem zTB : ∀ {xs : List Int},DF xs → 0 ≤ dval xs
 | [],_ => by simp [dval]
 | x :: r,h => by
  have h1 := h.head;have h2 := zTB h.tail;unfold IsD dwB at h1;unfold dval dwB;omega
theorem zlC : ∀ xs : List Int,dwid xs ≤ xs.length
 | [] => by simp [dwid]
 | x :: r => by
  have := zlC r;unfold dwid;split
  ·split <;> simp
  ·simp;omega
theorem zyB : ∀ xs : List Int,dwid xs = 0 → dval xs = 0
 | [],_ => rfl
 | x :: r,h => by
  unfold dwid at h
  split at h
  ·rename_i h0
   have := zyB r h0
   split at h
   ·rename_i hx;simp [dval,hx,this]
   ·cases h
  ·cases h
theorem zMC : ∀ {xs : List Int},DF xs → 0 < dwid xs → 0 < dval xs
 | [],_,h => by simp [dwid] at h
 | x :: r,hw,h => by
  have h1 := hw.head;have h2 := zTB hw.tail;unfold dwid at h;unfold IsD dwB at h1
  split at h
  ·split at h
   ·cases h
   ·unfold dval dwB;omega
  ·have := zMC hw.tail (by omega)
   unfold dval dwB;omega
theorem zzB : ∀ {xs ys : List Int},DF xs → DF ys → dwid xs < dwid ys → dval xs < dval ys
 | [],ys,_,hy,h => by
  have := zMC hy (by simp [dwid] at h;exact h)
  simpa [dval] using this
 | x :: xs,[],_,_,h => by simp [dwid] at h
 | x :: xs,y :: ys,hx,hy,h => by
  have hx1 := hx.head;have hy1 := hy.head;have vy := zTB hy.tail
  by_cases e : dwid ys = 0
  ·have : dwid (y :: ys) ≤ 1 := by unfold dwid;rw [if_pos e];split <;> simp
   have h0 : dwid (x :: xs) = 0 := by omega
   rw [zyB _ h0];exact zMC hy (by omega)
  ·have e1 : dwid (y :: ys) = dwid ys + 1 := by rw [dwid,if_neg e]
   have e2 : dwid xs < dwid ys := by
    by_cases q : dwid xs = 0
    ·omega
    ·have : dwid (x :: xs) = dwid xs + 1 := by rw [dwid,if_neg q]
     omega
   have := zzB hx.tail hy.tail e2;unfold IsD dwB at hx1 hy1;unfold dval dwB;omega
def dlst (xs : List Int) : List Int := xs.take (dwid xs)
theorem zaA (xs : List Int) : (dlst xs).length = dwid xs := by unfold dlst;have := zlC xs;simp;omega
theorem zmF (x : Int) (r : List Int) : dlst (x :: r) = if dwid r = 0 then (if x = 0 then [] else [x]) else x :: dlst r := by
 have e : dwid (x :: r) = if dwid r = 0 then (if x = 0 then 0 else 1) else dwid r + 1 := by rw [dwid]
 unfold dlst;rw [e]
 split
 ·split <;> simp
 ·simp
theorem ziD : ∀ xs : List Int,dval (dlst xs) = dval xs
 | [] => rfl
 | x :: r => by
  rw [zmF]
  split
  ·rename_i h0
   have := zyB r h0
   split
   ·rename_i hx;simp [dval,hx,this]
   ·simp [dval,this]
  ·simp [dval,ziD r]
theorem zyG : ∀ xs : List Int,dwid (dlst xs) = dwid xs
 | [] => rfl
 | x :: r => by
  rw [zmF,dwid]
  split
  ·split
   ·rfl
   ·rename_i hx;simp [dwid,hx]
  ·rename_i h0
   rw [dwid,zyG r,if_neg h0]
theorem dcanon_lst {xs : List Int} (h : DF xs) : zcD (dlst xs) := ⟨h.take _,by rw [zyG,zaA]⟩
theorem zJE : ∀ {xs : List Int} {n : Nat},n ≤ xs.length → (∀ j (h : j < xs.length),n ≤ j → xs[j] = 0) → (0 < n → ∀ h' : n - 1 < xs.length,xs[n - 1] ≠ 0) → dwid xs = n
 | [],n,hn,_,_ => by simp at hn;simp [dwid,hn]
 | x :: r,0,_,hz,_ => by
  have h0 : dwid r = 0 := zJE (Nat.zero_le _) (fun j h _ => by have := hz (j + 1) (by simpa using h) (by omega);simpa using this) (fun h => by omega);have hx : x = 0 := hz 0 (by simp) (by omega);simp [dwid,h0,hx]
 | x :: r,1,_,hz,ht => by
  have h0 : dwid r = 0 := zJE (Nat.zero_le _) (fun j h _ => by have := hz (j + 1) (by simpa using h) (by omega);simpa using this) (fun h => by omega);have hx : x ≠ 0 := by simpa using ht (by omega) (by simp)
  simp [dwid,h0,hx]
 | x :: r,n + 2,hn,hz,ht => by
  have h0 : dwid r = n + 1 := by
   refine zJE (by simpa using hn) (fun j h hj => ?_) (fun _ h' => ?_)
   ·have := hz (j + 1) (by simpa using h) (by omega);simpa using this
   ·have := ht (by omega) (by simpa using h');simpa using this
  simp [dwid,h0]
theorem zoE : ∀ {xs : List Int},DF xs → dval xs < dpw xs.length
 | [],_ => by simp [dval,dpw]
 | x :: r,h => by
  have h1 := h.head;have h2 := zoE h.tail;unfold IsD dwB at h1;simp only [List.length_cons];unfold dval dpw dwB;omega
theorem zJG : ∀ n,0 < dpw n
 | 0 => by simp [dpw]
 | n + 1 => by have := zJG n;unfold dpw dwB;omega
theorem zUB : ∀ (xs ys : List Int),dval (xs ++ ys) = dval xs + dpw xs.length * dval ys
 | [],ys => by simp [dval,dpw]
 | x :: r,ys => by
  simp only [List.cons_append,List.length_cons,dval,dpw,zUB r ys];rw [Int.mul_add,Int.mul_assoc];omega
theorem zAC : ∀ (xs : List Int) (i : Nat) (z : Int) (h : i < xs.length),dval (xs.set i z) = dval xs + (z - xs[i]) * dpw i
 | [],i,z,h => by simp at h
 | x :: r,0,z,_ => by simp [dval,dpw];omega
 | x :: r,i + 1,z,h => by
  have := zAC r i z (by simpa using h);simp only [List.set_cons_succ,List.getElem_cons_succ,dval,dpw,this];have h' : i < r.length := by simpa using h
  generalize hq : z - r[i]'h' = q;rw [Int.mul_add,← Int.mul_assoc,← Int.mul_assoc,Int.mul_comm dwB q];omega
theorem ziB (ys : List Int) (i : Nat) (h : i < ys.length) : dval (ys.take (i + 1)) = dval (ys.take i) + ys[i] * dpw i := by
 rw [List.take_succ_eq_append_getElem h,zUB];simp [dval,Int.mul_comm,Nat.min_eq_left (Nat.le_of_lt h)]
theorem zpH : ∀ {xs ys : List Int} {j : Nat},DF xs → DF ys → (hl : xs.length = ys.length) → (h : j < xs.length) → xs.drop (j + 1) = ys.drop (j + 1) → xs[j] ≠ ys[j]'(by omega) → cmpI (dval xs) (dval ys) = cmpI xs[j] (ys[j]'(by omega))
 | [],_,_,_,_,_,h,_,_ => by simp at h
 | x :: xs,[],_,_,_,hl,_,_,_ => by simp at hl
 | x :: xs,y :: ys,0,hx,hy,_,_,hd,hne => by
  simp only [List.drop_succ_cons,List.drop_zero] at hd;simp only [List.getElem_cons_zero] at hne ⊢;have hx1 := hx.head;have hy1 := hy.head;unfold IsD dwB at hx1 hy1;subst hd;simp only [cmpI,dval];have e1 : (x + dwB * dval xs < y + dwB * dval xs) ↔ x < y := by omega
  have e2 : (y + dwB * dval xs < x + dwB * dval xs) ↔ y < x := by omega
  simp only [e1,e2]
 | x :: xs,y :: ys,j + 1,hx,hy,hl,h,hd,hne => by
  simp only [List.drop_succ_cons] at hd;simp only [List.getElem_cons_succ] at hne ⊢;have ih := zpH hx.tail hy.tail (by simpa using hl) (by simpa using h) hd hne;have hx1 := hx.head;have hy1 := hy.head;unfold IsD dwB at hx1 hy1;rw [← ih];have hne' : dval xs ≠ dval ys := by
   intro e;rw [e,cmpI_self] at ih;exact hne (cmpI_zero ih.symm)
  rcases Int.lt_or_gt_of_ne hne' with q | q
  ·rw [zeA q,zeA (by unfold dval dwB;omega)]
  ·rw [zfA q,zfA (by unfold dval dwB;omega)]
theorem dcmp_widths {xs ys : List Int} (hx : DF xs) (hy : DF ys) (h : dwid xs ≠ dwid ys) : cmpI (dval xs) (dval ys) = cmpI (dwid xs) (dwid ys) := by
 rcases Nat.lt_or_gt_of_ne h with q | q
 ·rw [zeA (zzB hx hy q),zeA (by omega)]
 ·rw [zfA (zzB hy hx q),zfA (by omega)]
theorem dlst_get {xs : List Int} {j : Nat} (h : j < dwid xs) : (dlst xs)[j]'(by rw [zaA];exact h) = xs[j]'(by have := zlC xs;omega) := by simp [dlst]
theorem dcarry_step {xs zs : List Int} {ysT ysT' p y s d c : Int} {i : Nat} (hi : i < zs.length) (hv : dval zs + dpw i * c = dval xs + ysT) (hT : ysT' = ysT + y * dpw i)
  (hs : s + dwB * d = zs[i] + y + c) (hp : p = dpw (i + 1)) : dval (zs.set i s) + p * d = dval xs + ysT' := by
 subst hp;rw [zAC zs i s hi,hT];generalize hz : zs[i] = z at *;have e : s = z + y + c - dwB * d := by omega
 subst e;simp only [dpw,Int.sub_mul,Int.add_mul,Int.mul_assoc,Int.mul_comm c (dpw i),Int.mul_comm d (dpw i)];omega
theorem dborrow_step {xs zs : List Int} {ysT ysT' p y s d c : Int} {i : Nat} (hi : i < zs.length) (hv : dval zs - dpw i * c = dval xs - ysT) (hT : ysT' = ysT + y * dpw i)
  (hs : s - dwB * d = zs[i] - y - c) (hp : p = dpw (i + 1)) : dval (zs.set i s) - p * d = dval xs - ysT' := by
 subst hp;rw [zAC zs i s hi,hT];generalize hz : zs[i] = z at *;have e : s = z - y - c + dwB * d := by omega
 subst e;simp only [dpw,Int.sub_mul,Int.add_mul,Int.mul_assoc,Int.mul_comm c (dpw i),Int.mul_comm d (dpw i)];omega
theorem zxG : ∀ {xs : List Int} {n : Nat},dwid xs = n + 1 → ∃ h : n < xs.length,xs[n] ≠ 0
 | [],n,h => by simp [dwid] at h
 | x :: r,n,h => by
  unfold dwid at h
  split at h
  ·split at h
   ·cases h
   ·have : n = 0 := by omega
    subst this;exact ⟨by simp,by simpa⟩
  ·rename_i hr
   obtain ⟨m,hm⟩ : ∃ m,dwid r = m + 1 := ⟨dwid r - 1,by omega⟩
   obtain ⟨h1,h2⟩ := zxG hm;have : n = m + 1 := by omega
   subst this;exact ⟨by simpa using h1,by simpa using h2⟩
end Go.Proofs.YtkklldokdnfkgaaGreat
