/-
 QR5CmpToTrim3: R5Cmp, HWords, Trim3, joined.
-/
import Derived.Test.YtkdobgbicnemcaaGreatDoorQRWordsToR5Ones
import Derived.Test.YtkdobgbicnemcaaGreatDoorQWordsToCarry
import Derived.Test.YtkdobgbicnemcaaGreatDoorQMadeToAdd
import Derived.Test.YtkdobgbicnemcaaGreatDoorQLitsToTouch

set_option maxRecDepth 100000
set_option maxHeartbeats 6400000
set_option linter.unusedVariables false
set_option linter.unusedSimpArgs false
namespace Go.Proofs.YtkdobgbicnemcaaGreatDoor
open Go.RowKit
theorem zGB {w : World} {va : Value} {A : Int} {ka : Nat} (ha : Zi w va A ka) (hk : ka ≤ 1099511627776) :
  Calls Tryz.prog 25 #[va] w (fun e w' => e = .returned (.int .i64 (cmpI A 0)) ∧ Below w.heap.size w w') := by
 have za0 := ha;obtain ⟨na,xa,aa,ca,rfl,sa,ea,la⟩ := ha;obtain ⟨W0,hW0⟩ : ∃ W0,w.alloc (duo (.bool na) (.slice aa xa.length ca)) = W0 := ⟨_,rfl⟩
 obtain ⟨b0,sz0⟩ := zEB w (duo (.bool na) (.slice aa xa.length ca));rw [hW0] at b0 sz0;have pa : Duo W0 (w.heap.size) (.bool na) (.slice aa xa.length ca) := by rw [← hW0];exact zCA (by simp)
 have Pa := hid pa;have ia0 := pa.c0;have ia1 := pa.c1;have Za := hid (za0.now b0);have Sa := hid (sa.now b0);have EW := hid hW0;have G := hid b0;clear b0 hW0 za0 sa pa ;clear ea;have key : Hid (∀ n (xs : List Int),zHA xs → (xs = [] → n = false) → iv n xs = A → (n = true ∧ cmpI A 0 = -1) ∨ (n = false ∧ (0 : Int) < xs.length ∧ cmpI A 0 = 1) ∨ (n = false ∧ ¬ (0 : Int) < xs.length ∧ cmpI A 0 = 0)) := fun n xs hc hn e => by
  have hv := zEA hc.1;have h0 : xs ≠ [] → val xs ≠ 0 := fun q e => q (zgB hc e)
  cases n
  ·rw [zdB] at e
   by_cases q : xs = []
   ·subst q;exact .inr (.inr ⟨rfl,by simp,by rw [← e];simp [val,cmpI]⟩)
   ·have := h0 q
    exact .inr (.inl ⟨rfl,by have := List.length_pos_iff.2 q;omega,ziA (by omega)⟩)
  ·rw [zaC] at e
   by_cases q : xs = []
   ·exact absurd (hn q) (by simp)
   ·have := h0 q
    exact .inl ⟨rfl,zhA (by omega)⟩
 go_enter Tryz.func25,Tryz.ntmps25;go_wp2_with fail;rw [EW.out];clear ia0 ia1;refine (zmF Za.out hk).mono ?_;rintro e w1 ⟨r,rfl,m1,b⟩;obtain ⟨n1,x1,a1,q1,rfl,-,t1,t2,t3,-⟩ := m1;have KK := hid (key.out n1 x1 t1 t2 t3);have B1 := hid (below_step (below_step G.out b) (zEB w1 (duo (.bool n1) (.slice a1 x1.length q1))).1);clear b t1 t2 t3 key;rcases KK.out with ⟨rfl,e⟩ | ⟨rfl,hp,e⟩ | ⟨rfl,hp,e⟩
 all_goals
  have HE := hid e;clear e KK;go_wp2;go_ret;exact ⟨by rw [HE.out];rfl,B1.out⟩
theorem zPD {w : World} {va vb : Value} {A B : Int} {ka kb : Nat} (ha : Zi w va A ka) (hb : Zi w vb B kb) (hk : ka ≤ 1099511627776) (hl : kb ≤ 1099511627776) :
  Calls Tryz.prog 27 #[va,vb] w (fun e w' => e = .returned (.int .i64 (cmpI (A.natAbs : Int) (B.natAbs : Int))) ∧ Below w.heap.size w w') := by
 have za0 := ha;obtain ⟨na,xa,aa,ca,rfl,sa,ea,la⟩ := ha;have zb0 := hb;obtain ⟨nb,xb,ab,cb,rfl,sb,eb,lb⟩ := hb;obtain ⟨W0,hW0⟩ : ∃ W0,(w.alloc (duo (.bool na) (.slice aa xa.length ca))).alloc (duo (.bool nb) (.slice ab xb.length cb)) = W0 := ⟨_,rfl⟩
 obtain ⟨b0,sz0⟩ := zXA w (duo (.bool na) (.slice aa xa.length ca)) (duo (.bool nb) (.slice ab xb.length cb));rw [hW0] at b0 sz0;have pa : Duo W0 (w.heap.size) (.bool na) (.slice aa xa.length ca) := by rw [← hW0];exact zAA (zCA (by simp)) _
 have pb : Duo W0 (w.heap.size + 1) (.bool nb) (.slice ab xb.length cb) := by rw [← hW0];exact zCA (by simp)
 have Pa := hid pa;have ia0 := pa.c0;have ia1 := pa.c1;have Za := hid (za0.now b0);have Sa := hid (sa.now b0);have Pb := hid pb;have ib0 := pb.c0;have ib1 := pb.c1;have Zb := hid (zb0.now b0);have Sb := hid (sb.now b0);have EW := hid hW0;have G := hid b0;clear b0 hW0 za0 sa pa zb0 sb pb ;have HC := hid (zAH Sa.out Sb.out (by omega) (by omega));have ga := zbC Sa.out.1 ea;have gb := zbC Sb.out.1 eb;rw [ga,gb] at HC;clear ga gb;clear ea eb;generalize cmpI (A.natAbs : Int) (B.natAbs : Int) = C at *;go_enter Tryz.func27,Tryz.ntmps27;go_wp2_with fail;rw [EW.out];clear ia0 ia1 ib0 ib1;refine HC.out.mono ?_;rintro e w1 ⟨rfl,b⟩;have B1 := hid (below_step G.out b);clear b HC;go_wp2;go_ret;exact ⟨rfl,B1.out⟩
theorem rcmp_z {w : World} {va vb : Value} {A B : Int} {ka kb : Nat} (ha : Zi w va A ka) (hb : Zi w vb B kb) (hk : ka ≤ 1099511627776) (hl : kb ≤ 1099511627776) :
  Calls Tryz.prog 26 #[va,vb] w (fun e w' => e = .returned (.int .i64 (cmpI A B)) ∧ Below w.heap.size w w') := by
 have za0 := ha;obtain ⟨na,xa,aa,ca,rfl,sa,ea,la⟩ := ha;have zb0 := hb;obtain ⟨nb,xb,ab,cb,rfl,sb,eb,lb⟩ := hb;obtain ⟨W0,hW0⟩ : ∃ W0,(w.alloc (duo (.bool na) (.slice aa xa.length ca))).alloc (duo (.bool nb) (.slice ab xb.length cb)) = W0 := ⟨_,rfl⟩
 obtain ⟨b0,sz0⟩ := zXA w (duo (.bool na) (.slice aa xa.length ca)) (duo (.bool nb) (.slice ab xb.length cb));rw [hW0] at b0 sz0;have pa : Duo W0 (w.heap.size) (.bool na) (.slice aa xa.length ca) := by rw [← hW0];exact zAA (zCA (by simp)) _
 have pb : Duo W0 (w.heap.size + 1) (.bool nb) (.slice ab xb.length cb) := by rw [← hW0];exact zCA (by simp)
 have Pa := hid pa;have ia0 := pa.c0;have ia1 := pa.c1;have Za := hid (za0.now b0);have Sa := hid (sa.now b0);have Pb := hid pb;have ib0 := pb.c0;have ib1 := pb.c1;have Zb := hid (zb0.now b0);have Sb := hid (sb.now b0);have EW := hid hW0;have G := hid b0;clear b0 hW0 za0 sa pa zb0 sb pb ;clear ea eb;have H1 : Hid (∀ w',Below W0.heap.size W0 w' → _) := fun w' h => zGB (Za.out.now h) hk
 have H2 : Hid (∀ w',Below W0.heap.size W0 w' → _) := fun w' h => zGB (Zb.out.now h) hl
 have H3 : Hid (∀ w',Below W0.heap.size W0 w' → _) := fun w' h => zPD (Za.out.now h) (Zb.out.now h) hk hl
 have bd := zTA A 0;have bd2 := zTA (A.natAbs : Int) (B.natAbs : Int);have HS : Hid ((cmpI A 0 = cmpI B 0 → cmpI A 0 * cmpI (A.natAbs : Int) (B.natAbs : Int) = cmpI A B) ∧ (cmpI A 0 < cmpI B 0 → cmpI A B = -1) ∧ (cmpI B 0 < cmpI A 0 → cmpI A B = 1)) := by
  unfold Hid cmpI;refine ⟨?_,?_,?_⟩ <;> intro h <;> (repeat' split at h) <;> (repeat' split) <;> omega
 generalize cmpI A 0 = S at *;generalize cmpI B 0 = T at *;generalize cmpI (A.natAbs : Int) (B.natAbs : Int) = U at *;generalize cmpI A B = R at *;go_enter Tryz.func26,Tryz.ntmps26;go_wp2_with fail;rw [EW.out];clear ia0 ia1 ib0 ib1;refine (H1.out W0 (Below.refl _ _)).mono ?_;rintro e w1 ⟨rfl,b⟩;have B1 := hid b;replace Pa := hid (Pa.out.step b);have ia0 := Pa.out.c0;have ia1 := Pa.out.c1;replace Pb := hid (Pb.out.step b);have ib0 := Pb.out.c0;have ib1 := Pb.out.c1;replace G := hid (below_step G.out b);clear b;go_wp2_with fail;clear ia0 ia1 ib0 ib1;refine (H2.out w1 B1.out).mono ?_;rintro e w2 ⟨rfl,b⟩;have B2 := hid (below_step B1.out b);replace Pa := hid (Pa.out.step b);have ia0 := Pa.out.c0;have ia1 := Pa.out.c1;replace Pb := hid (Pb.out.step b);have ib0 := Pb.out.c0;have ib1 := Pb.out.c1;replace G := hid (below_step G.out b);clear b;rcases (show S = T ∨ S < T ∨ T < S by omega) with h | h | h
 ·have hne : (S != T) = false := by simp [h]
  have HR := hid (HS.out.1 h);have hm : IntKind.i64.wrap (S * U) = R := by
   rw [HR.out,zYA] <;> rw [← HR.out]
   all_goals (obtain ⟨q1,q2⟩ := bd;obtain ⟨q3,q4⟩ := bd2;rcases (show S = -1 ∨ S = 0 ∨ S = 1 by omega) with e | e | e <;> rw [e] <;> omega)
  clear h HS;go_wp2_with fail;clear ia0 ia1 ib0 ib1;refine (H3.out w2 B2.out).mono ?_;rintro e w3 ⟨rfl,b⟩;have B3 := hid (below_step G.out b);clear b;go_wp2;go_ret;exact ⟨by first | rfl | rw [hm],B3.out⟩
 ·have hne : (S != T) = true := by simp;omega
  have HR := hid (HS.out.2.1 h);clear HS;go_wp2;go_ret;exact ⟨by rw [HR.out];rfl,G.out⟩
 ·have hne : (S != T) = true := by simp;omega
  have h' : ¬ S < T := by omega
  have HR := hid (HS.out.2.2 h);clear HS;go_wp2;go_ret;exact ⟨by rw [HR.out];rfl,G.out⟩
end Go.Proofs.YtkdobgbicnemcaaGreatDoor
namespace Go.Proofs.YtkdobgbicnemcaaGreatDoor
def hwB : Int := 4294967296
def IsH (x : Int) : Prop := 0 ≤ x ∧ x < hwB
def HF (xs : List Int) : Prop := ∀ x ∈ xs,IsH x
def hval : List Int → Int
 | [] => 0
 | x :: r => x + hwB * hval r
def hwid : List Int → Nat
 | [] => 0
 | x :: r => if hwid r = 0 then (if x = 0 then 0 else 1) else hwid r + 1
def hpw : Nat → Int
 | 0 => 1
 | n + 1 => hwB * hpw n
def zBC (xs : List Int) : Prop := HF xs ∧ hwid xs = xs.length
theorem HF.nil : HF [] := fun x h => by cases h
theorem HF.cons {x : Int} {r : List Int} (hx : IsH x) (hr : HF r) : HF (x :: r) := by
 intro y hy;rcases List.mem_cons.1 hy with rfl | h
 ·exact hx
 ·exact hr y h
theorem HF.head {x : Int} {r : List Int} (h : HF (x :: r)) : IsH x := h x (by simp)
theorem HF.tail {x : Int} {r : List Int} (h : HF (x :: r)) : HF r := fun y hy => h y (by simp [hy])
theorem HF.take {xs : List Int} (h : HF xs) (n : Nat) : HF (xs.take n) := fun x hx => h x (List.mem_of_mem_take hx)
theorem HF.get {xs : List Int} (h : HF xs) {i : Nat} (hi : i < xs.length) : IsH xs[i] := h _ (List.getElem_mem hi)
theorem HF.set {xs : List Int} (h : HF xs) (i : Nat) {x : Int} (hx : IsH x) : HF (xs.set i x) := by
 intro y hy;rcases List.mem_or_eq_of_mem_set hy with q | rfl
 ·exact h y q
 ·exact hx
theorem zQA : ∀ {xs : List Int},HF xs → 0 ≤ hval xs
 | [],_ => by simp [hval]
 | x :: r,h => by
  have h1 := h.head;have h2 := zQA h.tail;unfold IsH hwB at h1;unfold hval hwB;omega
theorem zCI : ∀ xs : List Int,hwid xs ≤ xs.length
 | [] => by simp [hwid]
 | x :: r => by
  have := zCI r;unfold hwid;split
  ·split <;> simp
  ·simp;omega
theorem zMC : ∀ xs : List Int,hwid xs = 0 → hval xs = 0
 | [],_ => rfl
 | x :: r,h => by
  unfold hwid at h
  split at h
  ·rename_i h0
   have := zMC r h0
   split at h
   ·rename_i hx;simp [hval,hx,this]
   ·cases h
  ·cases h
theorem zwB : ∀ {xs : List Int},HF xs → 0 < hwid xs → 0 < hval xs
 | [],_,h => by simp [hwid] at h
 | x :: r,hw,h => by
  have h1 := hw.head;have h2 := zQA hw.tail;unfold hwid at h;unfold IsH hwB at h1
  split at h
  ·split at h
   ·cases h
   ·unfold hval hwB;omega
  ·have := zwB hw.tail (by omega)
   unfold hval hwB;omega
theorem znE : ∀ {xs ys : List Int},HF xs → HF ys → hwid xs < hwid ys → hval xs < hval ys
 | [],ys,_,hy,h => by
  have := zwB hy (by simp [hwid] at h;exact h)
  simpa [hval] using this
 | x :: xs,[],_,_,h => by simp [hwid] at h
 | x :: xs,y :: ys,hx,hy,h => by
  have hx1 := hx.head;have hy1 := hy.head;have vy := zQA hy.tail
  by_cases e : hwid ys = 0
  ·have : hwid (y :: ys) ≤ 1 := by unfold hwid;rw [if_pos e];split <;> simp
   have h0 : hwid (x :: xs) = 0 := by omega
   rw [zMC _ h0];exact zwB hy (by omega)
  ·have e1 : hwid (y :: ys) = hwid ys + 1 := by rw [hwid,if_neg e]
   have e2 : hwid xs < hwid ys := by
    by_cases q : hwid xs = 0
    ·omega
    ·have : hwid (x :: xs) = hwid xs + 1 := by rw [hwid,if_neg q]
     omega
   have := znE hx.tail hy.tail e2;unfold IsH hwB at hx1 hy1;unfold hval hwB;omega
theorem hcanon_zero : ∀ {ys : List Int},zBC ys → hval ys = 0 → ys = []
 | [],_,_ => rfl
 | y :: ys,hy,h => by
  exfalso
  have h2 := hy.2;have := zwB hy.1 (by rw [h2];simp);omega
def hlst (xs : List Int) : List Int := xs.take (hwid xs)
theorem hlength_lst (xs : List Int) : (hlst xs).length = hwid xs := by unfold hlst;have := zCI xs;simp;omega
theorem zOG (x : Int) (r : List Int) : hlst (x :: r) = if hwid r = 0 then (if x = 0 then [] else [x]) else x :: hlst r := by
 have e : hwid (x :: r) = if hwid r = 0 then (if x = 0 then 0 else 1) else hwid r + 1 := by rw [hwid]
 unfold hlst;rw [e]
 split
 ·split <;> simp
 ·simp
theorem zNH : ∀ xs : List Int,hval (hlst xs) = hval xs
 | [] => rfl
 | x :: r => by
  rw [zOG]
  split
  ·rename_i h0
   have := zMC r h0
   split
   ·rename_i hx;simp [hval,hx,this]
   ·simp [hval,this]
  ·simp [hval,zNH r]
theorem zMH : ∀ xs : List Int,hwid (hlst xs) = hwid xs
 | [] => rfl
 | x :: r => by
  rw [zOG,hwid]
  split
  ·split
   ·rfl
   ·rename_i hx;simp [hwid,hx]
  ·rename_i h0
   rw [hwid,zMH r,if_neg h0]
theorem hcanon_lst {xs : List Int} (h : HF xs) : zBC (hlst xs) := ⟨h.take _,by rw [zMH,hlength_lst]⟩
theorem zJB : ∀ {xs : List Int},HF xs → hval xs < hpw xs.length
 | [],_ => by simp [hval,hpw]
 | x :: r,h => by
  have h1 := h.head;have h2 := zJB h.tail;unfold IsH hwB at h1;simp only [List.length_cons];unfold hval hpw hwB;omega
theorem ziB : ∀ n,0 < hpw n
 | 0 => by simp [hpw]
 | n + 1 => by have := ziB n;unfold hpw hwB;omega
theorem zDD : ∀ (xs ys : List Int),hval (xs ++ ys) = hval xs + hpw xs.length * hval ys
 | [],ys => by simp [hval,hpw]
 | x :: r,ys => by
  simp only [List.cons_append,List.length_cons,hval,hpw,zDD r ys];rw [Int.mul_add,Int.mul_assoc];omega
theorem zXD : ∀ (xs : List Int) (i : Nat) (z : Int) (h : i < xs.length),hval (xs.set i z) = hval xs + (z - xs[i]) * hpw i
 | [],i,z,h => by simp at h
 | x :: r,0,z,_ => by simp [hval,hpw];omega
 | x :: r,i + 1,z,h => by
  have := zXD r i z (by simpa using h);simp only [List.set_cons_succ,List.getElem_cons_succ,hval,hpw,this];have h' : i < r.length := by simpa using h
  generalize hq : z - r[i]'h' = q;rw [Int.mul_add,← Int.mul_assoc,← Int.mul_assoc,Int.mul_comm hwB q];omega
theorem zDB (ys : List Int) (i : Nat) (h : i < ys.length) : hval (ys.take (i + 1)) = hval (ys.take i) + ys[i] * hpw i := by
 rw [List.take_succ_eq_append_getElem h,zDD];simp [hval,Int.mul_comm,Nat.min_eq_left (Nat.le_of_lt h)]
theorem zFI : ∀ {xs ys : List Int} {j : Nat},HF xs → HF ys → (hl : xs.length = ys.length) → (h : j < xs.length) → xs.drop (j + 1) = ys.drop (j + 1) → xs[j] ≠ ys[j]'(by omega) → cmpI (hval xs) (hval ys) = cmpI xs[j] (ys[j]'(by omega))
 | [],_,_,_,_,_,h,_,_ => by simp at h
 | x :: xs,[],_,_,_,hl,_,_,_ => by simp at hl
 | x :: xs,y :: ys,0,hx,hy,_,_,hd,hne => by
  simp only [List.drop_succ_cons,List.drop_zero] at hd;simp only [List.getElem_cons_zero] at hne ⊢;have hx1 := hx.head;have hy1 := hy.head;unfold IsH hwB at hx1 hy1;subst hd;simp only [cmpI,hval];have e1 : (x + hwB * hval xs < y + hwB * hval xs) ↔ x < y := by omega
  have e2 : (y + hwB * hval xs < x + hwB * hval xs) ↔ y < x := by omega
  simp only [e1,e2]
 | x :: xs,y :: ys,j + 1,hx,hy,hl,h,hd,hne => by
  simp only [List.drop_succ_cons] at hd;simp only [List.getElem_cons_succ] at hne ⊢;have ih := zFI hx.tail hy.tail (by simpa using hl) (by simpa using h) hd hne;have hx1 := hx.head;have hy1 := hy.head;unfold IsH hwB at hx1 hy1;rw [← ih];have hne' : hval xs ≠ hval ys := by
   intro e;rw [e,cmpI_self] at ih;exact hne (cmpI_zero ih.symm)
  rcases Int.lt_or_gt_of_ne hne' with q | q
  ·rw [zhA q,zhA (by unfold hval hwB;omega)]
  ·rw [ziA q,ziA (by unfold hval hwB;omega)]
theorem ztF : ∀ {xs : List Int} {n : Nat},hwid xs = n + 1 → ∃ h : n < xs.length,xs[n] ≠ 0
 | [],n,h => by simp [hwid] at h
 | x :: r,n,h => by
  unfold hwid at h
  split at h
  ·split at h
   ·cases h
   ·have : n = 0 := by omega
    subst this;exact ⟨by simp,by simpa⟩
  ·rename_i hr
   obtain ⟨m,hm⟩ : ∃ m,hwid r = m + 1 := ⟨hwid r - 1,by omega⟩
   obtain ⟨h1,h2⟩ := ztF hm;have : n = m + 1 := by omega
   subst this;exact ⟨by simpa using h1,by simpa using h2⟩
theorem zDI : ∀ xs : List Int,hwid xs = wid xs
 | [] => rfl
 | x :: r => by unfold hwid wid;rw [zDI r]
theorem zEI (xs : List Int) : hlst xs = lst xs := by unfold hlst lst;rw [zDI]
theorem HF.word {xs : List Int} (h : HF xs) : WF xs := fun x hx => by have := h x hx;unfold IsH hwB at this;unfold IsW wB;omega
theorem HF.drop {xs : List Int} (h : HF xs) (n : Nat) : HF (xs.drop n) := fun x hx => h x (List.mem_of_mem_drop hx)
theorem zOH (n : Nat) : HF (List.replicate n 0) := fun x hx => by rw [(List.mem_replicate.1 hx).2];unfold IsH hwB;omega
theorem zmD : ∀ n : Nat,hval (List.replicate n 0) = 0
 | 0 => rfl
 | n + 1 => by rw [List.replicate_succ];unfold hval;rw [zmD n];omega
theorem zcG : ∀ m n : Nat,hpw (m + n) = hpw m * hpw n
 | m,0 => by simp [hpw]
 | m,n + 1 => by rw [show m + (n + 1) = (m + n) + 1 by omega,hpw,hpw,zcG m n];simp only [Int.mul_left_comm]
theorem zxB {zs : List Int} {j : Nat} (hj : j ≤ zs.length) : hval zs = hval (zs.take j) + hpw j * hval (zs.drop j) := by
 have h := zDD (zs.take j) (zs.drop j);rw [List.take_append_drop,show (zs.take j).length = j by simp;omega] at h;exact h
theorem hcanon_lst' {xs : List Int} (h : HF xs) : zBC (lst xs) := by rw [← zEI];exact hcanon_lst h
theorem hval_lst' (xs : List Int) : hval (lst xs) = hval xs := by rw [← zEI];exact zNH xs
open Go.RowKit
theorem zIF {B : Nat} {w : World} {a : Option Addr} {n cap : Nat} {xs : List Int} (h : Sl B w (.slice a n cap) xs) : Sl B w (.slice a (wid xs) cap) (lst xs) := by
 obtain ⟨hw,a',cap',he,hlc,hcm,hm⟩ := h;simp only [Value.slice.injEq] at he;obtain ⟨rfl,rfl,rfl⟩ := he;have l := zRA xs;refine ⟨hw.take _,a,cap,by rw [length_lst],by rw [length_lst];omega,by rw [length_lst];omega,?_⟩;rcases hm with rfl | ⟨b,off,h1,h2,h3⟩
 ·exact .inl rfl
 ·refine .inr ⟨b,off,h1,h2,fun j hj => ?_⟩
  rw [length_lst] at hj;rw [h3 j (by omega),zgC hj]
theorem zHC {B : Nat} {w : World} {a : Option Addr} {m cap : Nat} {xs : List Int} (h : Sl B w (.slice a m cap) xs) :
  Calls Tryz.prog 149 #[.slice a m cap] w fun e w' => e = .returned (.slice a (wid xs) cap) ∧ w' = w := by
 obtain ⟨hw,a',cap',he,hlc,hcm,hm⟩ := h;simp only [Value.slice.injEq] at he;obtain ⟨rfl,rfl,rfl⟩ := he;have HW : Hid (∀ n : Nat,n ≤ xs.length → (∀ j (h : j < xs.length),n ≤ j → xs[j] = 0) → (0 < n → ∀ h' : n - 1 < xs.length,xs[n - 1] ≠ 0) → wid xs = n) := fun n h1 h2 h3 => wid_is h1 h2 h3
 generalize wid xs = W at *;have HM := hid hm;go_enter Tryz.func149,Tryz.ntmps149;go_wp2
 go_loop [3] (fun i => ∃ n : Nat,n ≤ xs.length ∧ i = .int .i64 n ∧ ∀ j (h : j < xs.length),n ≤ j → xs[j] = 0) (fun i => (intOf i).toNat)
 case atStart => exact ⟨xs.length,Nat.le_refl _,rfl,fun j h h' => by omega⟩
 case round =>
  obtain ⟨n,hn,rfl,hz⟩ := hrel;have HZ := hid hz;clear hz hm
  by_cases h0 : n = 0
  ·subst h0
   go_wp2;go_ret;exact ⟨by rw [HW.out 0 (by omega) HZ.out (by omega)];rfl,rfl⟩
  ·obtain ⟨k,rfl⟩ : ∃ k,n = k + 1 := ⟨n - 1,by omega⟩
   rcases HM.out with rfl | ⟨b,off,rfl,hb,hc⟩
   ·simp at hn
   ·have hk : k < xs.length := by omega
    have hck := hc k hk;obtain ⟨x,hx⟩ : ∃ x,x = xs[k] := ⟨_,rfl⟩
    rw [← hx] at hck;have HX : Hid (x = xs[k]) := hx;clear hx hc h0
    by_cases hx0 : x = 0
    ·have ht : (x == 0) = true := by simp [hx0]
     go_wp2;go_round
     case rel =>
      refine ⟨k,by omega,rfl,fun j h hj => ?_⟩
      by_cases e : j = k
      ·subst e;rw [← HX.out];exact hx0
      ·exact HZ.out j h (by omega)
     case measure => simp [intOf]
    ·have ht : (x == 0) = false := by simp [hx0]
     go_wp2;go_ret;refine ⟨?_,rfl⟩;rw [HW.out (k + 1) hn HZ.out (fun _ h' => by have := HX.out;simp at h' ⊢;rw [← this];exact hx0)]
     rfl
def pairs : List Int → List Int
 | [] => []
 | x :: r => x % 4294967296 :: x / 4294967296 :: pairs r
theorem zvB : ∀ xs,(pairs xs).length = 2 * xs.length
 | [] => rfl
 | x :: r => by simp [pairs,zvB r];omega
theorem zuD : ∀ xs ys,pairs (xs ++ ys) = pairs xs ++ pairs ys
 | [],ys => rfl
 | x :: r,ys => by simp [pairs,zuD r ys]
theorem pairs_val : ∀ xs,hval (pairs xs) = val xs
 | [] => rfl
 | x :: r => by
  unfold pairs hval hval val;rw [pairs_val r];unfold hwB wB;omega
theorem zCH : ∀ {xs},WF xs → HF (pairs xs)
 | [],_ => HF.nil
 | x :: r,h => by
  have hx := h.head;unfold IsW wB at hx;exact HF.cons (by unfold IsH hwB;omega) (HF.cons (by unfold IsH hwB;omega) (zCH h.tail))
theorem set_two (P Z : List Int) (c d a b : Int) (n : Nat) (hn : P.length = n) : ((P ++ c :: d :: Z).set n a).set (n + 1) b = P ++ a :: b :: Z := by
 subst hn
 simp
theorem pairs_step {L : List Int} {i : Nat} (h : i < L.length) : (((pairs (L.take i) ++ List.replicate (2 * (L.length - i)) 0).set (2 * i) (L[i] % 4294967296)).set (2 * i + 1) (L[i] / 4294967296)) = pairs (L.take (i + 1)) ++ List.replicate (2 * (L.length - (i + 1))) 0 := by
 have e : 2 * (L.length - i) = 2 * (L.length - (i + 1)) + 1 + 1 := by omega
 have e2 : L.take (i + 1) = L.take i ++ [L[i]] := by rw [List.take_succ_eq_append_getElem h]
 rw [e,List.replicate_succ,List.replicate_succ,set_two _ _ _ _ _ _ _ (by rw [zvB,List.length_take];omega),e2,zuD];simp [pairs]
theorem zED {w : World} {v : Value} {xs : List Int} (h : Sl w.heap.size w v xs) (hlen : xs.length ≤ 8796093022208) :
  Calls Tryz.prog 128 #[v] w fun e w' => ∃ D r,e = .returned r ∧ Sl w'.heap.size w' r D ∧ zBC D ∧ hval D = val xs ∧ D.length ≤ 2 * xs.length ∧ Below w.heap.size w w' := by
 have hs := h;obtain ⟨hw,a,cap,rfl,hlc,hcm,hm⟩ := h;have HT := zHC hs;have l1 := zRA xs;have hsl := zIF hs;obtain ⟨_,a',cap',he,_,_,hm'⟩ := hsl;simp only [Value.slice.injEq] at he;obtain ⟨rfl,_,rfl⟩ := he;have HM := hid hm';have HL := hid (length_lst xs);have HWL := hid (canon_lst hw).1;have HVL := hid (val_lst xs);generalize lst xs = L at *;obtain ⟨n,hn⟩ : ∃ n,wid xs = n := ⟨_,rfl⟩
 rw [hn] at HT HL l1;clear hm hm' hs hn;go_enter Tryz.func128,Tryz.ntmps128;go_wp2_with fail;refine HT.mono ?_;rintro e w1 ⟨rfl,rfl⟩;clear HT;go_wp2_with (at_make;refine wpList_make_words _ rfl _ _ rfl _ _ (2 * n) (2 * n) rfl rfl (by first | rfl | (simp;done) | omega) (by first | rfl | (simp;done) | omega) (Nat.le_refl _) (by omega) ?_)
 intro w2 hrow hb2 hsz2;have hrow' := hid hrow;have hb2' := hid hb2;clear hrow hb2 hsz2;go_wp2_with fail
 go_loopw [4] (fun i wr => ∃ (k : Nat),k ≤ n ∧ i = .int .i64 k ∧ Row wr w1.heap.size (ws (pairs (L.take k) ++ List.replicate (2 * (n - k)) 0)) ∧ Below w1.heap.size w1 wr) (fun i _ => n - (intOf i).toNat)
 case atStart => exact ⟨0,Nat.zero_le _,rfl,by simpa [pairs] using hrow'.out,hb2'.out⟩
 case round =>
  clear hrow' hb2';obtain ⟨k,hk,rfl,hr,hb⟩ := hrel
  by_cases hlt : k < n
  ·have hk2 : k < L.length := by have := HL.out;omega
   rcases HM.out with e | ⟨b,off,rfl,hbg,hcy⟩
   ·subst e;simp at hk2
   have hst := pairs_step hk2;rw [HL.out] at hst;have hxw := HWL.out.get hk2;unfold IsW wB at hxw;obtain ⟨hx0,hx1⟩ := hxw;have lD : (pairs (L.take k) ++ List.replicate (2 * (n - k)) 0).length = 2 * n := by rw [List.length_append,zvB,List.length_take,List.length_replicate];have := HL.out;omega
   generalize pairs (L.take k) ++ List.replicate (2 * (n - k)) 0 = D at *;have c2 : wr.cell? ⟨b,off + k,none⟩ = some (.int .u64 L[k]) := (hb.cell (p := ⟨b,off + k,none⟩) hbg).trans (hcy k hk2);have c1 : wr.cell? ⟨w1.heap.size,2 * k,none⟩ = some (.int .u64 (D[2 * k]'(by omega))) := Row.word (r := []) (by simpa using hr) (by omega);have cf : wr.frozen? ⟨w1.heap.size,2 * k,none⟩ = false := hr.frozen _;have hr1 : Row (wr.setCell ⟨w1.heap.size,2 * k,none⟩ (.int .u64 (L[k] % 4294967296))) w1.heap.size (ws (D.set (2 * k) (L[k] % 4294967296))) := by
    have := Row.setWord (r := []) (by simpa using hr) (show 2 * k < D.length by omega) (L[k] % 4294967296)
    simpa using this
   have hb1 := hb.setCell (p := ⟨w1.heap.size,2 * k,none⟩) (Nat.le_refl _) (.int .u64 (L[k] % 4294967296));have c2' : (wr.setCell ⟨w1.heap.size,2 * k,none⟩ (.int .u64 (L[k] % 4294967296))).cell? ⟨b,off + k,none⟩ = some (.int .u64 L[k]) := (hb1.cell (p := ⟨b,off + k,none⟩) hbg).trans (hcy k hk2);have c1' : (wr.setCell ⟨w1.heap.size,2 * k,none⟩ (.int .u64 (L[k] % 4294967296))).cell? ⟨w1.heap.size,2 * k + 1,none⟩ = some (.int .u64 ((D.set (2 * k) (L[k] % 4294967296))[2 * k + 1]'(by rw [List.length_set];omega))) := Row.word (r := []) (by simpa using hr1) (by rw [List.length_set];omega);have cf' : (wr.setCell ⟨w1.heap.size,2 * k,none⟩ (.int .u64 (L[k] % 4294967296))).frozen? ⟨w1.heap.size,2 * k + 1,none⟩ = false := hr1.frozen _;have HR2 : Hid (Row ((wr.setCell ⟨w1.heap.size,2 * k,none⟩ (.int .u64 (L[k] % 4294967296))).setCell ⟨w1.heap.size,2 * k + 1,none⟩ (.int .u64 (L[k] / 4294967296))) w1.heap.size (ws (pairs (L.take (k + 1)) ++ List.replicate (2 * (n - (k + 1))) 0))) := by
    have := Row.setWord (r := []) (by simpa using hr1) (show 2 * k + 1 < (D.set (2 * k) (L[k] % 4294967296)).length by rw [List.length_set];omega) (L[k] / 4294967296);rw [hst] at this;unfold Hid;simpa using this
   have HB2 := hid (hb1.setCell (p := ⟨w1.heap.size,2 * k + 1,none⟩) (Nat.le_refl _) (.int .u64 (L[k] / 4294967296)));generalize (D.set (2 * k) (L[k] % 4294967296))[2 * k + 1]'(by rw [List.length_set];omega) = z1 at *;generalize D[2 * k]'(by omega) = z0 at *;clear hcy hr hb hr1 hb1 hst;generalize L[k] = x at *;have i0 : (0 : Int) ≤ (k : Int) := by omega
   go_wp2;go_roundw
   case rel => exact ⟨k + 1,by omega,by go_num,HR2.out,HB2.out⟩
   case measure => simp [intOf];omega
  ·obtain rfl : k = n := by omega
   have e0 : L.take k = L := by rw [← HL.out];simp
   rw [Nat.sub_self,Nat.mul_zero,List.replicate_zero,List.append_nil,e0] at hr;have hD := zCH HWL.out;have hDl : (pairs L).length = 2 * k := by rw [zvB,HL.out]
   have hsd := Row.sl (r := []) (by simpa using hr) hD.word (cap := 2 * k) (by rw [hDl];exact Nat.le_refl _) (by omega) hr.lt;rw [hDl] at hsd;have HT2 := hid (zHC hsd);have HS2 := hid (zIF hsd);have l2 := zRA (pairs L);have HB := hid hb;clear hr hsd e0 hb HM;go_wp2_with fail;refine HT2.out.mono ?_;rintro e w3 ⟨rfl,rfl⟩;go_wp2;go_ret;exact ⟨lst (pairs L),_,rfl,HS2.out,hcanon_lst' hD,by rw [hval_lst',pairs_val,HVL.out],by rw [length_lst];omega,HB.out⟩
end Go.Proofs.YtkdobgbicnemcaaGreatDoor
