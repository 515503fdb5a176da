/-
 QZDivsToRowsI: ZDivs, DWords, SlInts, Ref, RowsI, joined.
-/
import Derived.Test.YtkdobgbicnemcaaGreatDoorQZMod
import Derived.Test.YtkdobgbicnemcaaGreatDoorQZStoreToLst9
import Derived.Test.YtkdobgbicnemcaaGreatDoorQWordsToCarry
import Derived.Test.YtkdobgbicnemcaaGreatDoorQLitsToTouch
import Derived.Test.YtkdobgbicnemcaaGreatDoorQByteRowToLen2
import Derived.Test.YtkdobgbicnemcaaGreatDoorQMadeToAdd

set_option maxRecDepth 100000
set_option maxHeartbeats 6400000
set_option linter.unusedVariables false
set_option linter.unusedSimpArgs false
namespace Go.Proofs.YtkdobgbicnemcaaGreatDoor
open Go.RowKit
theorem zEB (w : World) (o1 : Obj) : Below w.heap.size w (w.alloc o1) ∧ (w.alloc o1).heap.size = w.heap.size + 1 := ⟨(Below.refl _ _).alloc (Nat.le_refl _) _,by simp⟩
def fdv (z y : Int) : Int := if cmpI (z.tmod y) 0 * cmpI y 0 < 0 then z.tdiv y - 1 else z.tdiv y
def fmd (z y : Int) : Int := if cmpI (z.tmod y) 0 * cmpI y 0 < 0 then z.tmod y + y else z.tmod y
def edv (z y : Int) : Int := if cmpI (z.tmod y) 0 < 0 then z.tdiv y - cmpI y 0 else z.tdiv y
theorem floor_z {w : World} {v u : Value} {z y : Int} {k l : Nat} (h0 : Zi w v z k) (h1 : Zi w u y l) (hy : y ≠ 0) (hk : k ≤ 1099511627776) (hl : l ≤ 1099511627776) :
  Calls Tryz.prog 83 #[v,u] w (zZA 0 w (fdv z y) (fmd z y) (max k 1 + 1) (max k l + 1)) := by
 unfold fdv fmd
 by_cases hs : cmpI (z.tmod y) 0 * cmpI y 0 < 0
 ·rw [if_pos hs,if_pos hs]
  exact floor_neg h0 h1 hy hk hl hs
 ·rw [if_neg hs,if_neg hs]
  exact (floor_pos h0 h1 hy hk hl hs).mono fun e w' ⟨rq,rr,q1,q2,q3,q4⟩ => ⟨rq,rr,q1,q2.more (by omega),q3.more (by omega),q4⟩
theorem euclid_z {w : World} {v u : Value} {z y : Int} {k l : Nat} (h0 : Zi w v z k) (h1 : Zi w u y l) (hy : y ≠ 0) (hk : k ≤ 1099511627776) (hl : l ≤ 1099511627776) :
  Calls Tryz.prog 84 #[v,u] w (zZA 0 w (edv z y) (z % y) (max k 1 + 1) (max k l + 1)) := by
 unfold edv
 by_cases hs : z.tmod y < 0
 ·have hc := zAC hs
  rw [if_pos hc,← (zPB hy).1 hs];exact zaF h0 h1 hy hk hl hc
 ·have hc := zxA (a := z.tmod y) (b := 0) (by omega)
  rw [if_neg hc,← (zPB hy).2 hs];exact (zZF h0 h1 hy hk hl hc).mono fun e w' ⟨rq,rr,q1,q2,q3,q4⟩ => ⟨rq,rr,q1,q2.more (by omega),q3.more (by omega),q4⟩
theorem exact_none {w : World} {v u : Value} {z y : Int} {k l : Nat} (h0 : Zi w v z k) (h1 : Zi w u y l) (hy : y = 0) : Calls Tryz.prog 85 #[v,u] w (zMA 4 w 0 k) :=
 (exact_zero_z h0 h1 hy).mono fun e w' ⟨h1,h2⟩ => ⟨_,h1,zLA _ _ _,h2⟩
theorem exact_yes {w : World} {v u : Value} {z y : Int} {k l : Nat} (h0 : Zi w v z k) (h1 : Zi w u y l) (hy : y ≠ 0) (hk : k ≤ 1099511627776) (hl : l ≤ 1099511627776) (hr : z.tmod y = 0) : Calls Tryz.prog 85 #[v,u] w (zMA 0 w (z.tdiv y) k) :=
 (zGI h0 h1 hy hk hl).mono fun e w' h => by
  rcases h with ⟨_,h⟩ | ⟨h,_⟩
  ·exact h
  ·exact absurd hr h
theorem exact_no {w : World} {v u : Value} {z y : Int} {k l : Nat} (h0 : Zi w v z k) (h1 : Zi w u y l) (hy : y ≠ 0) (hk : k ≤ 1099511627776) (hl : l ≤ 1099511627776) (hr : z.tmod y ≠ 0) : Calls Tryz.prog 85 #[v,u] w (zMA 8 w 0 k) :=
 (zGI h0 h1 hy hk hl).mono fun e w' h => by
  rcases h with ⟨h,_⟩ | ⟨_,h1,h2⟩
  ·exact absurd h hr
  ·exact ⟨_,h1,zLA _ _ _,h2⟩
theorem sign_cases (x : Int) : (x < 0 ∧ cmpI x 0 = -1) ∨ (x = 0 ∧ cmpI x 0 = 0) ∨ (0 < x ∧ cmpI x 0 = 1) := cmp_cases x 0
theorem zqH (R : Int) : cmpI R 0 < 0 ↔ R < 0 := by
 rcases sign_cases R with ⟨r1,r2⟩ | ⟨r1,r2⟩ | ⟨r1,r2⟩ <;> rw [r2] <;> omega
end Go.Proofs.YtkdobgbicnemcaaGreatDoor
namespace Go.Proofs.YtkdobgbicnemcaaGreatDoor
def dwB : Int := 65536
def IsD (x : Int) : Prop := 0 ≤ x ∧ x < dwB
def DF (xs : List Int) : Prop := ∀ x ∈ xs,IsD x
def dval : List Int → Int
 | [] => 0
 | x :: r => x + dwB * dval r
def dwid : List Int → Nat
 | [] => 0
 | x :: r => if dwid r = 0 then (if x = 0 then 0 else 1) else dwid r + 1
def dpw : Nat → Int
 | 0 => 1
 | n + 1 => dwB * dpw n
def zlC (xs : List Int) : Prop := DF xs ∧ dwid xs = xs.length
theorem DF.nil : DF [] := fun x h => by cases h
theorem DF.cons {x : Int} {r : List Int} (hx : IsD x) (hr : DF r) : DF (x :: r) := by
 intro y hy;rcases List.mem_cons.1 hy with rfl | h
 ·exact hx
 ·exact hr y h
theorem DF.head {x : Int} {r : List Int} (h : DF (x :: r)) : IsD x := h x (by simp)
theorem DF.tail {x : Int} {r : List Int} (h : DF (x :: r)) : DF r := fun y hy => h y (by simp [hy])
theorem DF.take {xs : List Int} (h : DF xs) (n : Nat) : DF (xs.take n) := fun x hx => h x (List.mem_of_mem_take hx)
theorem DF.append {xs ys : List Int} (h : DF xs) (k : DF ys) : DF (xs ++ ys) := by
 intro x hx;rcases List.mem_append.1 hx with q | q
 ·exact h x q
 ·exact k x q
theorem DF.get {xs : List Int} (h : DF xs) {i : Nat} (hi : i < xs.length) : IsD xs[i] := h _ (List.getElem_mem hi)
theorem DF.set {xs : List Int} (h : DF xs) (i : Nat) {x : Int} (hx : IsD x) : DF (xs.set i x) := by
 intro y hy;rcases List.mem_or_eq_of_mem_set hy with q | rfl
 ·exact h y q
 ·exact hx
theorem zjB : ∀ {xs : List Int},DF xs → 0 ≤ dval xs
 | [],_ => by simp [dval]
 | x :: r,h => by
  have h1 := h.head;have h2 := zjB h.tail;unfold IsD dwB at h1;unfold dval dwB;omega
theorem zPC : ∀ xs : List Int,dwid xs ≤ xs.length
 | [] => by simp [dwid]
 | x :: r => by
  have := zPC r;unfold dwid;split
  ·split <;> simp
  ·simp;omega
theorem zOC : ∀ xs : List Int,dwid xs = 0 → dval xs = 0
 | [],_ => rfl
 | x :: r,h => by
  unfold dwid at h
  split at h
  ·rename_i h0
   have := zOC r h0
   split at h
   ·rename_i hx;simp [dval,hx,this]
   ·cases h
  ·cases h
theorem zzB : ∀ {xs : List Int},DF xs → 0 < dwid xs → 0 < dval xs
 | [],_,h => by simp [dwid] at h
 | x :: r,hw,h => by
  have h1 := hw.head;have h2 := zjB hw.tail;unfold dwid at h;unfold IsD dwB at h1
  split at h
  ·split at h
   ·cases h
   ·unfold dval dwB;omega
  ·have := zzB hw.tail (by omega)
   unfold dval dwB;omega
theorem zQC : ∀ {xs ys : List Int},DF xs → DF ys → dwid xs < dwid ys → dval xs < dval ys
 | [],ys,_,hy,h => by
  have := zzB hy (by simp [dwid] at h;exact h)
  simpa [dval] using this
 | x :: xs,[],_,_,h => by simp [dwid] at h
 | x :: xs,y :: ys,hx,hy,h => by
  have hx1 := hx.head;have hy1 := hy.head;have vy := zjB hy.tail
  by_cases e : dwid ys = 0
  ·have : dwid (y :: ys) ≤ 1 := by unfold dwid;rw [if_pos e];split <;> simp
   have h0 : dwid (x :: xs) = 0 := by omega
   rw [zOC _ h0];exact zzB hy (by omega)
  ·have e1 : dwid (y :: ys) = dwid ys + 1 := by rw [dwid,if_neg e]
   have e2 : dwid xs < dwid ys := by
    by_cases q : dwid xs = 0
    ·omega
    ·have : dwid (x :: xs) = dwid xs + 1 := by rw [dwid,if_neg q]
     omega
   have := zQC hx.tail hy.tail e2;unfold IsD dwB at hx1 hy1;unfold dval dwB;omega
theorem dcanon_zero : ∀ {ys : List Int},zlC ys → dval ys = 0 → ys = []
 | [],_,_ => rfl
 | y :: ys,hy,h => by
  exfalso
  have h2 := hy.2;have := zzB hy.1 (by rw [h2];simp);omega
def dlst (xs : List Int) : List Int := xs.take (dwid xs)
theorem dlength_lst (xs : List Int) : (dlst xs).length = dwid xs := by unfold dlst;have := zPC xs;simp;omega
theorem zRG (x : Int) (r : List Int) : dlst (x :: r) = if dwid r = 0 then (if x = 0 then [] else [x]) else x :: dlst r := by
 have e : dwid (x :: r) = if dwid r = 0 then (if x = 0 then 0 else 1) else dwid r + 1 := by rw [dwid]
 unfold dlst;rw [e]
 split
 ·split <;> simp
 ·simp
theorem zSC : ∀ xs : List Int,dval (dlst xs) = dval xs
 | [] => rfl
 | x :: r => by
  rw [zRG]
  split
  ·rename_i h0
   have := zOC r h0
   split
   ·rename_i hx;simp [dval,hx,this]
   ·simp [dval,this]
  ·simp [dval,zSC r]
theorem zRH : ∀ xs : List Int,dwid (dlst xs) = dwid xs
 | [] => rfl
 | x :: r => by
  rw [zRG,dwid]
  split
  ·split
   ·rfl
   ·rename_i hx;simp [dwid,hx]
  ·rename_i h0
   rw [dwid,zRH r,if_neg h0]
theorem dcanon_lst {xs : List Int} (h : DF xs) : zlC (dlst xs) := ⟨h.take _,by rw [zRH,dlength_lst]⟩
theorem ziC : ∀ {xs : List Int} {n : Nat},n ≤ xs.length → (∀ j (h : j < xs.length),n ≤ j → xs[j] = 0) → (0 < n → ∀ h' : n - 1 < xs.length,xs[n - 1] ≠ 0) → dwid xs = n
 | [],n,hn,_,_ => by simp at hn;simp [dwid,hn]
 | x :: r,0,_,hz,_ => by
  have h0 : dwid r = 0 := ziC (Nat.zero_le _) (fun j h _ => by have := hz (j + 1) (by simpa using h) (by omega);simpa using this) (fun h => by omega);have hx : x = 0 := hz 0 (by simp) (by omega);simp [dwid,h0,hx]
 | x :: r,1,_,hz,ht => by
  have h0 : dwid r = 0 := ziC (Nat.zero_le _) (fun j h _ => by have := hz (j + 1) (by simpa using h) (by omega);simpa using this) (fun h => by omega);have hx : x ≠ 0 := by simpa using ht (by omega) (by simp)
  simp [dwid,h0,hx]
 | x :: r,n + 2,hn,hz,ht => by
  have h0 : dwid r = n + 1 := by
   refine ziC (by simpa using hn) (fun j h hj => ?_) (fun _ h' => ?_)
   ·have := hz (j + 1) (by simpa using h) (by omega);simpa using this
   ·have := ht (by omega) (by simpa using h');simpa using this
  simp [dwid,h0]
theorem zcF : ∀ {xs : List Int},DF xs → dval xs < dpw xs.length
 | [],_ => by simp [dval,dpw]
 | x :: r,h => by
  have h1 := h.head;have h2 := zcF h.tail;unfold IsD dwB at h1;simp only [List.length_cons];unfold dval dpw dwB;omega
theorem zfG : ∀ n,0 < dpw n
 | 0 => by simp [dpw]
 | n + 1 => by have := zfG n;unfold dpw dwB;omega
theorem zHB : ∀ (xs ys : List Int),dval (xs ++ ys) = dval xs + dpw xs.length * dval ys
 | [],ys => by simp [dval,dpw]
 | x :: r,ys => by
  simp only [List.cons_append,List.length_cons,dval,dpw,zHB r ys];rw [Int.mul_add,Int.mul_assoc];omega
theorem zRC : ∀ (xs : List Int) (i : Nat) (z : Int) (h : i < xs.length),dval (xs.set i z) = dval xs + (z - xs[i]) * dpw i
 | [],i,z,h => by simp at h
 | x :: r,0,z,_ => by simp [dval,dpw];omega
 | x :: r,i + 1,z,h => by
  have := zRC r i z (by simpa using h);simp only [List.set_cons_succ,List.getElem_cons_succ,dval,dpw,this];have h' : i < r.length := by simpa using h
  generalize hq : z - r[i]'h' = q;rw [Int.mul_add,← Int.mul_assoc,← Int.mul_assoc,Int.mul_comm dwB q];omega
theorem zDC (ys : List Int) (i : Nat) (h : i < ys.length) : dval (ys.take (i + 1)) = dval (ys.take i) + ys[i] * dpw i := by
 rw [List.take_succ_eq_append_getElem h,zHB];simp [dval,Int.mul_comm,Nat.min_eq_left (Nat.le_of_lt h)]
theorem zJI : ∀ {xs ys : List Int} {j : Nat},DF xs → DF ys → (hl : xs.length = ys.length) → (h : j < xs.length) → xs.drop (j + 1) = ys.drop (j + 1) → xs[j] ≠ ys[j]'(by omega) → cmpI (dval xs) (dval ys) = cmpI xs[j] (ys[j]'(by omega))
 | [],_,_,_,_,_,h,_,_ => by simp at h
 | x :: xs,[],_,_,_,hl,_,_,_ => by simp at hl
 | x :: xs,y :: ys,0,hx,hy,_,_,hd,hne => by
  simp only [List.drop_succ_cons,List.drop_zero] at hd;simp only [List.getElem_cons_zero] at hne ⊢;have hx1 := hx.head;have hy1 := hy.head;unfold IsD dwB at hx1 hy1;subst hd;simp only [cmpI,dval];have e1 : (x + dwB * dval xs < y + dwB * dval xs) ↔ x < y := by omega
  have e2 : (y + dwB * dval xs < x + dwB * dval xs) ↔ y < x := by omega
  simp only [e1,e2]
 | x :: xs,y :: ys,j + 1,hx,hy,hl,h,hd,hne => by
  simp only [List.drop_succ_cons] at hd;simp only [List.getElem_cons_succ] at hne ⊢;have ih := zJI hx.tail hy.tail (by simpa using hl) (by simpa using h) hd hne;have hx1 := hx.head;have hy1 := hy.head;unfold IsD dwB at hx1 hy1;rw [← ih];have hne' : dval xs ≠ dval ys := by
   intro e;rw [e,cmpI_self] at ih;exact hne (cmpI_zero ih.symm)
  rcases Int.lt_or_gt_of_ne hne' with q | q
  ·rw [zhA q,zhA (by unfold dval dwB;omega)]
  ·rw [ziA q,ziA (by unfold dval dwB;omega)]
theorem dcmp_widths {xs ys : List Int} (hx : DF xs) (hy : DF ys) (h : dwid xs ≠ dwid ys) : cmpI (dval xs) (dval ys) = cmpI (dwid xs) (dwid ys) := by
 rcases Nat.lt_or_gt_of_ne h with q | q
 ·rw [zhA (zQC hx hy q),zhA (by omega)]
 ·rw [ziA (zQC hy hx q),ziA (by omega)]
theorem zTH {xs : List Int} {j : Nat} (h : j < dwid xs) : (dlst xs)[j]'(by rw [dlength_lst];exact h) = xs[j]'(by have := zPC xs;omega) := by simp [dlst]
theorem dcarry_step {xs zs : List Int} {ysT ysT' p y s d c : Int} {i : Nat} (hi : i < zs.length) (hv : dval zs + dpw i * c = dval xs + ysT) (hT : ysT' = ysT + y * dpw i)
  (hs : s + dwB * d = zs[i] + y + c) (hp : p = dpw (i + 1)) : dval (zs.set i s) + p * d = dval xs + ysT' := by
 subst hp;rw [zRC zs i s hi,hT];generalize hz : zs[i] = z at *;have e : s = z + y + c - dwB * d := by omega
 subst e;simp only [dpw,Int.sub_mul,Int.add_mul,Int.mul_assoc,Int.mul_comm c (dpw i),Int.mul_comm d (dpw i)];omega
theorem dborrow_step {xs zs : List Int} {ysT ysT' p y s d c : Int} {i : Nat} (hi : i < zs.length) (hv : dval zs - dpw i * c = dval xs - ysT) (hT : ysT' = ysT + y * dpw i)
  (hs : s - dwB * d = zs[i] - y - c) (hp : p = dpw (i + 1)) : dval (zs.set i s) - p * d = dval xs - ysT' := by
 subst hp;rw [zRC zs i s hi,hT];generalize hz : zs[i] = z at *;have e : s = z - y - c + dwB * d := by omega
 subst e;simp only [dpw,Int.sub_mul,Int.add_mul,Int.mul_assoc,Int.mul_comm c (dpw i),Int.mul_comm d (dpw i)];omega
theorem zQH : ∀ {xs : List Int} {n : Nat},dwid xs = n + 1 → ∃ h : n < xs.length,xs[n] ≠ 0
 | [],n,h => by simp [dwid] at h
 | x :: r,n,h => by
  unfold dwid at h
  split at h
  ·split at h
   ·cases h
   ·have : n = 0 := by omega
    subst this;exact ⟨by simp,by simpa⟩
  ·rename_i hr
   obtain ⟨m,hm⟩ : ∃ m,dwid r = m + 1 := ⟨dwid r - 1,by omega⟩
   obtain ⟨h1,h2⟩ := zQH hm;have : n = m + 1 := by omega
   subst this;exact ⟨by simpa using h1,by simpa using h2⟩
open Go.RowKit
def SlI (B : Nat) (w : World) (v : Value) (ps : List Int) : Prop :=
 (∀ p ∈ ps,-9223372036854775808 ≤ p ∧ p ≤ 9223372036854775807) ∧ ∃ a cap,v = .slice a ps.length cap ∧ ps.length ≤ cap ∧ cap ≤ 35184372088832 ∧
  (ps = [] ∨ ∃ b off,a = some ⟨b,off,none⟩ ∧ b < B ∧ ∀ j (h : j < ps.length),w.cell? ⟨b,off + j,none⟩ = some (.int .i64 ps[j]))
theorem SlI.now {w w' : World} {v : Value} {xs : List Int} (h : SlI w.heap.size w v xs) (hb : Below w.heap.size w w') : SlI w'.heap.size w' v xs := by
 obtain ⟨h1,a,cap,h2,h3,h4,h5⟩ := h;refine ⟨h1,a,cap,h2,h3,h4,?_⟩;rcases h5 with h5 | ⟨b,off,h6,h7,h8⟩
 ·exact .inl h5
 ·exact .inr ⟨b,off,h6,Nat.lt_of_lt_of_le h7 hb.size,fun j hj => (hb.cell (p := ⟨b,off + j,none⟩) h7).trans (h8 j hj)⟩
theorem SlI.below {B : Nat} {w w' : World} {v : Value} {xs : List Int} (h : SlI B w v xs) (hb : Below B w w') : SlI B w' v xs := by
 obtain ⟨h1,a,cap,h2,h3,h4,h5⟩ := h;refine ⟨h1,a,cap,h2,h3,h4,?_⟩;rcases h5 with h5 | ⟨b,off,h6,h7,h8⟩
 ·exact .inl h5
 ·exact .inr ⟨b,off,h6,h7,fun j hj => (hb.cell (p := ⟨b,off + j,none⟩) h7).trans (h8 j hj)⟩
theorem zpG {B : Nat} {w : World} {v : Value} {xs : List Int} (h : SlI B w v xs) :
  Calls Tryz.prog 127 #[v] w fun e w' => ∃ r,e = .returned r ∧ SlI B w r (dlst xs) ∧ w' = w := by
 have hs := h;obtain ⟨hw,a,cap,rfl,hlc,hcm,hm⟩ := h;have HW : Hid (∀ n : Nat,n ≤ xs.length → (∀ j (h : j < xs.length),n ≤ j → xs[j] = 0) → (0 < n → ∀ h' : n - 1 < xs.length,xs[n - 1] ≠ 0) → dwid xs = n) := fun n h1 h2 h3 => ziC h1 h2 h3
 have HF : Hid (∀ n,dwid xs = n → SlI B w (.slice a n cap) (dlst xs)) := fun n hn => by
  subst hn;have l := zPC xs;refine ⟨fun p hp => hw p (List.mem_of_mem_take hp),a,cap,by rw [dlength_lst],by rw [dlength_lst];omega,hcm,?_⟩;rcases hm with rfl | ⟨b,off,h1,h2,h3⟩
  ·exact .inl rfl
  ·refine .inr ⟨b,off,h1,h2,fun j hj => ?_⟩
   rw [dlength_lst] at hj;rw [h3 j (by omega),zTH hj]
 have HM := hid hm;clear hs;go_enter Tryz.func127,Tryz.ntmps127;go_wp2
 go_loop [3] (fun i => ∃ n : Nat,n ≤ xs.length ∧ i = .int .i64 n ∧ ∀ j (h : j < xs.length),n ≤ j → xs[j] = 0) (fun i => (intOf i).toNat)
 case atStart => exact ⟨xs.length,Nat.le_refl _,rfl,fun j h h' => by omega⟩
 case round =>
  obtain ⟨n,hn,rfl,hz⟩ := hrel;have HZ := hid hz;clear hz hm
  by_cases h0 : n = 0
  ·subst h0
   go_wp2;go_ret;exact ⟨_,rfl,HF.out 0 (HW.out 0 (by omega) HZ.out (by omega)),rfl⟩
  ·obtain ⟨k,rfl⟩ : ∃ k,n = k + 1 := ⟨n - 1,by omega⟩
   rcases HM.out with rfl | ⟨b,off,rfl,hb,hc⟩
   ·simp at hn
   ·have hk : k < xs.length := by omega
    have hck := hc k hk;obtain ⟨x,hx⟩ : ∃ x,x = xs[k] := ⟨_,rfl⟩
    rw [← hx] at hck;have HX : Hid (x = xs[k]) := hx;clear hx hc h0
    by_cases hx0 : x = 0
    ·have ht : (x == 0) = true := by simp [hx0]
     go_wp2;go_round
     case rel =>
      refine ⟨k,by omega,rfl,fun j h hj => ?_⟩
      by_cases e : j = k
      ·subst e;rw [← HX.out];exact hx0
      ·exact HZ.out j h (by omega)
     case measure => simp [intOf]
    ·have ht : (x == 0) = false := by simp [hx0]
     go_wp2;go_ret;exact ⟨_,rfl,HF.out (k + 1) (HW.out (k + 1) hn HZ.out (fun _ h' => by have := HX.out;simp at h' ⊢;rw [← this];exact hx0)),rfl⟩
theorem zKI {B : Nat} {w : World} {v : Value} {xs : List Int} (h : SlI B w v xs) (k : Nat) :
  Calls Tryz.prog 100 #[v,.int .i64 (k : Int)] w fun e w' => e = .returned (.int .i64 (xs.getD k 0)) ∧ w' = w := by
 obtain ⟨hw,a,cap,rfl,hlc,hcm,hm⟩ := h
 by_cases hk : k < xs.length
 ·rcases hm with rfl | ⟨b,off,rfl,hb,hc⟩
  ·simp at hk
  have c1 := hc k hk;have e : xs.getD k 0 = xs[k] := by simp [hk]
  rw [e];generalize xs[k] = x at *;clear hc e;go_enter Tryz.func100,Tryz.ntmps100;go_wp2;go_ret;exact ⟨rfl,rfl⟩
 ·have e : xs.getD k 0 = 0 := by simp [show xs.length ≤ k by omega]
  rw [e];clear hm e;go_enter Tryz.func100,Tryz.ntmps100;go_wp2;go_ret;exact ⟨rfl,rfl⟩
theorem zeG {w wr : World} (h : ∃ q,wr = w.drewN q) (n : Nat) : ∃ q,wr.drewN n = w.drewN q := by obtain ⟨q,rfl⟩ := h;exact ⟨q + n,by rw [World.drewN_drewN]⟩
def RowI (w : World) (g : Nat) (L : List Value) : Prop := w.heap[g]? = some (.cells L.toArray 3 (0,0))
theorem RowI.lt {w : World} {g : Nat} {L : List Value} (h : RowI w g L) : g < w.heap.size := (Array.getElem?_eq_some_iff.1 h).1
theorem RowI.cell {w : World} {g : Nat} {L : List Value} (h : RowI w g L) {i : Nat} (hi : i < L.length) : w.cell? ⟨g,i,none⟩ = some L[i] := by
 unfold RowI at h;simp [World.cell?,h,hi]
theorem RowI.frozen {w : World} {g : Nat} {L : List Value} (h : RowI w g L) (i : Nat) : w.frozen? ⟨g,i,none⟩ = false := by
 unfold RowI at h;simp [World.frozen?,h]
theorem RowI.set {w : World} {g : Nat} {L : List Value} (h : RowI w g L) (i : Nat) (u : Value) : RowI (w.setCell ⟨g,i,none⟩ u) g (L.set i u) := by
 unfold RowI at h ⊢;simp [World.setCell,Array.getElem?_modify,h]
theorem RowI.alloc {w : World} {g : Nat} {L : List Value} (h : RowI w g L) (o : Obj) : RowI (w.alloc o) g L := (Below.heap_alloc w o g h.lt).trans h
theorem RowI.below {w w' : World} {g B : Nat} {L : List Value} (h : RowI w g L) (hb : Below B w w') (hg : g < B) : RowI w' g L := (hb.block g hg).trans h
def wi (xs : List Int) : List Value := xs.map (Value.int .i64)
theorem zUD (xs : List Int) : (wi xs).length = xs.length := by simp [wi]
theorem wi_set (xs : List Int) (r : List Value) (i : Nat) (h : i < xs.length) (z : Int) : (wi xs ++ r).set i (.int .i64 z) = wi (xs.set i z) ++ r := by
 rw [List.set_append_left _ _ (by rw [zUD];exact h),wi,wi,List.map_set]
theorem RowI.num {w : World} {g : Nat} {xs : List Int} {r : List Value} (h : RowI w g (wi xs ++ r)) {i : Nat} (hi : i < xs.length) : w.cell? ⟨g,i,none⟩ = some (.int .i64 xs[i]) := by
 rw [h.cell (i := i) (by simp [zUD];omega)];simp [wi,hi]
theorem RowI.setNum {w : World} {g : Nat} {xs : List Int} {r : List Value} (h : RowI w g (wi xs ++ r)) {i : Nat} (hi : i < xs.length) (z : Int) : RowI (w.setCell ⟨g,i,none⟩ (.int .i64 z)) g (wi (xs.set i z) ++ r) := by
 rw [← wi_set xs r i hi];exact h.set i _
theorem Tryz.infoI : (Tryz.prog.info? 3).map (fun i => (i.zero,i.size,i.bytes)) = some (some (.int .i64 0),1,8) := by kernel_rfl
theorem madeCells_ints (m : Nat) : madeCells (Value.int .i64 0).cells m = (wi (List.replicate m 0)).toArray := by
 apply Array.ext
 ·simp [size_madeCells,wi]
 ·intro i h1 h2
  simp [madeCells,wi,Value.cells,Nat.mod_one]
theorem zfA (w : World) {ops : Array Oper} {rest : List Oper} {o : Oper} {a : Act} {Q : Exit → Act → World → Prop}
  (hg : o.guard = none) (l c : Operand) (hop : o.op = Op.makeSlice 84 l c)
  (L C : Int) (n m : Nat) (hl : a.eval l = .int .i64 L) (hc : a.eval c = .int .i64 C) (hL : L = (n : Int)) (hC : C = (m : Int)) (hnm : n ≤ m) (hm : m ≤ 35184372088832)
  (hK : ∀ w',RowI w' w.heap.size (wi (List.replicate m 0)) → Below w.heap.size w w' → Hid (w'.heap.size = w.heap.size + 1) → wpList Tryz.prog ops Q rest (a.put o.dst (.slice (some ⟨w.heap.size,0,none⟩) n m)) w') :
  wpList Tryz.prog ops Q (o :: rest) a w := by
 refine wpList_plain hg fun K hK' => ?_
 obtain ⟨i,hi,hz,hs,hb⟩ := info_parts Tryz.infoI;have hrun := run_make (P := Tryz.prog) w 84 3 i (.int .i64 0) Tryz.underlying84 hi hz .i64 .i64 n m (by omega) (by omega) (by rw [hb];omega) (by omega);subst hL;subst hC;rw [hs,Nat.mul_one,Int.toNat_natCast,Int.toNat_natCast,madeCells_ints] at hrun;unfold Oper.wp;simp [execOp,hop,hl,hc,hrun,Result.andThen];refine hK' _ _ (hK _ ?_ ((Below.refl _ _).alloc (Nat.le_refl _) _) ?_)
 ·unfold RowI;exact heap_alloc_new w _
 ·unfold Hid;simp
theorem RowI.sl {w : World} {g : Nat} {xs : List Int} {r : List Value} (h : RowI w g (wi xs ++ r)) (hw : ∀ p ∈ xs,-9223372036854775808 ≤ p ∧ p ≤ 9223372036854775807) {cap : Nat} (hc : xs.length ≤ cap) (hm : cap ≤ 35184372088832) {B : Nat} (hB : g < B) :
  SlI B w (.slice (some ⟨g,0,none⟩) xs.length cap) xs :=
 ⟨hw,_,cap,rfl,hc,hm,.inr ⟨g,0,rfl,hB,fun j hj => by rw [Nat.zero_add];exact h.num hj⟩⟩
theorem zsB (w : World) {ops : Array Oper} {rest : List Oper} {o : Oper} {a : Act} {Q : Exit → Act → World → Prop}
  (hg : o.guard = none) (s x : Operand) (hop : o.op = Op.call { callee := Callee.builtin Builtin.append,args := #[s,x],argTypes := #[84,84] })
  (g n cap : Nat) (zs : List Int) (r : List Value) (c : Int) (hrow : RowI w g (wi zs ++ r)) (hn : zs.length = n) (hr : 0 < r.length) (hcap : cap = n + r.length) (hs : a.eval s = .slice (some ⟨g,0,none⟩) n cap)
  (ad : Addr) (hx : a.eval x = .slice (some ad) 1 1) (hc : w.cell? ad = some (.int .i64 c))
  (hK : ∀ w',RowI w' g (wi (zs ++ [c]) ++ r.tail) → Below g w w' → wpList Tryz.prog ops Q rest (a.put o.dst (.slice (some ⟨g,0,none⟩) (n + 1) cap)) w') :
  wpList Tryz.prog ops Q (o :: rest) a w := by
 obtain ⟨i,hi,hz,hsz,hb⟩ := info_parts Tryz.infoI;subst hn;have hlw : (wi zs).length = zs.length := by simp [wi]
 have hrun := run_append_room (P := Tryz.prog) w 84 o.type 3 i Tryz.underlying84 hi g zs.length cap (wi zs ++ r).toArray hrow ad 1 1 [.int .i64 c] (by simp [hsz])
  (by intro j u hj;match j,hj with | 0,hj => simp at hj;subst hj;simpa [Addr.add] using hc) (by intro u hu;simp at hu;subst hu;rfl) (by omega) (by simp [hsz,hlw];omega)
 have e : (wi zs ++ r).take (zs.length * i.size) ++ [Value.int .i64 c] ++ (wi zs ++ r).drop (zs.length * i.size + 1) = wi (zs ++ [c]) ++ r.tail := by
  rw [hsz,Nat.mul_one,List.take_append_of_le_length (by omega),List.take_of_length_le (by omega),List.drop_append,List.drop_of_length_le (by omega),hlw,show zs.length + 1 - zs.length = 1 by omega];simp [wi]
 rw [List.toList_toArray,show [Value.int .i64 c].length = 1 from rfl,e] at hrun;refine wpList_plain hg fun K hK' => ?_
 unfold Oper.wp;simp [execOp,hop,resolve,invoke,builtin,hs,hx,hrun,Result.andThen];refine hK' _ _ (hK _ ?_ (below_setRow (Below.refl _ _) (Nat.le_refl _) _));unfold RowI;exact setRow_heap w g _ _ _ _ hrow
theorem zrB (w : World) {ops : Array Oper} {rest : List Oper} {o : Oper} {a : Act} {Q : Exit → Act → World → Prop}
  (hg : o.guard = none) (s x : Operand) (hop : o.op = Op.call { callee := Callee.builtin Builtin.append,args := #[s,x],argTypes := #[24,24] })
  (g n cap : Nat) (zs : List Int) (r : List Value) (c : Int) (hrow : Row w g (ws zs ++ r)) (hn : zs.length = n) (hr : 0 < r.length) (hcap : cap = n + r.length) (hs : a.eval s = .slice (some ⟨g,0,none⟩) n cap)
  (ad : Addr) (hx : a.eval x = .slice (some ad) 1 1) (hc : w.cell? ad = some (.int .u64 c))
  (hK : ∀ w',Row w' g (ws (zs ++ [c]) ++ r.tail) → Below g w w' → wpList Tryz.prog ops Q rest (a.put o.dst (.slice (some ⟨g,0,none⟩) (n + 1) cap)) w') :
  wpList Tryz.prog ops Q (o :: rest) a w := by
 obtain ⟨i,hi,hz,hsz,hb⟩ := info_parts Tryz.infoW;subst hn;have hlw : (ws zs).length = zs.length := by simp [ws]
 have hrun := run_append_room (P := Tryz.prog) w 24 o.type 53 i Tryz.underlying24 hi g zs.length cap (ws zs ++ r).toArray hrow ad 1 1 [.int .u64 c] (by simp [hsz])
  (by intro j u hj;match j,hj with | 0,hj => simp at hj;subst hj;simpa [Addr.add] using hc) (by intro u hu;simp at hu;subst hu;rfl) (by omega) (by simp [hsz,hlw];omega)
 have e : (ws zs ++ r).take (zs.length * i.size) ++ [Value.int .u64 c] ++ (ws zs ++ r).drop (zs.length * i.size + 1) = ws (zs ++ [c]) ++ r.tail := by
  rw [hsz,Nat.mul_one,List.take_append_of_le_length (by omega),List.take_of_length_le (by omega),List.drop_append,List.drop_of_length_le (by omega),hlw,show zs.length + 1 - zs.length = 1 by omega];simp [ws]
 rw [List.toList_toArray,show [Value.int .u64 c].length = 1 from rfl,e] at hrun;refine wpList_plain hg fun K hK' => ?_
 unfold Oper.wp;simp [execOp,hop,resolve,invoke,builtin,hs,hx,hrun,Result.andThen];refine hK' _ _ (hK _ ?_ (below_setRow (Below.refl _ _) (Nat.le_refl _) _));unfold Row;exact setRow_heap w g _ _ _ _ hrow
end Go.Proofs.YtkdobgbicnemcaaGreatDoor
