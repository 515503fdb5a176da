import Derived.Below
set_option maxRecDepth 100000
set_option maxHeartbeats 6400000
set_option linter.unusedVariables false
set_option linter.unusedSimpArgs false
namespace Go.Proofs.Ytlhjogiefbjklaa
def wB : Int := 18446744073709551616
def IsW (x : Int) : Prop := 0 ≤ x ∧ x < wB
def WF (xs : List Int) : Prop := ∀ x ∈ xs,IsW x
def val : List Int → Int
 | [] => 0
 | x :: r => x + wB * val r
def wid : List Int → Nat
 | [] => 0
 | x :: r => if wid r = 0 then (if x = 0 then 0 else 1) else wid r + 1
def pw : Nat → Int
 | 0 => 1
 | n + 1 => wB * pw n
def zEA (xs : List Int) : Prop := WF xs ∧ wid xs = xs.length
def cmpI (a b : Int) : Int := if a < b then -1 else if b < a then 1 else 0
theorem zqA {a b : Int} (h : a < b) : cmpI a b = -1 := by unfold cmpI;rw [if_pos h]
theorem zrA {a b : Int} (h : b < a) : cmpI a b = 1 := by unfold cmpI;rw [if_neg (by omega),if_pos h]
theorem cmpI_self (a : Int) : cmpI a a = 0 := by unfold cmpI;rw [if_neg (by omega),if_neg (by omega)]
theorem cmpI_zero {a b : Int} (h : cmpI a b = 0) : a = b := by
 rcases Int.lt_trichotomy a b with q | q | q
 ·rw [zqA q] at h;omega
 ·exact q
 ·rw [zrA q] at h;omega
theorem WF.nil : WF [] := fun x h => by cases h
theorem WF.cons {x : Int} {r : List Int} (hx : IsW x) (hr : WF r) : WF (x :: r) := by
 intro y hy;rcases List.mem_cons.1 hy with rfl | h
 ·exact hx
 ·exact hr y h
theorem WF.head {x : Int} {r : List Int} (h : WF (x :: r)) : IsW x := h x (by simp)
theorem WF.tail {x : Int} {r : List Int} (h : WF (x :: r)) : WF r := fun y hy => h y (by simp [hy])
theorem WF.take {xs : List Int} (h : WF xs) (n : Nat) : WF (xs.take n) := fun x hx => h x (List.mem_of_mem_take hx)
theorem WF.append {xs ys : List Int} (h : WF xs) (k : WF ys) : WF (xs ++ ys) := by
 intro x hx;rcases List.mem_append.1 hx with q | q
 ·exact h x q
 ·exact k x q
theorem WF.get {xs : List Int} (h : WF xs) {i : Nat} (hi : i < xs.length) : IsW xs[i] := h _ (List.getElem_mem hi)
theorem WF.set {xs : List Int} (h : WF xs) (i : Nat) {x : Int} (hx : IsW x) : WF (xs.set i x) := by
 intro y hy;rcases List.mem_or_eq_of_mem_set hy with q | rfl
 ·exact h y q
 ·exact hx
theorem val_nonneg : ∀ {xs : List Int},WF xs → 0 ≤ val xs
 | [],_ => by simp [val]
 | x :: r,h => by
  have h1 := h.head;have h2 := val_nonneg h.tail;unfold IsW wB at h1;unfold val wB;omega
theorem zGA : ∀ xs : List Int,wid xs ≤ xs.length
 | [] => by simp [wid]
 | x :: r => by
  have := zGA r;unfold wid;split
  ·split <;> simp
  ·simp;omega
theorem zeA : ∀ xs : List Int,wid xs = 0 → val xs = 0
 | [],_ => rfl
 | x :: r,h => by
  unfold wid at h
  split at h
  ·rename_i h0
   have := zeA r h0
   split at h
   ·rename_i hx;simp [val,hx,this]
   ·cases h
  ·cases h
theorem zZA : ∀ {xs : List Int},WF xs → 0 < wid xs → 0 < val xs
 | [],_,h => by simp [wid] at h
 | x :: r,hw,h => by
  have h1 := hw.head;have h2 := val_nonneg hw.tail;unfold wid at h;unfold IsW wB at h1
  split at h
  ·split at h
   ·cases h
   ·unfold val wB;omega
  ·have := zZA hw.tail (by omega)
   unfold val wB;omega
theorem zDB : ∀ {xs ys : List Int},WF xs → WF ys → wid xs < wid ys → val xs < val ys
 | [],ys,_,hy,h => by
  have := zZA hy (by simp [wid] at h;exact h)
  simpa [val] using this
 | x :: xs,[],_,_,h => by simp [wid] at h
 | x :: xs,y :: ys,hx,hy,h => by
  have hx1 := hx.head;have hy1 := hy.head;have vy := val_nonneg hy.tail
  by_cases e : wid ys = 0
  ·have : wid (y :: ys) ≤ 1 := by unfold wid;rw [if_pos e];split <;> simp
   have h0 : wid (x :: xs) = 0 := by omega
   rw [zeA _ h0];exact zZA hy (by omega)
  ·have e1 : wid (y :: ys) = wid ys + 1 := by rw [wid,if_neg e]
   have e2 : wid xs < wid ys := by
    by_cases q : wid xs = 0
    ·omega
    ·have : wid (x :: xs) = wid xs + 1 := by rw [wid,if_neg q]
     omega
   have := zDB hx.tail hy.tail e2;unfold IsW wB at hx1 hy1;unfold val wB;omega
theorem zSC {x : Int} {r : List Int} (h : zEA (x :: r)) : zEA r := by
 refine ⟨h.1.tail,?_⟩;have h2 := h.2;unfold wid at h2
 split at h2
 ·split at h2
  ·simp at h2
  ·simp only [List.length_cons] at h2;omega
 ·simp only [List.length_cons] at h2;omega
theorem zRC : ∀ {ys : List Int},zEA ys → val ys = 0 → ys = []
 | [],_,_ => rfl
 | y :: ys,hy,h => by
  exfalso
  have h2 := hy.2;have := zZA hy.1 (by rw [h2];simp);omega
theorem canon_inj : ∀ {xs ys : List Int},zEA xs → zEA ys → val xs = val ys → xs = ys
 | [],ys,_,hy,h => (zRC hy (by simpa [val] using h.symm)).symm
 | x :: xs,[],hx,_,h => zRC hx (by simpa [val] using h)
 | x :: xs,y :: ys,hx,hy,h => by
  have hx1 := hx.1.head;have hy1 := hy.1.head;unfold IsW wB at hx1 hy1;unfold val wB at h;have e1 : x = y := by omega
  have e2 : val xs = val ys := by omega
  rw [e1,canon_inj (zSC hx) (zSC hy) e2]
def lst (xs : List Int) : List Int := xs.take (wid xs)
theorem length_lst (xs : List Int) : (lst xs).length = wid xs := by unfold lst;have := zGA xs;simp;omega
theorem zeE (x : Int) (r : List Int) : lst (x :: r) = if wid r = 0 then (if x = 0 then [] else [x]) else x :: lst r := by
 have e : wid (x :: r) = if wid r = 0 then (if x = 0 then 0 else 1) else wid r + 1 := by rw [wid]
 unfold lst;rw [e]
 split
 ·split <;> simp
 ·simp
theorem val_lst : ∀ xs : List Int,val (lst xs) = val xs
 | [] => rfl
 | x :: r => by
  rw [zeE]
  split
  ·rename_i h0
   have := zeA r h0
   split
   ·rename_i hx;simp [val,hx,this]
   ·simp [val,this]
  ·simp [val,val_lst r]
theorem zrE : ∀ xs : List Int,wid (lst xs) = wid xs
 | [] => rfl
 | x :: r => by
  rw [zeE,wid]
  split
  ·split
   ·rfl
   ·rename_i hx;simp [wid,hx]
  ·rename_i h0
   rw [wid,zrE r,if_neg h0]
theorem canon_lst {xs : List Int} (h : WF xs) : zEA (lst xs) := ⟨h.take _,by rw [zrE,length_lst]⟩
theorem wid_is : ∀ {xs : List Int} {n : Nat},n ≤ xs.length → (∀ j (h : j < xs.length),n ≤ j → xs[j] = 0) → (0 < n → ∀ h' : n - 1 < xs.length,xs[n - 1] ≠ 0) → wid xs = n
 | [],n,hn,_,_ => by simp at hn;simp [wid,hn]
 | x :: r,0,_,hz,_ => by
  have h0 : wid r = 0 := wid_is (Nat.zero_le _) (fun j h _ => by have := hz (j + 1) (by simpa using h) (by omega);simpa using this) (fun h => by omega);have hx : x = 0 := hz 0 (by simp) (by omega);simp [wid,h0,hx]
 | x :: r,1,_,hz,ht => by
  have h0 : wid r = 0 := wid_is (Nat.zero_le _) (fun j h _ => by have := hz (j + 1) (by simpa using h) (by omega);simpa using this) (fun h => by omega);have hx : x ≠ 0 := by simpa using ht (by omega) (by simp)
  simp [wid,h0,hx]
 | x :: r,n + 2,hn,hz,ht => by
  have h0 : wid r = n + 1 := by
   refine wid_is (by simpa using hn) (fun j h hj => ?_) (fun _ h' => ?_)
   ·have := hz (j + 1) (by simpa using h) (by omega);simpa using this
   ·have := ht (by omega) (by simpa using h');simpa using this
  simp [wid,h0]
theorem zVA : ∀ {xs : List Int},WF xs → val xs < pw xs.length
 | [],_ => by simp [val,pw]
 | x :: r,h => by
  have h1 := h.head;have h2 := zVA h.tail;unfold IsW wB at h1;simp only [List.length_cons];unfold val pw wB;omega
theorem zhA : ∀ n,0 < pw n
 | 0 => by simp [pw]
 | n + 1 => by have := zhA n;unfold pw wB;omega
theorem zbA : ∀ (xs ys : List Int),val (xs ++ ys) = val xs + pw xs.length * val ys
 | [],ys => by simp [val,pw]
 | x :: r,ys => by
  simp only [List.cons_append,List.length_cons,val,pw,zbA r ys];rw [Int.mul_add,Int.mul_assoc];omega
theorem zwA : ∀ (xs : List Int) (i : Nat) (z : Int) (h : i < xs.length),val (xs.set i z) = val xs + (z - xs[i]) * pw i
 | [],i,z,h => by simp at h
 | x :: r,0,z,_ => by simp [val,pw];omega
 | x :: r,i + 1,z,h => by
  have := zwA r i z (by simpa using h);simp only [List.set_cons_succ,List.getElem_cons_succ,val,pw,this];have h' : i < r.length := by simpa using h
  generalize hq : z - r[i]'h' = q;rw [Int.mul_add,← Int.mul_assoc,← Int.mul_assoc,Int.mul_comm wB q];omega
theorem zOA (ys : List Int) (i : Nat) (h : i < ys.length) : val (ys.take (i + 1)) = val (ys.take i) + ys[i] * pw i := by
 rw [List.take_succ_eq_append_getElem h,zbA];simp [val,Int.mul_comm,Nat.min_eq_left (Nat.le_of_lt h)]
theorem canon_of_ge {zs : List Int} (hw : WF zs) {xs : List Int} (hx : zEA xs) (hl : zs.length = xs.length) (hv : val xs ≤ val zs) : zEA zs := by
 refine ⟨hw,?_⟩;have h1 := zGA zs
 by_cases e : wid zs = zs.length
 ·exact e
 ·exfalso
  have := zDB hw hx.1 (by rw [hx.2];omega);omega
theorem canon_snoc_one {zs : List Int} (hw : WF zs) : zEA (zs ++ [1]) := by
 refine ⟨hw.append (by intro x hx;simp at hx;subst hx;unfold IsW wB;omega),?_⟩;refine wid_is (by simp) (fun j h hj => by omega) (fun h h' => ?_)
 simp
theorem zOF : ∀ {xs ys : List Int} {j : Nat},WF xs → WF ys → (hl : xs.length = ys.length) → (h : j < xs.length) → xs.drop (j + 1) = ys.drop (j + 1) → xs[j] ≠ ys[j]'(by omega) → cmpI (val xs) (val ys) = cmpI xs[j] (ys[j]'(by omega))
 | [],_,_,_,_,_,h,_,_ => by simp at h
 | x :: xs,[],_,_,_,hl,_,_,_ => by simp at hl
 | x :: xs,y :: ys,0,hx,hy,_,_,hd,hne => by
  simp only [List.drop_succ_cons,List.drop_zero] at hd;simp only [List.getElem_cons_zero] at hne ⊢;have hx1 := hx.head;have hy1 := hy.head;unfold IsW wB at hx1 hy1;subst hd;simp only [cmpI,val];have e1 : (x + wB * val xs < y + wB * val xs) ↔ x < y := by omega
  have e2 : (y + wB * val xs < x + wB * val xs) ↔ y < x := by omega
  simp only [e1,e2]
 | x :: xs,y :: ys,j + 1,hx,hy,hl,h,hd,hne => by
  simp only [List.drop_succ_cons] at hd;simp only [List.getElem_cons_succ] at hne ⊢;have ih := zOF hx.tail hy.tail (by simpa using hl) (by simpa using h) hd hne;have hx1 := hx.head;have hy1 := hy.head;unfold IsW wB at hx1 hy1;rw [← ih];have hne' : val xs ≠ val ys := by
   intro e;rw [e,cmpI_self] at ih;exact hne (cmpI_zero ih.symm)
  rcases Int.lt_or_gt_of_ne hne' with q | q
  ·rw [zqA q,zqA (by unfold val wB;omega)]
  ·rw [zrA q,zrA (by unfold val wB;omega)]
end Go.Proofs.Ytlhjogiefbjklaa
