import Derived.Test.YtlhjogiefbjklaaQWords
set_option maxRecDepth 100000
set_option maxHeartbeats 6400000
set_option linter.unusedVariables false
set_option linter.unusedSimpArgs false
namespace Go.Proofs.Ytlhjogiefbjklaa
def hwB : Int := 4294967296
def IsH (x : Int) : Prop := 0 ≤ x ∧ x < hwB
def HF (xs : List Int) : Prop := ∀ x ∈ xs,IsH x
def hval : List Int → Int
 | [] => 0
 | x :: r => x + hwB * hval r
def hwid : List Int → Nat
 | [] => 0
 | x :: r => if hwid r = 0 then (if x = 0 then 0 else 1) else hwid r + 1
def hpw : Nat → Int
 | 0 => 1
 | n + 1 => hwB * hpw n
def zKA (xs : List Int) : Prop := HF xs ∧ hwid xs = xs.length
theorem HF.nil : HF [] := fun x h => by cases h
theorem HF.cons {x : Int} {r : List Int} (hx : IsH x) (hr : HF r) : HF (x :: r) := by
 intro y hy;rcases List.mem_cons.1 hy with rfl | h
 ·exact hx
 ·exact hr y h
theorem HF.head {x : Int} {r : List Int} (h : HF (x :: r)) : IsH x := h x (by simp)
theorem HF.tail {x : Int} {r : List Int} (h : HF (x :: r)) : HF r := fun y hy => h y (by simp [hy])
theorem HF.take {xs : List Int} (h : HF xs) (n : Nat) : HF (xs.take n) := fun x hx => h x (List.mem_of_mem_take hx)
theorem HF.append {xs ys : List Int} (h : HF xs) (k : HF ys) : HF (xs ++ ys) := by
 intro x hx;rcases List.mem_append.1 hx with q | q
 ·exact h x q
 ·exact k x q
theorem HF.get {xs : List Int} (h : HF xs) {i : Nat} (hi : i < xs.length) : IsH xs[i] := h _ (List.getElem_mem hi)
theorem HF.set {xs : List Int} (h : HF xs) (i : Nat) {x : Int} (hx : IsH x) : HF (xs.set i x) := by
 intro y hy;rcases List.mem_or_eq_of_mem_set hy with q | rfl
 ·exact h y q
 ·exact hx
theorem zDA : ∀ {xs : List Int},HF xs → 0 ≤ hval xs
 | [],_ => by simp [hval]
 | x :: r,h => by
  have h1 := h.head;have h2 := zDA h.tail;unfold IsH hwB at h1;unfold hval hwB;omega
theorem zzE : ∀ xs : List Int,hwid xs ≤ xs.length
 | [] => by simp [hwid]
 | x :: r => by
  have := zzE r;unfold hwid;split
  ·split <;> simp
  ·simp;omega
theorem zTB : ∀ xs : List Int,hwid xs = 0 → hval xs = 0
 | [],_ => rfl
 | x :: r,h => by
  unfold hwid at h
  split at h
  ·rename_i h0
   have := zTB r h0
   split at h
   ·rename_i hx;simp [hval,hx,this]
   ·cases h
  ·cases h
theorem zlA : ∀ {xs : List Int},HF xs → 0 < hwid xs → 0 < hval xs
 | [],_,h => by simp [hwid] at h
 | x :: r,hw,h => by
  have h1 := hw.head;have h2 := zDA hw.tail;unfold hwid at h;unfold IsH hwB at h1
  split at h
  ·split at h
   ·cases h
   ·unfold hval hwB;omega
  ·have := zlA hw.tail (by omega)
   unfold hval hwB;omega
theorem zHB : ∀ {xs ys : List Int},HF xs → HF ys → hwid xs < hwid ys → hval xs < hval ys
 | [],ys,_,hy,h => by
  have := zlA hy (by simp [hwid] at h;exact h)
  simpa [hval] using this
 | x :: xs,[],_,_,h => by simp [hwid] at h
 | x :: xs,y :: ys,hx,hy,h => by
  have hx1 := hx.head;have hy1 := hy.head;have vy := zDA hy.tail
  by_cases e : hwid ys = 0
  ·have : hwid (y :: ys) ≤ 1 := by unfold hwid;rw [if_pos e];split <;> simp
   have h0 : hwid (x :: xs) = 0 := by omega
   rw [zTB _ h0];exact zlA hy (by omega)
  ·have e1 : hwid (y :: ys) = hwid ys + 1 := by rw [hwid,if_neg e]
   have e2 : hwid xs < hwid ys := by
    by_cases q : hwid xs = 0
    ·omega
    ·have : hwid (x :: xs) = hwid xs + 1 := by rw [hwid,if_neg q]
     omega
   have := zHB hx.tail hy.tail e2;unfold IsH hwB at hx1 hy1;unfold hval hwB;omega
theorem zBD : ∀ {ys : List Int},zKA ys → hval ys = 0 → ys = []
 | [],_,_ => rfl
 | y :: ys,hy,h => by
  exfalso
  have h2 := hy.2;have := zlA hy.1 (by rw [h2];simp);omega
def hlst (xs : List Int) : List Int := xs.take (hwid xs)
theorem hlength_lst (xs : List Int) : (hlst xs).length = hwid xs := by unfold hlst;have := zzE xs;simp;omega
theorem zAE (x : Int) (r : List Int) : hlst (x :: r) = if hwid r = 0 then (if x = 0 then [] else [x]) else x :: hlst r := by
 have e : hwid (x :: r) = if hwid r = 0 then (if x = 0 then 0 else 1) else hwid r + 1 := by rw [hwid]
 unfold hlst;rw [e]
 split
 ·split <;> simp
 ·simp
theorem zjE : ∀ xs : List Int,hval (hlst xs) = hval xs
 | [] => rfl
 | x :: r => by
  rw [zAE]
  split
  ·rename_i h0
   have := zTB r h0
   split
   ·rename_i hx;simp [hval,hx,this]
   ·simp [hval,this]
  ·simp [hval,zjE r]
theorem ziE : ∀ xs : List Int,hwid (hlst xs) = hwid xs
 | [] => rfl
 | x :: r => by
  rw [zAE,hwid]
  split
  ·split
   ·rfl
   ·rename_i hx;simp [hwid,hx]
  ·rename_i h0
   rw [hwid,ziE r,if_neg h0]
theorem hcanon_lst {xs : List Int} (h : HF xs) : zKA (hlst xs) := ⟨h.take _,by rw [ziE,hlength_lst]⟩
theorem zQA : ∀ {xs : List Int},HF xs → hval xs < hpw xs.length
 | [],_ => by simp [hval,hpw]
 | x :: r,h => by
  have h1 := h.head;have h2 := zQA h.tail;unfold IsH hwB at h1;simp only [List.length_cons];unfold hval hpw hwB;omega
theorem zWA : ∀ n,0 < hpw n
 | 0 => by simp [hpw]
 | n + 1 => by have := zWA n;unfold hpw hwB;omega
theorem zUB : ∀ (xs ys : List Int),hval (xs ++ ys) = hval xs + hpw xs.length * hval ys
 | [],ys => by simp [hval,hpw]
 | x :: r,ys => by
  simp only [List.cons_append,List.length_cons,hval,hpw,zUB r ys];rw [Int.mul_add,Int.mul_assoc];omega
theorem zCB : ∀ (xs : List Int) (i : Nat) (z : Int) (h : i < xs.length),hval (xs.set i z) = hval xs + (z - xs[i]) * hpw i
 | [],i,z,h => by simp at h
 | x :: r,0,z,_ => by simp [hval,hpw];omega
 | x :: r,i + 1,z,h => by
  have := zCB r i z (by simpa using h);simp only [List.set_cons_succ,List.getElem_cons_succ,hval,hpw,this];have h' : i < r.length := by simpa using h
  generalize hq : z - r[i]'h' = q;rw [Int.mul_add,← Int.mul_assoc,← Int.mul_assoc,Int.mul_comm hwB q];omega
theorem zNA (ys : List Int) (i : Nat) (h : i < ys.length) : hval (ys.take (i + 1)) = hval (ys.take i) + ys[i] * hpw i := by
 rw [List.take_succ_eq_append_getElem h,zUB];simp [hval,Int.mul_comm,Nat.min_eq_left (Nat.le_of_lt h)]
theorem zQE : ∀ {xs ys : List Int} {j : Nat},HF xs → HF ys → (hl : xs.length = ys.length) → (h : j < xs.length) → xs.drop (j + 1) = ys.drop (j + 1) → xs[j] ≠ ys[j]'(by omega) → cmpI (hval xs) (hval ys) = cmpI xs[j] (ys[j]'(by omega))
 | [],_,_,_,_,_,h,_,_ => by simp at h
 | x :: xs,[],_,_,_,hl,_,_,_ => by simp at hl
 | x :: xs,y :: ys,0,hx,hy,_,_,hd,hne => by
  simp only [List.drop_succ_cons,List.drop_zero] at hd;simp only [List.getElem_cons_zero] at hne ⊢;have hx1 := hx.head;have hy1 := hy.head;unfold IsH hwB at hx1 hy1;subst hd;simp only [cmpI,hval];have e1 : (x + hwB * hval xs < y + hwB * hval xs) ↔ x < y := by omega
  have e2 : (y + hwB * hval xs < x + hwB * hval xs) ↔ y < x := by omega
  simp only [e1,e2]
 | x :: xs,y :: ys,j + 1,hx,hy,hl,h,hd,hne => by
  simp only [List.drop_succ_cons] at hd;simp only [List.getElem_cons_succ] at hne ⊢;have ih := zQE hx.tail hy.tail (by simpa using hl) (by simpa using h) hd hne;have hx1 := hx.head;have hy1 := hy.head;unfold IsH hwB at hx1 hy1;rw [← ih];have hne' : hval xs ≠ hval ys := by
   intro e;rw [e,cmpI_self] at ih;exact hne (cmpI_zero ih.symm)
  rcases Int.lt_or_gt_of_ne hne' with q | q
  ·rw [zqA q,zqA (by unfold hval hwB;omega)]
  ·rw [zrA q,zrA (by unfold hval hwB;omega)]
theorem zqB : ∀ {xs : List Int} {n : Nat},hwid xs = n + 1 → ∃ h : n < xs.length,xs[n] ≠ 0
 | [],n,h => by simp [hwid] at h
 | x :: r,n,h => by
  unfold hwid at h
  split at h
  ·split at h
   ·cases h
   ·have : n = 0 := by omega
    subst this;exact ⟨by simp,by simpa⟩
  ·rename_i hr
   obtain ⟨m,hm⟩ : ∃ m,hwid r = m + 1 := ⟨hwid r - 1,by omega⟩
   obtain ⟨h1,h2⟩ := zqB hm;have : n = m + 1 := by omega
   subst this;exact ⟨by simpa using h1,by simpa using h2⟩
theorem zOE : ∀ xs : List Int,hwid xs = wid xs
 | [] => rfl
 | x :: r => by unfold hwid wid;rw [zOE r]
theorem zAF (xs : List Int) : hlst xs = lst xs := by unfold hlst lst;rw [zOE]
theorem HF.word {xs : List Int} (h : HF xs) : WF xs := fun x hx => by have := h x hx;unfold IsH hwB at this;unfold IsW wB;omega
theorem HF.drop {xs : List Int} (h : HF xs) (n : Nat) : HF (xs.drop n) := fun x hx => h x (List.mem_of_mem_drop hx)
theorem zXB (n : Nat) : HF (List.replicate n 0) := fun x hx => by rw [(List.mem_replicate.1 hx).2];unfold IsH hwB;omega
theorem zmA : ∀ n : Nat,hval (List.replicate n 0) = 0
 | 0 => rfl
 | n + 1 => by rw [List.replicate_succ];unfold hval;rw [zmA n];omega
theorem zWB : ∀ m n : Nat,hpw (m + n) = hpw m * hpw n
 | m,0 => by simp [hpw]
 | m,n + 1 => by rw [show m + (n + 1) = (m + n) + 1 by omega,hpw,hpw,zWB m n];simp only [Int.mul_left_comm]
theorem zpA {zs : List Int} {j : Nat} (hj : j ≤ zs.length) : hval zs = hval (zs.take j) + hpw j * hval (zs.drop j) := by
 have h := zUB (zs.take j) (zs.drop j);rw [List.take_append_drop,show (zs.take j).length = j by simp;omega] at h;exact h
theorem hcanon_lst' {xs : List Int} (h : HF xs) : zKA (lst xs) := by rw [← zAF];exact hcanon_lst h
theorem hval_lst' (xs : List Int) : hval (lst xs) = hval xs := by rw [← zAF];exact zjE xs
end Go.Proofs.Ytlhjogiefbjklaa
