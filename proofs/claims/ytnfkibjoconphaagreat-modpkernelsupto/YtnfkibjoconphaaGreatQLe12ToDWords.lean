/-
 QLe12ToDWords: Le12, Ls12, ZDivs, DWords, joined.
-/
import Derived.Test.YtnfkibjoconphaaGreatQCa12
import Derived.Test.YtnfkibjoconphaaGreatQLw12ToCw12
import Derived.Test.YtnfkibjoconphaaGreatQRs12ToTailA
import Derived.Test.YtnfkibjoconphaaGreatQRf12
import Derived.Test.YtnfkibjoconphaaGreatQZModToZSmall
import Derived.Test.YtnfkibjoconphaaGreatQZStoreToLst9
import Derived.Test.YtnfkibjoconphaaGreatQWordsToCarry

set_option maxRecDepth 100000
set_option maxHeartbeats 6400000
set_option linter.unusedVariables false
set_option linter.unusedSimpArgs false
namespace Go.Proofs.YtnfkibjoconphaaGreat
open Go.RowKit
theorem least_form {w : World} {v : Value} {z : Int} {k p : Nat} (h : Zc w v z k) (hz : IsR p z) (hp : p < 2147483648) : ∃ a c,(z = 0 ∧ v = .agg #[.bool false,.slice a 0 c]) ∨ (0 < z ∧ v = .agg #[.bool false,.slice a 1 c] ∧ ∃ b off,a = some ⟨b,off,none⟩ ∧ w.cell? ⟨b,off,none⟩ = some (.int .u64 z)) := by
 obtain ⟨n,xs,a,c,rfl,hs,hc,hn,hv,-⟩ := h;unfold IsR at hz;have hvn := zGA hs.1;refine ⟨a,c,?_⟩
 by_cases h0 : z = 0
 ·left
  have h1 : val xs = 0 := by
   cases n
   ·rw [zMC] at hv;omega
   ·rw [zyC] at hv;omega
  have e := zvA hc h1;subst e;rw [hn rfl];exact ⟨h0,rfl⟩
 ·right
  have hn0 : n = false := by
   cases n
   ·rfl
   ·rw [zyC] at hv;omega
  subst hn0;rw [zMC] at hv;have hone : xs = [z] := zED hc (show zdA [z] from ⟨by intro x hx;simp at hx;subst hx;unfold IsW wB;omega,by simp [wid];omega⟩) (by rw [hv];simp [val]);subst hone;refine ⟨by omega,rfl,?_⟩;obtain ⟨-,a',cap,e1,-,-,e5⟩ := hs;simp only [Value.slice.injEq] at e1;obtain ⟨rfl,-,-⟩ := e1;rcases e5 with e5 | ⟨b,off,e6,-,e8⟩
  ·cases e5
  ·exact ⟨b,off,e6,by simpa using e8 0 (by simp)⟩
theorem zEE {w : World} {B : Nat} {v : Value} {ps : List (Value × Value)} {zs : List Int} {k p : Nat} (ha : Prs B w v ps) (hza : Zcs w ps zs k) (hr : Res p zs) (hp : p < 2147483648) :
  Calls Tryz.prog 13 #[v,.int .u64 (p : Int)] w fun e w' => e = .returned (.bool true) ∧ w' = w := by
 have A0 := hid ha;have ZA := hid hza;have HR := hid hr;obtain ⟨aa,ca,rfl,hca,hna,-,hfa⟩ := ha.form;obtain ⟨n,hn⟩ : ∃ n,zs.length = n := ⟨_,rfl⟩
 rw [hza.1,hn] at A0 hca hna ⊢;have FA : Hid (n ≠ 0 → ∃ b off,aa = some ⟨b,off,none⟩) := fun h => by
  obtain ⟨b,off,e,-⟩ := hfa (fun e => h (by rw [← hn,← hza.1,e];rfl));exact ⟨b,off,e⟩
 have HN := hid hn;clear ha hza hr hfa hn;go_enter Tryz.func13,Tryz.ntmps13;go_wp2_with fail
 go_loop [5] (fun s => ∃ i : Nat,s = .int .i64 (i : Int) ∧ i ≤ n) (fun s => n - (intOf s).toNat)
 case atStart => exact ⟨0,rfl,Nat.zero_le _⟩
 case round =>
  obtain ⟨i,rfl,hi⟩ := hrel
  by_cases hlt : i < n
  ·have hlt' : (i : Int) < (n : Int) := by omega
   obtain ⟨b1,o1,rfl⟩ := FA.out (by omega);have hix : i < zs.length := by rw [HN.out];exact hlt
   obtain ⟨nf,xf,adf,qf,k0,k1,zf⟩ := Zcs.at9 A0.out ZA.out hix;have rz := HR.out.at hix;obtain ⟨a5,c5,h5⟩ := least_form zf rz hp;obtain ⟨z,hz⟩ : ∃ z,zs[i] = z := ⟨_,rfl⟩
   rw [hz] at h5 rz;have hw := zXE hlt hna;clear zf hz hix;rcases h5 with ⟨h0,e5⟩ | ⟨h0,e5,b,off,rfl,cz⟩
   ·simp only [Value.agg.injEq,Array.mk.injEq,List.cons.injEq,and_true,Value.bool.injEq,Value.slice.injEq] at e5
    obtain ⟨rfl,rfl,e6,rfl⟩ := e5;rw [e6] at k1;have q1 : ¬ (1 : Int) < ((0 : Nat) : Int) := by omega
    have q2 : (((0 : Nat) : Int) == 1) = false := rfl;clear h0 e6 rz;go_wp2_with fail;go_round
    case rel => exact ⟨i + 1,rfl,by omega⟩
    case measure => simp [intOf];omega
   ·simp only [Value.agg.injEq,Array.mk.injEq,List.cons.injEq,and_true,Value.bool.injEq,Value.slice.injEq] at e5
    obtain ⟨rfl,rfl,e6,rfl⟩ := e5;rw [e6] at k1;have q1 : ¬ (1 : Int) < ((1 : Nat) : Int) := by omega
    have q2 : (((1 : Nat) : Int) == 1) = true := rfl;have q3 : (z == 0) = false := by simp;omega
    have q4 : decide ((p : Int) ≤ z) = false := decide_eq_false (by unfold IsR at rz;omega);clear h0 e6 rz;go_wp2_with fail;go_round
    case rel => exact ⟨i + 1,rfl,by omega⟩
    case measure => simp [intOf];omega
  ·have hlt' : ¬ (i : Int) < (n : Int) := by omega
   go_wp2;go_ret;exact ⟨rfl,rfl⟩
theorem zVH (w : World) : Mc w zZE 0 0 [] 1 := ⟨_,[],rfl,Prs.nil _ _,⟨rfl,fun j p z hp => by simp at hp⟩,rfl,by omega,by omega⟩
theorem zsA {w : World} {E : Int} : Calls Tryz.prog 25 #[ansV E,ansV E] w fun e w' => e = .returned (.bool true) ∧ Below w.heap.size w w' := by
 obtain ⟨W0,hW⟩ : ∃ W0,(w.alloc (ansO E)).alloc (ansO E) = W0 := ⟨_,rfl⟩
 have b0 : Below w.heap.size w W0 := by rw [← hW];exact ((Below.refl _ _).alloc (Nat.le_refl _) _).alloc (by simp) _
 have PA : Hid (Cel W0 w.heap.size 55 (ansC E)) := by unfold Hid;rw [← hW];exact (Cel.new w _ _).step (zJA _ _).1
 have PB : Hid (Cel W0 (w.heap.size + 1) 55 (ansC E)) := by
  unfold Hid;rw [← hW];have := Cel.new (w.alloc (ansO E)) 55 (ansC E)
  simpa using this
 have HM := hid (alikeMats12_yes (zVH W0) (zVH W0) rfl);have x0 := PA.out.at (i := 0) rfl;have x1 := PA.out.at (i := 1) rfl;have x2 := PA.out.at (i := 2) rfl;have y0 := PB.out.at (i := 0) rfl;have y1 := PB.out.at (i := 1) rfl;have y2 := PB.out.at (i := 2) rfl;rw [← hW] at x0 x1 x2 y0 y1 y2;have G0 := hid b0;have EW := hid hW;clear b0 hW;go_enter Tryz.func25,Tryz.ntmps25;go_wp2_with fail;rw [EW.out];refine HM.out.mono ?_;rintro e w1 ⟨rfl,b1⟩;have PA1 := hid (PA.out.step b1);have PB1 := hid (PB.out.step b1);have G1 := hid (below_step G0.out b1);have HR := hid (zQC (w := w1) (k := 1) (l := 1) (zs := []) (Prs.nil 0 w1) ⟨rfl,fun j p z hp => by simp at hp⟩ (Prs.nil 0 w1) ⟨rfl,fun j p z hp => by simp at hp⟩);have x3 := PA1.out.at (i := 3) rfl;have y3 := PB1.out.at (i := 3) rfl;clear HM b1 x0 x1 x2 y0 y1 y2 EW G0 PA PB;go_wp2_with fail;refine HR.out.mono ?_;rintro e w2 ⟨rfl,b2⟩;have PA2 := hid (PA1.out.step b2);have PB2 := hid (PB1.out.step b2);have G2 := hid (below_step G1.out b2);have x4 := PA2.out.at (i := 4) rfl;have x5 := PA2.out.at (i := 5) rfl;have x6 := PA2.out.at (i := 6) rfl;have x7 := PA2.out.at (i := 7) rfl;have y4 := PB2.out.at (i := 4) rfl;have y5 := PB2.out.at (i := 5) rfl;have y6 := PB2.out.at (i := 6) rfl;have y7 := PB2.out.at (i := 7) rfl;have q1 : ((0 : Int) == 0) = true := rfl;have q2 : (false == false) = true := rfl;have q3 : (E == E) = true := by simp
 clear HR b2 x3 y3 PA1 PB1 G1 PA2 PB2;go_wp2;go_ret;exact ⟨rfl,G2.out⟩
theorem zEH (w : World) (o1 : Obj) : Below w.heap.size w (w.alloc o1) ∧ (w.alloc o1).heap.size = w.heap.size + 1 := ⟨(Below.refl _ _).alloc (Nat.le_refl _) _,by simp⟩
end Go.Proofs.YtnfkibjoconphaaGreat
namespace Go.Proofs.YtnfkibjoconphaaGreat
def dwB : Int := 65536
def IsD (x : Int) : Prop := 0 ≤ x ∧ x < dwB
def DF (xs : List Int) : Prop := ∀ x ∈ xs,IsD x
def dval : List Int → Int
 | [] => 0
 | x :: r => x + dwB * dval r
def dwid : List Int → Nat
 | [] => 0
 | x :: r => if dwid r = 0 then (if x = 0 then 0 else 1) else dwid r + 1
def dpw : Nat → Int
 | 0 => 1
 | n + 1 => dwB * dpw n
def zdD (xs : List Int) : Prop := DF xs ∧ dwid xs = xs.length
theorem DF.nil : DF [] := fun x h => by cases h
theorem DF.cons {x : Int} {r : List Int} (hx : IsD x) (hr : DF r) : DF (x :: r) := by
 intro y hy;rcases List.mem_cons.1 hy with rfl | h
 ·exact hx
 ·exact hr y h
theorem DF.head {x : Int} {r : List Int} (h : DF (x :: r)) : IsD x := h x (by simp)
theorem DF.tail {x : Int} {r : List Int} (h : DF (x :: r)) : DF r := fun y hy => h y (by simp [hy])
theorem DF.take {xs : List Int} (h : DF xs) (n : Nat) : DF (xs.take n) := fun x hx => h x (List.mem_of_mem_take hx)
theorem DF.append {xs ys : List Int} (h : DF xs) (k : DF ys) : DF (xs ++ ys) := by
 intro x hx;rcases List.mem_append.1 hx with q | q
 ·exact h x q
 ·exact k x q
theorem DF.get {xs : List Int} (h : DF xs) {i : Nat} (hi : i < xs.length) : IsD xs[i] := h _ (List.getElem_mem hi)
theorem DF.set {xs : List Int} (h : DF xs) (i : Nat) {x : Int} (hx : IsD x) : DF (xs.set i x) := by
 intro y hy;rcases List.mem_or_eq_of_mem_set hy with q | rfl
 ·exact h y q
 ·exact hx
theorem zTB : ∀ {xs : List Int},DF xs → 0 ≤ dval xs
 | [],_ => by simp [dval]
 | x :: r,h => by
  have h1 := h.head;have h2 := zTB h.tail;unfold IsD dwB at h1;unfold dval dwB;omega
theorem zhC : ∀ xs : List Int,dwid xs ≤ xs.length
 | [] => by simp [dwid]
 | x :: r => by
  have := zhC r;unfold dwid;split
  ·split <;> simp
  ·simp;omega
theorem zBC : ∀ xs : List Int,dwid xs = 0 → dval xs = 0
 | [],_ => rfl
 | x :: r,h => by
  unfold dwid at h
  split at h
  ·rename_i h0
   have := zBC r h0
   split at h
   ·rename_i hx;simp [dval,hx,this]
   ·cases h
  ·cases h
theorem zNC : ∀ {xs : List Int},DF xs → 0 < dwid xs → 0 < dval xs
 | [],_,h => by simp [dwid] at h
 | x :: r,hw,h => by
  have h1 := hw.head;have h2 := zTB hw.tail;unfold dwid at h;unfold IsD dwB at h1
  split at h
  ·split at h
   ·cases h
   ·unfold dval dwB;omega
  ·have := zNC hw.tail (by omega)
   unfold dval dwB;omega
theorem zCC : ∀ {xs ys : List Int},DF xs → DF ys → dwid xs < dwid ys → dval xs < dval ys
 | [],ys,_,hy,h => by
  have := zNC hy (by simp [dwid] at h;exact h)
  simpa [dval] using this
 | x :: xs,[],_,_,h => by simp [dwid] at h
 | x :: xs,y :: ys,hx,hy,h => by
  have hx1 := hx.head;have hy1 := hy.head;have vy := zTB hy.tail
  by_cases e : dwid ys = 0
  ·have : dwid (y :: ys) ≤ 1 := by unfold dwid;rw [if_pos e];split <;> simp
   have h0 : dwid (x :: xs) = 0 := by omega
   rw [zBC _ h0];exact zNC hy (by omega)
  ·have e1 : dwid (y :: ys) = dwid ys + 1 := by rw [dwid,if_neg e]
   have e2 : dwid xs < dwid ys := by
    by_cases q : dwid xs = 0
    ·omega
    ·have : dwid (x :: xs) = dwid xs + 1 := by rw [dwid,if_neg q]
     omega
   have := zCC hx.tail hy.tail e2;unfold IsD dwB at hx1 hy1;unfold dval dwB;omega
def dlst (xs : List Int) : List Int := xs.take (dwid xs)
theorem zcA (xs : List Int) : (dlst xs).length = dwid xs := by unfold dlst;have := zhC xs;simp;omega
theorem zsF (x : Int) (r : List Int) : dlst (x :: r) = if dwid r = 0 then (if x = 0 then [] else [x]) else x :: dlst r := by
 have e : dwid (x :: r) = if dwid r = 0 then (if x = 0 then 0 else 1) else dwid r + 1 := by rw [dwid]
 unfold dlst;rw [e]
 split
 ·split <;> simp
 ·simp
theorem zgD : ∀ xs : List Int,dval (dlst xs) = dval xs
 | [] => rfl
 | x :: r => by
  rw [zsF]
  split
  ·rename_i h0
   have := zBC r h0
   split
   ·rename_i hx;simp [dval,hx,this]
   ·simp [dval,this]
  ·simp [dval,zgD r]
theorem zzG : ∀ xs : List Int,dwid (dlst xs) = dwid xs
 | [] => rfl
 | x :: r => by
  rw [zsF,dwid]
  split
  ·split
   ·rfl
   ·rename_i hx;simp [dwid,hx]
  ·rename_i h0
   rw [dwid,zzG r,if_neg h0]
theorem dcanon_lst {xs : List Int} (h : DF xs) : zdD (dlst xs) := ⟨h.take _,by rw [zzG,zcA]⟩
theorem zNE : ∀ {xs : List Int} {n : Nat},n ≤ xs.length → (∀ j (h : j < xs.length),n ≤ j → xs[j] = 0) → (0 < n → ∀ h' : n - 1 < xs.length,xs[n - 1] ≠ 0) → dwid xs = n
 | [],n,hn,_,_ => by simp at hn;simp [dwid,hn]
 | x :: r,0,_,hz,_ => by
  have h0 : dwid r = 0 := zNE (Nat.zero_le _) (fun j h _ => by have := hz (j + 1) (by simpa using h) (by omega);simpa using this) (fun h => by omega);have hx : x = 0 := hz 0 (by simp) (by omega);simp [dwid,h0,hx]
 | x :: r,1,_,hz,ht => by
  have h0 : dwid r = 0 := zNE (Nat.zero_le _) (fun j h _ => by have := hz (j + 1) (by simpa using h) (by omega);simpa using this) (fun h => by omega);have hx : x ≠ 0 := by simpa using ht (by omega) (by simp)
  simp [dwid,h0,hx]
 | x :: r,n + 2,hn,hz,ht => by
  have h0 : dwid r = n + 1 := by
   refine zNE (by simpa using hn) (fun j h hj => ?_) (fun _ h' => ?_)
   ·have := hz (j + 1) (by simpa using h) (by omega);simpa using this
   ·have := ht (by omega) (by simpa using h');simpa using this
  simp [dwid,h0]
theorem zqE : ∀ {xs : List Int},DF xs → dval xs < dpw xs.length
 | [],_ => by simp [dval,dpw]
 | x :: r,h => by
  have h1 := h.head;have h2 := zqE h.tail;unfold IsD dwB at h1;simp only [List.length_cons];unfold dval dpw dwB;omega
theorem zNG : ∀ n,0 < dpw n
 | 0 => by simp [dpw]
 | n + 1 => by have := zNG n;unfold dpw dwB;omega
theorem zUB : ∀ (xs ys : List Int),dval (xs ++ ys) = dval xs + dpw xs.length * dval ys
 | [],ys => by simp [dval,dpw]
 | x :: r,ys => by
  simp only [List.cons_append,List.length_cons,dval,dpw,zUB r ys];rw [Int.mul_add,Int.mul_assoc];omega
theorem zDC : ∀ (xs : List Int) (i : Nat) (z : Int) (h : i < xs.length),dval (xs.set i z) = dval xs + (z - xs[i]) * dpw i
 | [],i,z,h => by simp at h
 | x :: r,0,z,_ => by simp [dval,dpw];omega
 | x :: r,i + 1,z,h => by
  have := zDC r i z (by simpa using h);simp only [List.set_cons_succ,List.getElem_cons_succ,dval,dpw,this];have h' : i < r.length := by simpa using h
  generalize hq : z - r[i]'h' = q;rw [Int.mul_add,← Int.mul_assoc,← Int.mul_assoc,Int.mul_comm dwB q];omega
theorem zmB (ys : List Int) (i : Nat) (h : i < ys.length) : dval (ys.take (i + 1)) = dval (ys.take i) + ys[i] * dpw i := by
 rw [List.take_succ_eq_append_getElem h,zUB];simp [dval,Int.mul_comm,Nat.min_eq_left (Nat.le_of_lt h)]
theorem zeH : ∀ {xs ys : List Int} {j : Nat},DF xs → DF ys → (hl : xs.length = ys.length) → (h : j < xs.length) → xs.drop (j + 1) = ys.drop (j + 1) → xs[j] ≠ ys[j]'(by omega) → cmpI (dval xs) (dval ys) = cmpI xs[j] (ys[j]'(by omega))
 | [],_,_,_,_,_,h,_,_ => by simp at h
 | x :: xs,[],_,_,_,hl,_,_,_ => by simp at hl
 | x :: xs,y :: ys,0,hx,hy,_,_,hd,hne => by
  simp only [List.drop_succ_cons,List.drop_zero] at hd;simp only [List.getElem_cons_zero] at hne ⊢;have hx1 := hx.head;have hy1 := hy.head;unfold IsD dwB at hx1 hy1;subst hd;simp only [cmpI,dval];have e1 : (x + dwB * dval xs < y + dwB * dval xs) ↔ x < y := by omega
  have e2 : (y + dwB * dval xs < x + dwB * dval xs) ↔ y < x := by omega
  simp only [e1,e2]
 | x :: xs,y :: ys,j + 1,hx,hy,hl,h,hd,hne => by
  simp only [List.drop_succ_cons] at hd;simp only [List.getElem_cons_succ] at hne ⊢;have ih := zeH hx.tail hy.tail (by simpa using hl) (by simpa using h) hd hne;have hx1 := hx.head;have hy1 := hy.head;unfold IsD dwB at hx1 hy1;rw [← ih];have hne' : dval xs ≠ dval ys := by
   intro e;rw [e,cmpI_self] at ih;exact hne (cmpI_zero ih.symm)
  rcases Int.lt_or_gt_of_ne hne' with q | q
  ·rw [zgA q,zgA (by unfold dval dwB;omega)]
  ·rw [zhA q,zhA (by unfold dval dwB;omega)]
theorem dcmp_widths {xs ys : List Int} (hx : DF xs) (hy : DF ys) (h : dwid xs ≠ dwid ys) : cmpI (dval xs) (dval ys) = cmpI (dwid xs) (dwid ys) := by
 rcases Nat.lt_or_gt_of_ne h with q | q
 ·rw [zgA (zCC hx hy q),zgA (by omega)]
 ·rw [zhA (zCC hy hx q),zhA (by omega)]
theorem dlst_get {xs : List Int} {j : Nat} (h : j < dwid xs) : (dlst xs)[j]'(by rw [zcA];exact h) = xs[j]'(by have := zhC xs;omega) := by simp [dlst]
theorem dcarry_step {xs zs : List Int} {ysT ysT' p y s d c : Int} {i : Nat} (hi : i < zs.length) (hv : dval zs + dpw i * c = dval xs + ysT) (hT : ysT' = ysT + y * dpw i)
  (hs : s + dwB * d = zs[i] + y + c) (hp : p = dpw (i + 1)) : dval (zs.set i s) + p * d = dval xs + ysT' := by
 subst hp;rw [zDC zs i s hi,hT];generalize hz : zs[i] = z at *;have e : s = z + y + c - dwB * d := by omega
 subst e;simp only [dpw,Int.sub_mul,Int.add_mul,Int.mul_assoc,Int.mul_comm c (dpw i),Int.mul_comm d (dpw i)];omega
theorem dborrow_step {xs zs : List Int} {ysT ysT' p y s d c : Int} {i : Nat} (hi : i < zs.length) (hv : dval zs - dpw i * c = dval xs - ysT) (hT : ysT' = ysT + y * dpw i)
  (hs : s - dwB * d = zs[i] - y - c) (hp : p = dpw (i + 1)) : dval (zs.set i s) - p * d = dval xs - ysT' := by
 subst hp;rw [zDC zs i s hi,hT];generalize hz : zs[i] = z at *;have e : s = z - y - c + dwB * d := by omega
 subst e;simp only [dpw,Int.sub_mul,Int.add_mul,Int.mul_assoc,Int.mul_comm c (dpw i),Int.mul_comm d (dpw i)];omega
theorem zyG : ∀ {xs : List Int} {n : Nat},dwid xs = n + 1 → ∃ h : n < xs.length,xs[n] ≠ 0
 | [],n,h => by simp [dwid] at h
 | x :: r,n,h => by
  unfold dwid at h
  split at h
  ·split at h
   ·cases h
   ·have : n = 0 := by omega
    subst this;exact ⟨by simp,by simpa⟩
  ·rename_i hr
   obtain ⟨m,hm⟩ : ∃ m,dwid r = m + 1 := ⟨dwid r - 1,by omega⟩
   obtain ⟨h1,h2⟩ := zyG hm;have : n = m + 1 := by omega
   subst this;exact ⟨by simpa using h1,by simpa using h2⟩
end Go.Proofs.YtnfkibjoconphaaGreat
