/-
 QLe12ToTrim3: Le12, R5Cmp, HWords, Trim3, joined.
-/
import Derived.Test.YtkklldokdnfkgaaGreatQCa12ToWq12
import Derived.Test.YtkklldokdnfkgaaGreatQCf12ToRf12
import Derived.Test.YtkklldokdnfkgaaGreatQRs12ToTailA
import Derived.Test.YtkklldokdnfkgaaGreatQR5OnesToRSub
import Derived.Test.YtkklldokdnfkgaaGreatQWordsToCarry
import Derived.Test.YtkklldokdnfkgaaGreatQProdToMade
import Derived.Test.YtkklldokdnfkgaaGreatQLitsToZed

set_option maxRecDepth 100000
set_option maxHeartbeats 6400000
set_option linter.unusedVariables false
set_option linter.unusedSimpArgs false
namespace Go.Proofs.YtkklldokdnfkgaaGreat
open Go.RowKit
theorem least_form {w : World} {v : Value} {z : Int} {k p : Nat} (h : Zc w v z k) (hz : IsR p z) (hp : p < 2147483648) : ∃ a c,(z = 0 ∧ v = .agg #[.bool false,.slice a 0 c]) ∨ (0 < z ∧ v = .agg #[.bool false,.slice a 1 c] ∧ ∃ b off,a = some ⟨b,off,none⟩ ∧ w.cell? ⟨b,off,none⟩ = some (.int .u64 z)) := by
 obtain ⟨n,xs,a,c,rfl,hs,hc,hn,hv,-⟩ := h;unfold IsR at hz;have hvn := zGA hs.1;refine ⟨a,c,?_⟩
 by_cases h0 : z = 0
 ·left
  have h1 : val xs = 0 := by
   cases n
   ·rw [zLC] at hv;omega
   ·rw [zBD] at hv;omega
  have e := zuA hc h1;subst e;rw [hn rfl];exact ⟨h0,rfl⟩
 ·right
  have hn0 : n = false := by
   cases n
   ·rfl
   ·rw [zBD] at hv;omega
  subst hn0;rw [zLC] at hv;have hone : xs = [z] := zHD hc (show zbA [z] from ⟨by intro x hx;simp at hx;subst hx;unfold IsW wB;omega,by simp [wid];omega⟩) (by rw [hv];simp [val]);subst hone;refine ⟨by omega,rfl,?_⟩;obtain ⟨-,a',cap,e1,-,-,e5⟩ := hs;simp only [Value.slice.injEq] at e1;obtain ⟨rfl,-,-⟩ := e1;rcases e5 with e5 | ⟨b,off,e6,-,e8⟩
  ·cases e5
  ·exact ⟨b,off,e6,by simpa using e8 0 (by simp)⟩
theorem zCE {w : World} {B : Nat} {v : Value} {ps : List (Value × Value)} {zs : List Int} {k p : Nat} (ha : Prs B w v ps) (hza : Zcs w ps zs k) (hr : Res p zs) (hp : p < 2147483648) :
  Calls Tryz.prog 13 #[v,.int .u64 (p : Int)] w fun e w' => e = .returned (.bool true) ∧ w' = w := by
 have A0 := hid ha;have ZA := hid hza;have HR := hid hr;obtain ⟨aa,ca,rfl,hca,hna,-,hfa⟩ := ha.form;obtain ⟨n,hn⟩ : ∃ n,zs.length = n := ⟨_,rfl⟩
 rw [hza.1,hn] at A0 hca hna ⊢;have FA : Hid (n ≠ 0 → ∃ b off,aa = some ⟨b,off,none⟩) := fun h => by
  obtain ⟨b,off,e,-⟩ := hfa (fun e => h (by rw [← hn,← hza.1,e];rfl));exact ⟨b,off,e⟩
 have HN := hid hn;clear ha hza hr hfa hn;go_enter Tryz.func13,Tryz.ntmps13;go_wp2_with fail
 go_loop [5] (fun s => ∃ i : Nat,s = .int .i64 (i : Int) ∧ i ≤ n) (fun s => n - (intOf s).toNat)
 case atStart => exact ⟨0,rfl,Nat.zero_le _⟩
 case round =>
  obtain ⟨i,rfl,hi⟩ := hrel
  by_cases hlt : i < n
  ·have hlt' : (i : Int) < (n : Int) := by omega
   obtain ⟨b1,o1,rfl⟩ := FA.out (by omega);have hix : i < zs.length := by rw [HN.out];exact hlt
   obtain ⟨nf,xf,adf,qf,k0,k1,zf⟩ := Zcs.at9 A0.out ZA.out hix;have rz := HR.out.at hix;obtain ⟨a5,c5,h5⟩ := least_form zf rz hp;obtain ⟨z,hz⟩ : ∃ z,zs[i] = z := ⟨_,rfl⟩
   rw [hz] at h5 rz;have hw := znD hlt hna;clear zf hz hix;rcases h5 with ⟨h0,e5⟩ | ⟨h0,e5,b,off,rfl,cz⟩
   ·simp only [Value.agg.injEq,Array.mk.injEq,List.cons.injEq,and_true,Value.bool.injEq,Value.slice.injEq] at e5
    obtain ⟨rfl,rfl,e6,rfl⟩ := e5;rw [e6] at k1;have q1 : ¬ (1 : Int) < ((0 : Nat) : Int) := by omega
    have q2 : (((0 : Nat) : Int) == 1) = false := rfl;clear h0 e6 rz;go_wp2_with fail;go_round
    case rel => exact ⟨i + 1,rfl,by omega⟩
    case measure => simp [intOf];omega
   ·simp only [Value.agg.injEq,Array.mk.injEq,List.cons.injEq,and_true,Value.bool.injEq,Value.slice.injEq] at e5
    obtain ⟨rfl,rfl,e6,rfl⟩ := e5;rw [e6] at k1;have q1 : ¬ (1 : Int) < ((1 : Nat) : Int) := by omega
    have q2 : (((1 : Nat) : Int) == 1) = true := rfl;have q3 : (z == 0) = false := by simp;omega
    have q4 : decide ((p : Int) ≤ z) = false := decide_eq_false (by unfold IsR at rz;omega);clear h0 e6 rz;go_wp2_with fail;go_round
    case rel => exact ⟨i + 1,rfl,by omega⟩
    case measure => simp [intOf];omega
  ·have hlt' : ¬ (i : Int) < (n : Int) := by omega
   go_wp2;go_ret;exact ⟨rfl,rfl⟩
theorem zCG {w : World} {va : Value} {A : Int} {ka : Nat} (ha : Zi w va A ka) (hk : ka ≤ 1099511627776) :
  Calls Tryz.prog 76 #[va] w (fun e w' => e = .returned (.int .i64 (cmpI A 0)) ∧ Below w.heap.size w w') := by
 have za0 := ha;obtain ⟨na,xa,aa,ca,rfl,sa,ea,la⟩ := ha;obtain ⟨W0,hW0⟩ : ∃ W0,w.alloc (duo (.bool na) (.slice aa xa.length ca)) = W0 := ⟨_,rfl⟩
 obtain ⟨b0,sz0⟩ := zDH w (duo (.bool na) (.slice aa xa.length ca));rw [hW0] at b0 sz0;have pa : Duo W0 (w.heap.size) (.bool na) (.slice aa xa.length ca) := by rw [← hW0];exact zEA (by simp)
 have Pa := hid pa;have ia0 := pa.c0;have ia1 := pa.c1;have Za := hid (za0.now b0);have Sa := hid (sa.now b0);have EW := hid hW0;have G := hid b0;clear b0 hW0 za0 sa pa ;clear ea;have key : Hid (∀ n (xs : List Int),zbA xs → (xs = [] → n = false) → iv n xs = A → (n = true ∧ cmpI A 0 = -1) ∨ (n = false ∧ (0 : Int) < xs.length ∧ cmpI A 0 = 1) ∨ (n = false ∧ ¬ (0 : Int) < xs.length ∧ cmpI A 0 = 0)) := fun n xs hc hn e => by
  have hv := zGA hc.1;have h0 : xs ≠ [] → val xs ≠ 0 := fun q e => q (zuA hc e)
  cases n
  ·rw [zLC] at e
   by_cases q : xs = []
   ·subst q;exact .inr (.inr ⟨rfl,by simp,by rw [← e];simp [val,cmpI]⟩)
   ·have := h0 q
    exact .inr (.inl ⟨rfl,by have := List.length_pos_iff.2 q;omega,zfA (by omega)⟩)
  ·rw [zBD] at e
   by_cases q : xs = []
   ·exact absurd (hn q) (by simp)
   ·have := h0 q
    exact .inl ⟨rfl,zeA (by omega)⟩
 go_enter Tryz.func76,Tryz.ntmps76;go_wp2_with fail;rw [EW.out];clear ia0 ia1;refine (zeG Za.out hk).mono ?_;rintro e w1 ⟨r,rfl,m1,b⟩;obtain ⟨n1,x1,a1,q1,rfl,-,t1,t2,t3,-⟩ := m1;have KK := hid (key.out n1 x1 t1 t2 t3);have B1 := hid (below_step (below_step G.out b) (zDH w1 (duo (.bool n1) (.slice a1 x1.length q1))).1);clear b t1 t2 t3 key;rcases KK.out with ⟨rfl,e⟩ | ⟨rfl,hp,e⟩ | ⟨rfl,hp,e⟩
 all_goals
  have HE := hid e;clear e KK;go_wp2;go_ret;exact ⟨by rw [HE.out];rfl,B1.out⟩
end Go.Proofs.YtkklldokdnfkgaaGreat
namespace Go.Proofs.YtkklldokdnfkgaaGreat
def hwB : Int := 4294967296
def IsH (x : Int) : Prop := 0 ≤ x ∧ x < hwB
def HF (xs : List Int) : Prop := ∀ x ∈ xs,IsH x
def hval : List Int → Int
 | [] => 0
 | x :: r => x + hwB * hval r
def hwid : List Int → Nat
 | [] => 0
 | x :: r => if hwid r = 0 then (if x = 0 then 0 else 1) else hwid r + 1
def hpw : Nat → Int
 | 0 => 1
 | n + 1 => hwB * hpw n
def zgB (xs : List Int) : Prop := HF xs ∧ hwid xs = xs.length
theorem HF.nil : HF [] := fun x h => by cases h
theorem HF.cons {x : Int} {r : List Int} (hx : IsH x) (hr : HF r) : HF (x :: r) := by
 intro y hy;rcases List.mem_cons.1 hy with rfl | h
 ·exact hx
 ·exact hr y h
theorem HF.head {x : Int} {r : List Int} (h : HF (x :: r)) : IsH x := h x (by simp)
theorem HF.tail {x : Int} {r : List Int} (h : HF (x :: r)) : HF r := fun y hy => h y (by simp [hy])
theorem HF.take {xs : List Int} (h : HF xs) (n : Nat) : HF (xs.take n) := fun x hx => h x (List.mem_of_mem_take hx)
theorem HF.get {xs : List Int} (h : HF xs) {i : Nat} (hi : i < xs.length) : IsH xs[i] := h _ (List.getElem_mem hi)
theorem HF.set {xs : List Int} (h : HF xs) (i : Nat) {x : Int} (hx : IsH x) : HF (xs.set i x) := by
 intro y hy;rcases List.mem_or_eq_of_mem_set hy with q | rfl
 ·exact h y q
 ·exact hx
theorem zJA : ∀ {xs : List Int},HF xs → 0 ≤ hval xs
 | [],_ => by simp [hval]
 | x :: r,h => by
  have h1 := h.head;have h2 := zJA h.tail;unfold IsH hwB at h1;unfold hval hwB;omega
theorem zgH : ∀ xs : List Int,hwid xs ≤ xs.length
 | [] => by simp [hwid]
 | x :: r => by
  have := zgH r;unfold hwid;split
  ·split <;> simp
  ·simp;omega
theorem zuB : ∀ xs : List Int,hwid xs = 0 → hval xs = 0
 | [],_ => rfl
 | x :: r,h => by
  unfold hwid at h
  split at h
  ·rename_i h0
   have := zuB r h0
   split at h
   ·rename_i hx;simp [hval,hx,this]
   ·cases h
  ·cases h
theorem zcB : ∀ {xs : List Int},HF xs → 0 < hwid xs → 0 < hval xs
 | [],_,h => by simp [hwid] at h
 | x :: r,hw,h => by
  have h1 := hw.head;have h2 := zJA hw.tail;unfold hwid at h;unfold IsH hwB at h1
  split at h
  ·split at h
   ·cases h
   ·unfold hval hwB;omega
  ·have := zcB hw.tail (by omega)
   unfold hval hwB;omega
theorem zFE : ∀ {xs ys : List Int},HF xs → HF ys → hwid xs < hwid ys → hval xs < hval ys
 | [],ys,_,hy,h => by
  have := zcB hy (by simp [hwid] at h;exact h)
  simpa [hval] using this
 | x :: xs,[],_,_,h => by simp [hwid] at h
 | x :: xs,y :: ys,hx,hy,h => by
  have hx1 := hx.head;have hy1 := hy.head;have vy := zJA hy.tail
  by_cases e : hwid ys = 0
  ·have : hwid (y :: ys) ≤ 1 := by unfold hwid;rw [if_pos e];split <;> simp
   have h0 : hwid (x :: xs) = 0 := by omega
   rw [zuB _ h0];exact zcB hy (by omega)
  ·have e1 : hwid (y :: ys) = hwid ys + 1 := by rw [hwid,if_neg e]
   have e2 : hwid xs < hwid ys := by
    by_cases q : hwid xs = 0
    ·omega
    ·have : hwid (x :: xs) = hwid xs + 1 := by rw [hwid,if_neg q]
     omega
   have := zFE hx.tail hy.tail e2;unfold IsH hwB at hx1 hy1;unfold hval hwB;omega
theorem hcanon_zero : ∀ {ys : List Int},zgB ys → hval ys = 0 → ys = []
 | [],_,_ => rfl
 | y :: ys,hy,h => by
  exfalso
  have h2 := hy.2;have := zcB hy.1 (by rw [h2];simp);omega
def hlst (xs : List Int) : List Int := xs.take (hwid xs)
theorem hlength_lst (xs : List Int) : (hlst xs).length = hwid xs := by unfold hlst;have := zgH xs;simp;omega
theorem ziF (x : Int) (r : List Int) : hlst (x :: r) = if hwid r = 0 then (if x = 0 then [] else [x]) else x :: hlst r := by
 have e : hwid (x :: r) = if hwid r = 0 then (if x = 0 then 0 else 1) else hwid r + 1 := by rw [hwid]
 unfold hlst;rw [e]
 split
 ·split <;> simp
 ·simp
theorem zrG : ∀ xs : List Int,hval (hlst xs) = hval xs
 | [] => rfl
 | x :: r => by
  rw [ziF]
  split
  ·rename_i h0
   have := zuB r h0
   split
   ·rename_i hx;simp [hval,hx,this]
   ·simp [hval,this]
  ·simp [hval,zrG r]
theorem zqG : ∀ xs : List Int,hwid (hlst xs) = hwid xs
 | [] => rfl
 | x :: r => by
  rw [ziF,hwid]
  split
  ·split
   ·rfl
   ·rename_i hx;simp [hwid,hx]
  ·rename_i h0
   rw [hwid,zqG r,if_neg h0]
theorem hcanon_lst {xs : List Int} (h : HF xs) : zgB (hlst xs) := ⟨h.take _,by rw [zqG,hlength_lst]⟩
theorem zsA : ∀ {xs : List Int},HF xs → hval xs < hpw xs.length
 | [],_ => by simp [hval,hpw]
 | x :: r,h => by
  have h1 := h.head;have h2 := zsA h.tail;unfold IsH hwB at h1;simp only [List.length_cons];unfold hval hpw hwB;omega
theorem zSB : ∀ n,0 < hpw n
 | 0 => by simp [hpw]
 | n + 1 => by have := zSB n;unfold hpw hwB;omega
theorem zhC : ∀ (xs ys : List Int),hval (xs ++ ys) = hval xs + hpw xs.length * hval ys
 | [],ys => by simp [hval,hpw]
 | x :: r,ys => by
  simp only [List.cons_append,List.length_cons,hval,hpw,zhC r ys];rw [Int.mul_add,Int.mul_assoc];omega
theorem zCD : ∀ (xs : List Int) (i : Nat) (z : Int) (h : i < xs.length),hval (xs.set i z) = hval xs + (z - xs[i]) * hpw i
 | [],i,z,h => by simp at h
 | x :: r,0,z,_ => by simp [hval,hpw];omega
 | x :: r,i + 1,z,h => by
  have := zCD r i z (by simpa using h);simp only [List.set_cons_succ,List.getElem_cons_succ,hval,hpw,this];have h' : i < r.length := by simpa using h
  generalize hq : z - r[i]'h' = q;rw [Int.mul_add,← Int.mul_assoc,← Int.mul_assoc,Int.mul_comm hwB q];omega
theorem znA (ys : List Int) (i : Nat) (h : i < ys.length) : hval (ys.take (i + 1)) = hval (ys.take i) + ys[i] * hpw i := by
 rw [List.take_succ_eq_append_getElem h,zhC];simp [hval,Int.mul_comm,Nat.min_eq_left (Nat.le_of_lt h)]
theorem zjH : ∀ {xs ys : List Int} {j : Nat},HF xs → HF ys → (hl : xs.length = ys.length) → (h : j < xs.length) → xs.drop (j + 1) = ys.drop (j + 1) → xs[j] ≠ ys[j]'(by omega) → cmpI (hval xs) (hval ys) = cmpI xs[j] (ys[j]'(by omega))
 | [],_,_,_,_,_,h,_,_ => by simp at h
 | x :: xs,[],_,_,_,hl,_,_,_ => by simp at hl
 | x :: xs,y :: ys,0,hx,hy,_,_,hd,hne => by
  simp only [List.drop_succ_cons,List.drop_zero] at hd;simp only [List.getElem_cons_zero] at hne ⊢;have hx1 := hx.head;have hy1 := hy.head;unfold IsH hwB at hx1 hy1;subst hd;simp only [cmpI,hval];have e1 : (x + hwB * hval xs < y + hwB * hval xs) ↔ x < y := by omega
  have e2 : (y + hwB * hval xs < x + hwB * hval xs) ↔ y < x := by omega
  simp only [e1,e2]
 | x :: xs,y :: ys,j + 1,hx,hy,hl,h,hd,hne => by
  simp only [List.drop_succ_cons] at hd;simp only [List.getElem_cons_succ] at hne ⊢;have ih := zjH hx.tail hy.tail (by simpa using hl) (by simpa using h) hd hne;have hx1 := hx.head;have hy1 := hy.head;unfold IsH hwB at hx1 hy1;rw [← ih];have hne' : hval xs ≠ hval ys := by
   intro e;rw [e,cmpI_self] at ih;exact hne (cmpI_zero ih.symm)
  rcases Int.lt_or_gt_of_ne hne' with q | q
  ·rw [zeA q,zeA (by unfold hval hwB;omega)]
  ·rw [zfA q,zfA (by unfold hval hwB;omega)]
theorem zEF : ∀ {xs : List Int} {n : Nat},hwid xs = n + 1 → ∃ h : n < xs.length,xs[n] ≠ 0
 | [],n,h => by simp [hwid] at h
 | x :: r,n,h => by
  unfold hwid at h
  split at h
  ·split at h
   ·cases h
   ·have : n = 0 := by omega
    subst this;exact ⟨by simp,by simpa⟩
  ·rename_i hr
   obtain ⟨m,hm⟩ : ∃ m,hwid r = m + 1 := ⟨hwid r - 1,by omega⟩
   obtain ⟨h1,h2⟩ := zEF hm;have : n = m + 1 := by omega
   subst this;exact ⟨by simpa using h1,by simpa using h2⟩
theorem zhH : ∀ xs : List Int,hwid xs = wid xs
 | [] => rfl
 | x :: r => by unfold hwid wid;rw [zhH r]
theorem ziH (xs : List Int) : hlst xs = lst xs := by unfold hlst lst;rw [zhH]
theorem HF.word {xs : List Int} (h : HF xs) : WF xs := fun x hx => by have := h x hx;unfold IsH hwB at this;unfold IsW wB;omega
theorem HF.drop {xs : List Int} (h : HF xs) (n : Nat) : HF (xs.drop n) := fun x hx => h x (List.mem_of_mem_drop hx)
theorem zsG (n : Nat) : HF (List.replicate n 0) := fun x hx => by rw [(List.mem_replicate.1 hx).2];unfold IsH hwB;omega
theorem zND : ∀ n : Nat,hval (List.replicate n 0) = 0
 | 0 => rfl
 | n + 1 => by rw [List.replicate_succ];unfold hval;rw [zND n];omega
theorem zFG : ∀ m n : Nat,hpw (m + n) = hpw m * hpw n
 | m,0 => by simp [hpw]
 | m,n + 1 => by rw [show m + (n + 1) = (m + n) + 1 by omega,hpw,hpw,zFG m n];simp only [Int.mul_left_comm]
theorem zdB {zs : List Int} {j : Nat} (hj : j ≤ zs.length) : hval zs = hval (zs.take j) + hpw j * hval (zs.drop j) := by
 have h := zhC (zs.take j) (zs.drop j);rw [List.take_append_drop,show (zs.take j).length = j by simp;omega] at h;exact h
theorem hcanon_lst' {xs : List Int} (h : HF xs) : zgB (lst xs) := by rw [← ziH];exact hcanon_lst h
theorem hval_lst' (xs : List Int) : hval (lst xs) = hval xs := by rw [← ziH];exact zrG xs
open Go.RowKit
theorem zZE {B : Nat} {w : World} {a : Option Addr} {n cap : Nat} {xs : List Int} (h : Sl B w (.slice a n cap) xs) : Sl B w (.slice a (wid xs) cap) (lst xs) := by
 obtain ⟨hw,a',cap',he,hlc,hcm,hm⟩ := h;simp only [Value.slice.injEq] at he;obtain ⟨rfl,rfl,rfl⟩ := he;have l := zOA xs;refine ⟨hw.take _,a,cap,by rw [length_lst],by rw [length_lst];omega,by rw [length_lst];omega,?_⟩;rcases hm with rfl | ⟨b,off,h1,h2,h3⟩
 ·exact .inl rfl
 ·refine .inr ⟨b,off,h1,h2,fun j hj => ?_⟩
  rw [length_lst] at hj;rw [h3 j (by omega),zKC hj]
theorem zmB {B : Nat} {w : World} {a : Option Addr} {m cap : Nat} {xs : List Int} (h : Sl B w (.slice a m cap) xs) :
  Calls Tryz.prog 109 #[.slice a m cap] w fun e w' => e = .returned (.slice a (wid xs) cap) ∧ w' = w := by
 obtain ⟨hw,a',cap',he,hlc,hcm,hm⟩ := h;simp only [Value.slice.injEq] at he;obtain ⟨rfl,rfl,rfl⟩ := he;have HW : Hid (∀ n : Nat,n ≤ xs.length → (∀ j (h : j < xs.length),n ≤ j → xs[j] = 0) → (0 < n → ∀ h' : n - 1 < xs.length,xs[n - 1] ≠ 0) → wid xs = n) := fun n h1 h2 h3 => wid_is h1 h2 h3
 generalize wid xs = W at *;have HM := hid hm;go_enter Tryz.func109,Tryz.ntmps109;go_wp2
 go_loop [3] (fun i => ∃ n : Nat,n ≤ xs.length ∧ i = .int .i64 n ∧ ∀ j (h : j < xs.length),n ≤ j → xs[j] = 0) (fun i => (intOf i).toNat)
 case atStart => exact ⟨xs.length,Nat.le_refl _,rfl,fun j h h' => by omega⟩
 case round =>
  obtain ⟨n,hn,rfl,hz⟩ := hrel;have HZ := hid hz;clear hz hm
  by_cases h0 : n = 0
  ·subst h0
   go_wp2;go_ret;exact ⟨by rw [HW.out 0 (by omega) HZ.out (by omega)];rfl,rfl⟩
  ·obtain ⟨k,rfl⟩ : ∃ k,n = k + 1 := ⟨n - 1,by omega⟩
   rcases HM.out with rfl | ⟨b,off,rfl,hb,hc⟩
   ·simp at hn
   ·have hk : k < xs.length := by omega
    have hck := hc k hk;obtain ⟨x,hx⟩ : ∃ x,x = xs[k] := ⟨_,rfl⟩
    rw [← hx] at hck;have HX : Hid (x = xs[k]) := hx;clear hx hc h0
    by_cases hx0 : x = 0
    ·have ht : (x == 0) = true := by simp [hx0]
     go_wp2;go_round
     case rel =>
      refine ⟨k,by omega,rfl,fun j h hj => ?_⟩
      by_cases e : j = k
      ·subst e;rw [← HX.out];exact hx0
      ·exact HZ.out j h (by omega)
     case measure => simp [intOf]
    ·have ht : (x == 0) = false := by simp [hx0]
     go_wp2;go_ret;refine ⟨?_,rfl⟩;rw [HW.out (k + 1) hn HZ.out (fun _ h' => by have := HX.out;simp at h' ⊢;rw [← this];exact hx0)]
     rfl
def pairs : List Int → List Int
 | [] => []
 | x :: r => x % 4294967296 :: x / 4294967296 :: pairs r
theorem zbB : ∀ xs,(pairs xs).length = 2 * xs.length
 | [] => rfl
 | x :: r => by simp [pairs,zbB r];omega
theorem zWD : ∀ xs ys,pairs (xs ++ ys) = pairs xs ++ pairs ys
 | [],ys => rfl
 | x :: r,ys => by simp [pairs,zWD r ys]
theorem pairs_val : ∀ xs,hval (pairs xs) = val xs
 | [] => rfl
 | x :: r => by
  unfold pairs hval hval val;rw [pairs_val r];unfold hwB wB;omega
theorem zhG : ∀ {xs},WF xs → HF (pairs xs)
 | [],_ => HF.nil
 | x :: r,h => by
  have hx := h.head;unfold IsW wB at hx;exact HF.cons (by unfold IsH hwB;omega) (HF.cons (by unfold IsH hwB;omega) (zhG h.tail))
theorem set_two (P Z : List Int) (c d a b : Int) (n : Nat) (hn : P.length = n) : ((P ++ c :: d :: Z).set n a).set (n + 1) b = P ++ a :: b :: Z := by
 subst hn
 simp
theorem pairs_step {L : List Int} {i : Nat} (h : i < L.length) : (((pairs (L.take i) ++ List.replicate (2 * (L.length - i)) 0).set (2 * i) (L[i] % 4294967296)).set (2 * i + 1) (L[i] / 4294967296)) = pairs (L.take (i + 1)) ++ List.replicate (2 * (L.length - (i + 1))) 0 := by
 have e : 2 * (L.length - i) = 2 * (L.length - (i + 1)) + 1 + 1 := by omega
 have e2 : L.take (i + 1) = L.take i ++ [L[i]] := by rw [List.take_succ_eq_append_getElem h]
 rw [e,List.replicate_succ,List.replicate_succ,set_two _ _ _ _ _ _ _ (by rw [zbB,List.length_take];omega),e2,zWD];simp [pairs]
theorem ziC {w : World} {v : Value} {xs : List Int} (h : Sl w.heap.size w v xs) (hlen : xs.length ≤ 8796093022208) :
  Calls Tryz.prog 97 #[v] w fun e w' => ∃ D r,e = .returned r ∧ Sl w'.heap.size w' r D ∧ zgB D ∧ hval D = val xs ∧ D.length ≤ 2 * xs.length ∧ Below w.heap.size w w' := by
 have hs := h;obtain ⟨hw,a,cap,rfl,hlc,hcm,hm⟩ := h;have HT := zmB hs;have l1 := zOA xs;have hsl := zZE hs;obtain ⟨_,a',cap',he,_,_,hm'⟩ := hsl;simp only [Value.slice.injEq] at he;obtain ⟨rfl,_,rfl⟩ := he;have HM := hid hm';have HL := hid (length_lst xs);have HWL := hid (zHA hw).1;have HVL := hid (zQA xs);generalize lst xs = L at *;obtain ⟨n,hn⟩ : ∃ n,wid xs = n := ⟨_,rfl⟩
 rw [hn] at HT HL l1;clear hm hm' hs hn;go_enter Tryz.func97,Tryz.ntmps97;go_wp2_with fail;refine HT.mono ?_;rintro e w1 ⟨rfl,rfl⟩;clear HT;go_wp2_with (at_make;refine wpList_make_words _ rfl _ _ rfl _ _ (2 * n) (2 * n) rfl rfl (by first | rfl | (simp;done) | omega) (by first | rfl | (simp;done) | omega) (Nat.le_refl _) (by omega) ?_)
 intro w2 hrow hb2 hsz2;have hrow' := hid hrow;have hb2' := hid hb2;clear hrow hb2 hsz2;go_wp2_with fail
 go_loopw [4] (fun i wr => ∃ (k : Nat),k ≤ n ∧ i = .int .i64 k ∧ Row wr w1.heap.size (ws (pairs (L.take k) ++ List.replicate (2 * (n - k)) 0)) ∧ Below w1.heap.size w1 wr) (fun i _ => n - (intOf i).toNat)
 case atStart => exact ⟨0,Nat.zero_le _,rfl,by simpa [pairs] using hrow'.out,hb2'.out⟩
 case round =>
  clear hrow' hb2';obtain ⟨k,hk,rfl,hr,hb⟩ := hrel
  by_cases hlt : k < n
  ·have hk2 : k < L.length := by have := HL.out;omega
   rcases HM.out with e | ⟨b,off,rfl,hbg,hcy⟩
   ·subst e;simp at hk2
   have hst := pairs_step hk2;rw [HL.out] at hst;have hxw := HWL.out.get hk2;unfold IsW wB at hxw;obtain ⟨hx0,hx1⟩ := hxw;have lD : (pairs (L.take k) ++ List.replicate (2 * (n - k)) 0).length = 2 * n := by rw [List.length_append,zbB,List.length_take,List.length_replicate];have := HL.out;omega
   generalize pairs (L.take k) ++ List.replicate (2 * (n - k)) 0 = D at *;have c2 : wr.cell? ⟨b,off + k,none⟩ = some (.int .u64 L[k]) := (hb.cell (p := ⟨b,off + k,none⟩) hbg).trans (hcy k hk2);have c1 : wr.cell? ⟨w1.heap.size,2 * k,none⟩ = some (.int .u64 (D[2 * k]'(by omega))) := Row.word (r := []) (by simpa using hr) (by omega);have cf : wr.frozen? ⟨w1.heap.size,2 * k,none⟩ = false := hr.frozen _;have hr1 : Row (wr.setCell ⟨w1.heap.size,2 * k,none⟩ (.int .u64 (L[k] % 4294967296))) w1.heap.size (ws (D.set (2 * k) (L[k] % 4294967296))) := by
    have := Row.setWord (r := []) (by simpa using hr) (show 2 * k < D.length by omega) (L[k] % 4294967296)
    simpa using this
   have hb1 := hb.setCell (p := ⟨w1.heap.size,2 * k,none⟩) (Nat.le_refl _) (.int .u64 (L[k] % 4294967296));have c2' : (wr.setCell ⟨w1.heap.size,2 * k,none⟩ (.int .u64 (L[k] % 4294967296))).cell? ⟨b,off + k,none⟩ = some (.int .u64 L[k]) := (hb1.cell (p := ⟨b,off + k,none⟩) hbg).trans (hcy k hk2);have c1' : (wr.setCell ⟨w1.heap.size,2 * k,none⟩ (.int .u64 (L[k] % 4294967296))).cell? ⟨w1.heap.size,2 * k + 1,none⟩ = some (.int .u64 ((D.set (2 * k) (L[k] % 4294967296))[2 * k + 1]'(by rw [List.length_set];omega))) := Row.word (r := []) (by simpa using hr1) (by rw [List.length_set];omega);have cf' : (wr.setCell ⟨w1.heap.size,2 * k,none⟩ (.int .u64 (L[k] % 4294967296))).frozen? ⟨w1.heap.size,2 * k + 1,none⟩ = false := hr1.frozen _;have HR2 : Hid (Row ((wr.setCell ⟨w1.heap.size,2 * k,none⟩ (.int .u64 (L[k] % 4294967296))).setCell ⟨w1.heap.size,2 * k + 1,none⟩ (.int .u64 (L[k] / 4294967296))) w1.heap.size (ws (pairs (L.take (k + 1)) ++ List.replicate (2 * (n - (k + 1))) 0))) := by
    have := Row.setWord (r := []) (by simpa using hr1) (show 2 * k + 1 < (D.set (2 * k) (L[k] % 4294967296)).length by rw [List.length_set];omega) (L[k] / 4294967296);rw [hst] at this;unfold Hid;simpa using this
   have HB2 := hid (hb1.setCell (p := ⟨w1.heap.size,2 * k + 1,none⟩) (Nat.le_refl _) (.int .u64 (L[k] / 4294967296)));generalize (D.set (2 * k) (L[k] % 4294967296))[2 * k + 1]'(by rw [List.length_set];omega) = z1 at *;generalize D[2 * k]'(by omega) = z0 at *;clear hcy hr hb hr1 hb1 hst;generalize L[k] = x at *;have i0 : (0 : Int) ≤ (k : Int) := by omega
   go_wp2;go_roundw
   case rel => exact ⟨k + 1,by omega,by go_num,HR2.out,HB2.out⟩
   case measure => simp [intOf];omega
  ·obtain rfl : k = n := by omega
   have e0 : L.take k = L := by rw [← HL.out];simp
   rw [Nat.sub_self,Nat.mul_zero,List.replicate_zero,List.append_nil,e0] at hr;have hD := zhG HWL.out;have hDl : (pairs L).length = 2 * k := by rw [zbB,HL.out]
   have hsd := Row.sl (r := []) (by simpa using hr) hD.word (cap := 2 * k) (by rw [hDl];exact Nat.le_refl _) (by omega) hr.lt;rw [hDl] at hsd;have HT2 := hid (zmB hsd);have HS2 := hid (zZE hsd);have l2 := zOA (pairs L);have HB := hid hb;clear hr hsd e0 hb HM;go_wp2_with fail;refine HT2.out.mono ?_;rintro e w3 ⟨rfl,rfl⟩;go_wp2;go_ret;exact ⟨lst (pairs L),_,rfl,HS2.out,hcanon_lst' hD,by rw [hval_lst',pairs_val,HVL.out],by rw [length_lst];omega,HB.out⟩
end Go.Proofs.YtkklldokdnfkgaaGreat
