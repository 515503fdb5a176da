import Derived.Test.YtbcgggadelnaaaaGreatQSt18ToIo18
import Derived.Test.YtbcgggadelnaaaaGreatQMat11ToHw18
set_option maxRecDepth 100000
set_option maxHeartbeats 6400000
set_option linter.unusedVariables false
set_option linter.unusedSimpArgs false
namespace Go.Proofs.YtbcgggadelnaaaaGreat
open Go.RowKit
abbrev hg3 (Bm : Nat) : Value := .func (.func 65) #[] #[.pointer (some ⟨Bm,0,none⟩)]
abbrev hg4 (Bm : Nat) : Value := .func (.func 66) #[] #[.pointer (some ⟨Bm,0,none⟩)]
abbrev hd21 (b : Nat) : List Value := [hf1 b,hf2 b,hf3 b,hf4 b]
structure zKA where
 full : Bool
 n0 : Nat
 Bl : Nat
 Bh : Nat
 Bm : Nat
 Ba : Nat → Nat
 lv : Nat → Value
 S : Nat → Prop
def zKA.q (R : zKA) : Nat := if R.full then 3 else 1
def zKA.p (R : zKA) : Nat := if R.full then 2 else 1
def zKA.wd (R : zKA) (m t : Nat) : Nat := if t = 0 then R.n0 else m
def zKA.looks (R : zKA) : List Value := if R.full then [R.lv 0,R.lv 1] else [R.lv 0]
def zKA.hands (R : zKA) : List Value := if R.full then [hf1 (R.Ba 0),hf2 (R.Ba 0),hf3 (R.Ba 0),hf4 (R.Ba 0),hf1 (R.Ba 1),hf2 (R.Ba 1),hf3 (R.Ba 1),hf4 (R.Ba 1),hf1 (R.Ba 2),hf2 (R.Ba 2),hg3 R.Bm,hg4 R.Bm] else hd21 (R.Ba 0)
def zKA.L (R : zKA) (b : Nat) : Prop := ∃ t n c,t < R.q ∧ R.lv t = .slice (some ⟨b,0,none⟩) n c
theorem zKA.q0 (R : zKA) : 0 < R.q := by unfold zKA.q;split <;> omega
theorem zKA.q3 (R : zKA) : R.q ≤ 3 := by unfold zKA.q;split <;> omega
theorem zKA.ful (R : zKA) {t : Nat} (h : t < R.q) (h0 : 0 < t) : R.full = true := by
 unfold zKA.q at h
 by_cases e : R.full = true
 ·exact e
 ·rw [if_neg e] at h;omega
theorem zKA.qf (R : zKA) (h : R.full = true) : R.q = 3 := by unfold zKA.q;rw [if_pos h]
structure Wk21 (R : zKA) (B : Nat) (w : World) (bs : Nat) (sv : Value) (m r : Nat) (ρ γ : Nat → Nat) (gs : Nat → Nat → Nat) (Z : Nat → Nat → Nat → Int) (kz : Nat → Nat) : Prop where
 s : Cel w bs 75 [.slice (some ⟨R.Bl,0,none⟩) R.p R.p,.slice (some ⟨R.Bh,0,none⟩) R.q R.q,sv]
 l : Cel w R.Bl 61 R.looks
 h : Cel w R.Bh 70 R.hands
 a : ∀ t,t < R.q → Cel w (R.Ba t) 61 [R.lv t]
 g : R.full = true → Cel w R.Bm 70 (hd21 (R.Ba 2))
 sp : Sp18 B w sv r ρ γ
 sh : ∀ t,t < R.q → Sh17 B w (R.lv t) m (R.wd m t) (gs t) (Z t) (kz t)
 ne : ∀ t u i j,t < R.q → u < R.q → t ≠ u → i < m → j < m → gs t i ≠ gs u j
 rs : ∀ b,R.S b ↔ ∃ t i,t < R.q ∧ i < m ∧ b = gs t i
 ln : ∀ t u b n c n' c',t < R.q → u < R.q → R.lv t = .slice (some ⟨b,0,none⟩) n c → R.lv u = .slice (some ⟨b,0,none⟩) n' c' → t = u
section
variable {R : zKA} {B bs m r : Nat} {w w' : World} {sv : Value} {ρ γ : Nat → Nat} {gs : Nat → Nat → Nat} {Z : Nat → Nat → Nat → Int} {kz : Nat → Nat}
theorem Wk21.now (h : Wk21 R B w bs sv m r ρ γ gs Z kz) (b : Below w.heap.size w w') : Wk21 R B w' bs sv m r ρ γ gs Z kz :=
 ⟨h.s.step b,h.l.step b,h.h.step b,fun t ht => (h.a t ht).step b,fun e => (h.g e).step b,h.sp.cel fun _ _ d => d.step b,fun t ht => (h.sh t ht).now b,h.ne,h.rs,h.ln⟩
theorem Wk21.form (h : Wk21 R B w bs sv m r ρ γ gs Z kz) (hm : 0 < m) {t : Nat} (ht : t < R.q) : ∃ Lb cap,R.lv t = .slice (some ⟨Lb,0,none⟩) m cap := by
 rcases (h.sh t ht).1 with ⟨e,_⟩ | ⟨_,Lb,cap,_,e,_⟩
 ·omega
 ·exact ⟨Lb,cap,e⟩
theorem Wk21.sform (h : Wk21 R B w bs sv m r ρ γ gs Z kz) : ∃ sa sc,sv = .slice sa r sc := by
 rcases h.sp with ⟨e,h⟩ | ⟨_,Bp,cap,t,e,_⟩
 ·exact ⟨none,0,by rw [e];exact h⟩
 ·exact ⟨_,cap,e⟩
theorem Wk21.cel (h : Wk21 R B w bs sv m r ρ γ gs Z kz) {b : Nat} (hb : R.S b) : ∃ L,Cel w b 51 L := by
 obtain ⟨t,i,ht,hi,rfl⟩ := (h.rs b).1 hb;exact ((h.sh t ht).2.2 i hi).2.cel18
theorem Wk21.own (h : Wk21 R B w bs sv m r ρ γ gs Z kz) {t i : Nat} (ht : t < R.q) (hi : i < m) : R.S (gs t i) := (h.rs _).2 ⟨t,i,ht,hi,rfl⟩
theorem Wk21.low (h : Wk21 R B w bs sv m r ρ γ gs Z kz) {b : Nat} (hb : R.S b) : B ≤ b := by
 obtain ⟨t,i,ht,hi,rfl⟩ := (h.rs b).1 hb;exact ((h.sh t ht).2.2 i hi).1
theorem Wk21.put {t : Nat} {S : Nat → Prop} {Y : Nat → Nat → Int} (h : Wk21 R B w bs sv m r ρ γ gs Z kz) (ht : t < R.q) (hS : ∀ b,S b → ∃ i,i < m ∧ b = gs t i) (hT : Touch S w w') (hr : ∀ i,i < m → Rw17 w' (gs t i) (R.wd m t) (Y i) (kz t)) {Z' : Nat → Nat → Nat → Int} (e1 : Z' t = Y) (e2 : ∀ u,u ≠ t → Z' u = Z u) : Wk21 R B w' bs sv m r ρ γ gs Z' kz := by
 have ty : Ty 51 w w' := hT.tyS18 fun b q => by
  obtain ⟨i,hi,rfl⟩ := hS b q;exact h.cel (h.own ht hi)
 refine ⟨h.s.ty13 ty (by decide),h.l.ty13 ty (by decide),h.h.ty13 ty (by decide),fun t ht => (h.a t ht).ty13 ty (by decide),fun e => (h.g e).ty13 ty (by decide),h.sp.cel fun _ _ d => d.ty13 ty (by decide),fun u hu => ?_,h.ne,h.rs,h.ln⟩;obtain ⟨h1,h4,h5⟩ := h.sh u hu;refine ⟨?_,h4,fun i hi => ⟨(h5 i hi).1,?_⟩⟩
 ·rcases h1 with h1 | ⟨h0,Lb,cap,r,e,e0,e1,e2⟩
  ·exact .inl h1
  ·exact .inr ⟨h0,Lb,cap,r,e,e0,e1,e2.ty13 ty (by decide)⟩
 ·by_cases q : u = t
  ·subst q;rw [e1];exact hr i hi
  ·rw [e2 u q]
   exact (h5 i hi).2.oth18 hT ty fun b => by
    obtain ⟨j,hj,e⟩ := hS _ b;exact h.ne u t i j hu ht q hi hj e
theorem Wk21.row {t i : Nat} {F : Nat → Int} {Y : Nat → Nat → Int} (h : Wk21 R B w bs sv m r ρ γ gs Z kz) (ht : t < R.q) (hi : i < m) (hr : Rw17 w' (gs t i) (R.wd m t) F (kz t)) (hT : Touch (· = gs t i) w w') (f1 : ∀ c,c < R.wd m t → F c = Y i c) (f2 : ∀ u,u ≠ i → Y u = Z t u) {Z' : Nat → Nat → Nat → Int} (e1 : Z' t = Y) (e2 : ∀ u,u ≠ t → Z' u = Z u) : Wk21 R B w' bs sv m r ρ γ gs Z' kz := by
 have ty := zvC ((h.sh t ht).2.2 i hi).2 hT;refine h.put ht (fun b q => ⟨i,hi,q⟩) hT (fun u hu => ?_) e1 e2
 by_cases q : u = i
 ·subst q;exact hr.congr f1
 ·rw [f2 u q];exact ((h.sh t ht).2.2 u hu).2.oth18 hT ty fun e => q ((h.sh t ht).2.1 u i hu hi e)
theorem Wk21.two {t i j : Nat} {F G : Nat → Int} {Y : Nat → Nat → Int} (h : Wk21 R B w bs sv m r ρ γ gs Z kz) (ht : t < R.q) (hi : i < m) (hj : j < m) (hij : i ≠ j) (hr : Rw17 w' (gs t i) (R.wd m t) F (kz t)) (hs : Rw17 w' (gs t j) (R.wd m t) G (kz t)) (hT : Touch (zFE (gs t i) (gs t j)) w w') (f1 : ∀ c,c < R.wd m t → F c = Y i c) (f2 : ∀ c,c < R.wd m t → G c = Y j c) (f3 : ∀ u,u ≠ i → u ≠ j → Y u = Z t u) {Z' : Nat → Nat → Nat → Int} (e1 : Z' t = Y) (e2 : ∀ u,u ≠ t → Z' u = Z u) : Wk21 R B w' bs sv m r ρ γ gs Z' kz := by
 have hS : ∀ b,zFE (gs t i) (gs t j) b → ∃ i,i < m ∧ b = gs t i := fun b q => by
  rcases q with q | q
  ·exact ⟨i,hi,q⟩
  ·exact ⟨j,hj,q⟩
 have ty : Ty 51 w w' := hT.tyS18 fun b q => by
  obtain ⟨i,hi,rfl⟩ := hS b q;exact h.cel (h.own ht hi)
 refine h.put ht hS hT (fun u hu => ?_) e1 e2
 by_cases q : u = i
 ·subst q;exact hr.congr f1
 ·by_cases q2 : u = j
  ·subst q2;exact hs.congr f2
  ·rw [f3 u q q2]
   exact ((h.sh t ht).2.2 u hu).2.oth18 hT ty fun e => by
    rcases e with e | e
    ·exact q ((h.sh t ht).2.1 u i hu hi e)
    ·exact q2 ((h.sh t ht).2.1 u j hu hj e)
theorem Wk21.exch {t Lb cap i j : Nat} {Y : Nat → Nat → Int} (h : Wk21 R B w bs sv m r ρ γ gs Z kz) (ht : t < R.q) (hlv : R.lv t = .slice (some ⟨Lb,0,none⟩) m cap) (hi : i < m) (hj : j < m) (hs : Sh17 B w' (R.lv t) m (R.wd m t) (swF (gs t) i j) Y (kz t)) (hT : Touch (· = Lb) w w') {Z' : Nat → Nat → Nat → Int} {gs' : Nat → Nat → Nat} (e1 : Z' t = Y) (e2 : ∀ u,u ≠ t → Z' u = Z u) (e3 : gs' t = swF (gs t) i j) (e4 : ∀ u,u ≠ t → gs' u = gs u) : Wk21 R B w' bs sv m r ρ γ gs' Z' kz := by
 have hcl : ∀ b,b = Lb → ∃ L,Cel w b 22 L := fun b q => by
  subst q;rcases (h.sh t ht).1 with ⟨_,h1⟩ | ⟨h0,Lb',cap',r,e,e0,e1,e2⟩
  ·rw [hlv] at h1;cases h1
  rw [hlv] at e;simp only [Value.slice.injEq,Option.some.injEq,Addr.mk.injEq,and_true,true_and] at e;obtain ⟨rfl,rfl⟩ := e;exact ⟨_,e2⟩
 have ty : Ty 22 w w' := hT.tyS18 hcl;have hsw : ∀ a,a < m → ∃ b,b < m ∧ swF (gs t) i j a = gs t b := fun a ha => by
  unfold swF
  split
  ·exact ⟨j,hj,rfl⟩
  ·split
   ·exact ⟨i,hi,rfl⟩
   ·exact ⟨a,ha,rfl⟩
 have hgs : ∀ u a,a < m → ∃ b,b < m ∧ gs' u a = gs u b := fun u a ha => by
  by_cases q : u = t
  ·subst q;rw [e3];exact hsw a ha
  ·rw [e4 u q];exact ⟨a,ha,rfl⟩
 have hback : ∀ u b,b < m → ∃ a,a < m ∧ gs u b = gs' u a := fun u b hb => by
  by_cases q : u = t
  ·subst q
   rw [e3]
   by_cases q1 : b = i
   ·by_cases q3 : i = j
    ·exact ⟨i,hi,by unfold swF;rw [if_pos rfl,q1,← q3]⟩
    ·exact ⟨j,hj,by unfold swF;rw [if_neg (Ne.symm q3),if_pos rfl,q1]⟩
   ·by_cases q2 : b = j
    ·exact ⟨i,hi,by unfold swF;rw [if_pos rfl,q2]⟩
    ·exact ⟨b,hb,by unfold swF;rw [if_neg q1,if_neg q2]⟩
  ·rw [e4 u q];exact ⟨b,hb,rfl⟩
 refine ⟨h.s.ty13 ty (by decide),h.l.ty13 ty (by decide),h.h.ty13 ty (by decide),fun t ht => (h.a t ht).ty13 ty (by decide),fun e => (h.g e).ty13 ty (by decide),h.sp.cel fun _ _ d => d.ty13 ty (by decide),fun u hu => ?_,fun u v a b hu hv huv ha hb e => ?_,fun b => ?_,h.ln⟩
 ·by_cases q : u = t
  ·subst q;rw [e1,e3];exact hs
  ·rw [e2 u q,e4 u q]
   obtain ⟨h1,h4,h5⟩ := h.sh u hu;refine ⟨?_,h4,fun a ha => ⟨(h5 a ha).1,(h5 a ha).2.ty ty (by decide) (by decide)⟩⟩;rcases h1 with h1 | ⟨h0,Lb',cap',r,e,e0,e1,e2⟩
   ·exact .inl h1
   ·refine .inr ⟨h0,Lb',cap',r,e,e0,e1,(hT.block Lb' e2.blk ?_).trans e2⟩
    intro q';subst q';exact q (h.ln u t _ _ _ _ _ hu ht e hlv)
 ·obtain ⟨a',ha',ea⟩ := hgs u a ha
  obtain ⟨b',hb',eb⟩ := hgs v b hb;rw [ea,eb] at e;exact h.ne u v a' b' hu hv huv ha' hb' e
 ·rw [h.rs b]
  constructor
  ·rintro ⟨u,a,hu,ha,rfl⟩
   obtain ⟨a',ha',e⟩ := hback u a ha;exact ⟨u,a',hu,ha',e⟩
  ·rintro ⟨u,a,hu,ha,rfl⟩
   obtain ⟨a',ha',e⟩ := hgs u a ha;exact ⟨u,a',hu,ha',e⟩
theorem Wk21.lt (h : Wk21 R B w bs sv m r ρ γ gs Z kz) {t i c : Nat} (ht : t < R.q) (hi : i < m) (hc : c < R.wd m t) : ((Z t i c).natAbs : Int) < pw (kz t) := by
 obtain ⟨_,_,_,_,_,_,_,_,z⟩ := ((h.sh t ht).2.2 i hi).2.at hc;exact z.zi.lt
end
structure Lk21 (R : zKA) (m n : Nat) (X : Nat → Nat → Int) (kw : Nat) (Z : Nat → Nat → Nat → Int) (kz : Nat → Nat) : Prop where
 n64 : R.n0 ≤ 64
 k1 : 1 ≤ kw
 k0 : ∀ t,t < R.q → t ≠ 2 → kz t = kw
 x0 : ∀ i c,i < m → c < R.n0 → X i c = Z 0 i c
 one : R.full = false → n = R.n0
 n2 : R.full = true → n = R.n0 + m ∧ kz 2 = 64 * kw + 65 ∧ kw ≤ 10000000000
 x1 : R.full = true → ∀ i c,i < m → c < m → X i (R.n0 + c) = Z 1 i c
 iv : R.full = true → Iv21 m R.n0 X (Z 2)
def zOA (R : zKA) (B : Nat) (w : World) (bs : Nat) (sv : Value) (m n r : Nat) (ρ γ : Nat → Nat) (X : Nat → Nat → Int) (kw : Nat) : Prop := ∃ gs Z kz,Wk21 R B w bs sv m r ρ γ gs Z kz ∧ Lk21 R m n X kw Z kz
section
variable {R : zKA} {B bs m n r kw : Nat} {w w' : World} {sv : Value} {ρ γ : Nat → Nat} {X : Nat → Nat → Int}
theorem zOA.now (h : zOA R B w bs sv m n r ρ γ X kw) (b : Below w.heap.size w w') : zOA R B w' bs sv m n r ρ γ X kw := by
 obtain ⟨gs,Z,kz,h1,h2⟩ := h;exact ⟨gs,Z,kz,h1.now b,h2⟩
theorem Lk21.congr {Y : Nat → Nat → Int} {Z : Nat → Nat → Nat → Int} {kz : Nat → Nat} (h : Lk21 R m n X kw Z kz) (e : ∀ i j,i < m → j < n → X i j = Y i j) : Lk21 R m n Y kw Z kz := by
 have hn0 : R.n0 ≤ n := by
  by_cases q : R.full = true
  ·have := h.n2 q;omega
  ·have := h.one (by simpa using q);omega
 refine ⟨h.n64,h.k1,h.k0,fun i c hi hc => by rw [← e i c hi (by omega)];exact h.x0 i c hi hc,h.one,h.n2,fun q i c hi hc => by have := h.n2 q;rw [← e i _ hi (by omega)];exact h.x1 q i c hi hc,fun q => (h.iv q).congr (fun i k hi hk => e i _ hi (by have := h.n2 q;omega)) fun _ _ _ _ => rfl⟩
theorem zOA.congr {Y : Nat → Nat → Int} (h : zOA R B w bs sv m n r ρ γ X kw) (e : ∀ i j,i < m → j < n → X i j = Y i j) : zOA R B w bs sv m n r ρ γ Y kw := by
 obtain ⟨gs,Z,kz,h1,h2⟩ := h;exact ⟨gs,Z,kz,h1,h2.congr e⟩
theorem zOA.sform (h : zOA R B w bs sv m n r ρ γ X kw) : ∃ sa sc,sv = .slice sa r sc := by
 obtain ⟨gs,Z,kz,h1,h2⟩ := h;exact h1.sform
theorem zOA.sp (h : zOA R B w bs sv m n r ρ γ X kw) : Sp18 B w sv r ρ γ := by
 obtain ⟨gs,Z,kz,h1,h2⟩ := h;exact h1.sp
theorem zOA.s2 (h : zOA R B w bs sv m n r ρ γ X kw) : w.cell? ⟨bs,2,none⟩ = some sv := by
 obtain ⟨gs,Z,kz,h1,h2⟩ := h;exact h1.s.at (i := 2) rfl
theorem zOA.cel (h : zOA R B w bs sv m n r ρ γ X kw) {b : Nat} (hb : R.S b) : ∃ L,Cel w b 51 L := by
 obtain ⟨gs,Z,kz,h1,h2⟩ := h;exact h1.cel hb
theorem zOA.low (h : zOA R B w bs sv m n r ρ γ X kw) {b : Nat} (hb : R.S b) : B ≤ b := by
 obtain ⟨gs,Z,kz,h1,h2⟩ := h;exact h1.low hb
theorem Wk21.x {gs : Nat → Nat → Nat} {Z : Nat → Nat → Nat → Int} {kz : Nat → Nat} {i c : Nat} (h : Wk21 R B w bs sv m r ρ γ gs Z kz) (hk : Lk21 R m n X kw Z kz) (hi : i < m) (hc : c < n) : ((X i c).natAbs : Int) < pw kw := by
 by_cases q : c < R.n0
 ·rw [hk.x0 i c hi q,← hk.k0 0 R.q0 (by omega)]
  exact h.lt R.q0 hi (by unfold zKA.wd;rw [if_pos rfl];exact q)
 ·have hf : R.full = true := Classical.byContradiction fun e => by have := hk.one (by simpa using e);omega
  have hn := hk.n2 hf;have hq := R.qf hf;have := h.lt (t := 1) (c := c - R.n0) (by omega) hi (by unfold zKA.wd;rw [if_neg (by omega)];omega);rw [← hk.x1 hf i (c - R.n0) hi (by omega),hk.k0 1 (by omega) (by omega),show R.n0 + (c - R.n0) = c by omega] at this;exact this
theorem zSD {m n0 kw : Nat} {X V : Nat → Nat → Int} (h : Iv21 m n0 X V) (hm : m ≤ 64) (hk : 1 ≤ kw) (hX : ∀ i k,i < m → k < m → ((X i (n0 + k)).natAbs : Int) < pw kw) : ∀ j i,j < m → i < m → ((V j i).natAbs : Int) < pw (64 * kw + 65) := fun j i hj hi => by
 have hp1 : (1 : Int) < pw kw := by
  obtain ⟨d,rfl⟩ : ∃ d,kw = d + 1 := ⟨kw - 1,by omega⟩
  rw [zwA];have hp := zuA d;have : 1 * pw 1 ≤ pw d * pw 1 := Int.mul_le_mul_of_nonneg_right (by omega) (by decide);have : (1 : Int) < pw 1 := by decide
  omega
 have h1 := h.size hm (Y := (pw kw - 1).toNat) (by omega) (fun i k hi hk => by have := hX i k hi hk;omega) j i hj hi;have h2 := zuH (Y := (pw kw - 1).toNat) (k := kw) (by omega);have h3 : ((V j i).natAbs : Int) ≤ ((64 * (64 * (pw kw - 1).toNat) ^ 64 : Nat) : Int) := by exact_mod_cast h1
 omega
end
end Go.Proofs.YtbcgggadelnaaaaGreat
