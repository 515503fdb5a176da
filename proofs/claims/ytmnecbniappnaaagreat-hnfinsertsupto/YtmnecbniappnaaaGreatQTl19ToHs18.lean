/-
 QTl19ToHs18: Tl19, Hn18, Er13, Cr13, Ad14, Hs18, joined.
-/
import Derived.Test.YtmnecbniappnaaaGreatQDz12ToRl17

set_option maxRecDepth 100000
set_option maxHeartbeats 6400000
set_option linter.unusedVariables false
set_option linter.unusedSimpArgs false
namespace Go.Proofs.YtmnecbniappnaaaGreat
def Cm19 (m n : Nat) (L : Nat → Nat → Int) (v : Nat → Int) : Prop := ∃ z : Nat → Int,∀ j,j < n → v j = su m fun i => z i * L i j
theorem Cm19.congr {m n : Nat} {L : Nat → Nat → Int} {u v : Nat → Int} (h : Cm19 m n L u) (e : ∀ j,j < n → v j = u j) : Cm19 m n L v := by
 obtain ⟨z,hz⟩ := h;exact ⟨z,fun j hj => (e j hj).trans (hz j hj)⟩
theorem Cm19.lines {m n : Nat} {L K : Nat → Nat → Int} {v : Nat → Int} (h : Cm19 m n L v) (e : ∀ i j,i < m → j < n → L i j = K i j) : Cm19 m n K v := by
 obtain ⟨z,hz⟩ := h;exact ⟨z,fun j hj => (hz j hj).trans (zMA fun i hi => by rw [e i j hi hj])⟩
theorem Cm19.zero (m n : Nat) (L : Nat → Nat → Int) : Cm19 m n L fun _ => 0 := ⟨fun _ => 0,fun j _ => (zOC fun i _ => by simp).symm⟩
theorem Cm19.add {m n : Nat} {L : Nat → Nat → Int} {u v : Nat → Int} (h : Cm19 m n L u) (k : Cm19 m n L v) : Cm19 m n L fun j => u j + v j := by
 obtain ⟨z,hz⟩ := h;obtain ⟨y,hy⟩ := k;refine ⟨fun i => z i + y i,fun j hj => ?_⟩
 show u j + v j = _
 rw [hz j hj,hy j hj,← zKE];exact zMA fun i _ => by rw [Int.add_mul]
theorem Cm19.mul {m n : Nat} {L : Nat → Nat → Int} {v : Nat → Int} (h : Cm19 m n L v) (x : Int) : Cm19 m n L fun j => x * v j := by
 obtain ⟨z,hz⟩ := h;refine ⟨fun i => x * z i,fun j hj => ?_⟩
 show x * v j = _
 rw [hz j hj,← zRB];exact zMA fun i _ => by rw [Int.mul_assoc]
theorem Cm19.row {m n i : Nat} (L : Nat → Nat → Int) (hi : i < m) : Cm19 m n L (L i) := by
 refine ⟨fun k => dlz k i,fun j hj => ?_⟩;rw [ztB hi fun k _ hk => by simp [dlz,hk]];simp [dlz]
theorem Cm19.su {m n : Nat} {L : Nat → Nat → Int} {V : Nat → Nat → Int} {q : Nat → Int} : ∀ {s : Nat},(∀ k,k < s → q k = 0 ∨ Cm19 m n L (V k)) → Cm19 m n L fun j => Proofs.YtmnecbniappnaaaGreat.su s fun k => q k * V k j
 | 0,_ => Cm19.zero m n L
 | s + 1,h => by
  refine (Cm19.su (s := s) fun k hk => h k (by omega)).add ?_;rcases h s (by omega) with e | e
  ·exact (Cm19.zero m n L).congr fun j _ => by show q s * V s j = 0;rw [e,Int.zero_mul]
  ·exact e.mul _
theorem Cm19.trans {m n k : Nat} {L K : Nat → Nat → Int} {v : Nat → Int} (h : Cm19 k n K v) (hK : ∀ i,i < k → Cm19 m n L (K i)) : Cm19 m n L v := by
 obtain ⟨z,hz⟩ := h;exact (Cm19.su (q := z) (V := K) fun i hi => .inr (hK i hi)).congr hz
theorem Cm19.more {m n : Nat} {L : Nat → Nat → Int} {v : Nat → Int} (h : Cm19 m n L v) (k : Nat) (hk : m ≤ k) : Cm19 k n L v := h.trans fun i hi => Cm19.row L (by omega)
structure Ec18 (n K r : Nat) (ρ γ : Nat → Nat) (X : Nat → Nat → Int) : Prop where
 up : ∀ a b,a < b → b < r → γ a < γ b
 cl : ∀ a,a < r → γ a < n
 rl : ∀ a,a < r → ρ a < K
 inj : ∀ a b,a < r → b < r → ρ a = ρ b → a = b
 zero : ∀ a j,a < r → j < γ a → X (ρ a) j = 0
 pos : ∀ a,a < r → 0 < X (ρ a) (γ a)
 rest : ∀ t,t < K → (∀ a,a < r → ρ a ≠ t) → ∀ j,j < n → X t j = 0
def Rd18 (k r : Nat) (ρ γ : Nat → Nat) (X : Nat → Nat → Int) : Prop := ∀ a b,k ≤ a → a < b → b < r → 0 ≤ X (ρ a) (γ b) ∧ X (ρ a) (γ b) < X (ρ b) (γ b)
theorem zyG {z : Nat → Int} {r : Nat} : ∀ a,a < r → z a ≠ 0 → ∃ b,b < r ∧ z b ≠ 0 ∧ ∀ d,d < b → z d = 0 := by
 intro a
 induction a using Nat.strongRecOn with
 | ind a ih =>
  intro ha hz
  by_cases q : ∃ d,d < a ∧ z d ≠ 0
  ·obtain ⟨d,h1,h2⟩ := q
   exact ih d h1 (by omega) h2
  ·exact ⟨a,ha,hz,fun d hd => Classical.byContradiction fun h => q ⟨d,hd,h⟩⟩
section
variable {n K r : Nat} {ρ γ : Nat → Nat} {X : Nat → Nat → Int}
theorem Ec18.cm (h : Ec18 n K r ρ γ X) (v : Nat → Int) : Cm19 K n X v ↔ Cm19 r n (fun a => X (ρ a)) v := by
 refine ⟨fun k => k.trans fun t ht => ?_,fun k => k.trans fun a ha => Cm19.row X (h.rl a ha)⟩
 by_cases q : ∃ a,a < r ∧ ρ a = t
 ·obtain ⟨a,ha,rfl⟩ := q
  exact Cm19.row (fun a => X (ρ a)) ha
 ·exact (Cm19.zero r n _).congr fun j hj => h.rest t ht (fun a ha e => q ⟨a,ha,e⟩) j hj
theorem Ec18.begins (h : Ec18 n K r ρ γ X) {v z : Nat → Int} (hz : ∀ j,j < n → v j = su r fun a => z a * X (ρ a) j) {a : Nat} (ha : a < r) (h0 : ∀ d,d < a → z d = 0) :
  (∀ j,j < γ a → v j = 0) ∧ v (γ a) = z a * X (ρ a) (γ a) := by
 constructor
 ·intro j hj
  rw [hz j (by have := h.cl a ha;omega)];refine zOC fun d hd => ?_
  by_cases q : d < a
  ·rw [h0 d q,Int.zero_mul]
  ·have : γ a ≤ γ d := by
    by_cases e : d = a
    ·rw [e];exact Nat.le_refl _
    ·exact Nat.le_of_lt (h.up a d (by omega) hd)
   rw [h.zero d j hd (by omega),Int.mul_zero]
 ·rw [hz _ (h.cl a ha)]
  refine ztB ha fun d hd hne => ?_
  by_cases q : d < a
  ·rw [h0 d q,Int.zero_mul]
  ·rw [h.zero d _ hd (h.up a d (by omega) hd),Int.mul_zero]
theorem Ec18.lead (h : Ec18 n K r ρ γ X) {v : Nat → Int} (hv : Cm19 K n X v) {c : Nat} (hc : c < n) (h0 : ∀ j,j < c → v j = 0) (h1 : v c ≠ 0) : ∃ a,a < r ∧ γ a = c ∧ ∃ q,v c = q * X (ρ a) c := by
 obtain ⟨z,hz⟩ := (h.cm v).1 hv;have : ∃ a,a < r ∧ z a ≠ 0 := Classical.byContradiction fun hn => h1 (by
  rw [hz c hc];exact zOC fun d hd => by rw [Classical.byContradiction fun e => hn ⟨d,hd,e⟩,Int.zero_mul])
 obtain ⟨a0,ha0,hza0⟩ := this;obtain ⟨a,ha,hza,hb⟩ := zyG a0 ha0 hza0;obtain ⟨e1,e2⟩ := h.begins hz ha hb;have hne : v (γ a) ≠ 0 := by rw [e2];exact Int.mul_ne_zero hza (by have := h.pos a ha;omega)
 have hca : γ a = c := by
  rcases Nat.lt_trichotomy (γ a) c with q | q | q
  ·exact absurd (h0 _ q) hne
  ·exact q
  ·exact absurd (e1 _ q) h1
 exact ⟨a,ha,hca,z a,by rw [← hca];exact e2⟩
theorem Ec18.free (h : Ec18 n K r ρ γ X) {z : Nat → Int} (hz : ∀ j,j < n → 0 = su r fun a => z a * X (ρ a) j) : ∀ a,a < r → z a = 0 := fun a ha => Classical.byContradiction fun hn => by
 obtain ⟨b,hb,hzb,h0⟩ := zyG a ha hn;have := (h.begins (v := fun _ => 0) hz hb h0).2;exact Int.mul_ne_zero hzb (by have := h.pos b hb;omega) this.symm
end
theorem Ec18.in_ {n K r K' r' : Nat} {ρ γ ρ' γ' : Nat → Nat} {X X' : Nat → Nat → Int} (h : Ec18 n K r ρ γ X) (h' : Ec18 n K' r' ρ' γ' X') (e : ∀ v,Cm19 K n X v ↔ Cm19 K' n X' v) {a : Nat} (ha : a < r) : ∃ b,b < r' ∧ γ' b = γ a ∧ X' (ρ' b) (γ' b) ∣ X (ρ a) (γ a) := by
 obtain ⟨b,hb,hc,q,hq⟩ := h'.lead ((e _).1 (Cm19.row _ (h.rl a ha))) (h.cl a ha) (fun j hj => h.zero a j ha hj) (by have := h.pos a ha;omega);exact ⟨b,hb,hc,q,by rw [hq,hc,Int.mul_comm]⟩
theorem Ec18.cols {n K r K' r' : Nat} {ρ γ ρ' γ' : Nat → Nat} {X X' : Nat → Nat → Int} (h : Ec18 n K r ρ γ X) (h' : Ec18 n K' r' ρ' γ' X') (e : ∀ v,Cm19 K n X v ↔ Cm19 K' n X' v) :
  r = r' ∧ ∀ a,a < r → γ a = γ' a ∧ X (ρ a) (γ a) = X' (ρ' a) (γ' a) := by
 have key : ∀ k,(k < r → k < r' ∧ γ k = γ' k) ∧ (k < r' → k < r ∧ γ k = γ' k) := by
  intro k
  induction k using Nat.strongRecOn with
  | ind k ih =>
   have s1 : k < r → ∃ b,b < r' ∧ k ≤ b ∧ γ' b = γ k := fun hk => by
    obtain ⟨b,hb,hc,_⟩ := h.in_ h' e hk;refine ⟨b,hb,Classical.byContradiction fun q => ?_,hc⟩;obtain ⟨p1,p2⟩ := (ih b (by omega)).2 hb;have := h.up b k (by omega) hk;omega
   have s2 : k < r' → ∃ b,b < r ∧ k ≤ b ∧ γ b = γ' k := fun hk => by
    obtain ⟨b,hb,hc,_⟩ := h'.in_ h (fun v => (e v).symm) hk;refine ⟨b,hb,Classical.byContradiction fun q => ?_,hc⟩;obtain ⟨p1,p2⟩ := (ih b (by omega)).1 hb;have := h'.up b k (by omega) hk;omega
   have fin : k < r → k < r' → γ k = γ' k := fun hk hk' => by
    obtain ⟨b,b1,b2,b3⟩ := s1 hk;obtain ⟨d,d1,d2,d3⟩ := s2 hk';have u1 : γ' k ≤ γ' b := by
     by_cases q : b = k
     ·rw [q];exact Nat.le_refl _
     ·exact Nat.le_of_lt (h'.up k b (by omega) b1)
    have u2 : γ k ≤ γ d := by
     by_cases q : d = k
     ·rw [q];exact Nat.le_refl _
     ·exact Nat.le_of_lt (h.up k d (by omega) d1)
    omega
   constructor
   ·intro hk
    obtain ⟨b,b1,b2,b3⟩ := s1 hk;exact ⟨by omega,fin hk (by omega)⟩
   ·intro hk
    obtain ⟨b,b1,b2,b3⟩ := s2 hk;exact ⟨by omega,fin (by omega) hk⟩
 have hr : r = r' := by
  rcases Nat.lt_trichotomy r r' with q | q | q
  ·have := ((key r).2 q).1;omega
  ·exact q
  ·have := ((key r').1 q).1;omega
 subst hr;refine ⟨rfl,fun a ha => ⟨((key a).1 ha).2,?_⟩⟩;have u := fun b (hb : b < r) => ((key b).1 hb).2
 obtain ⟨b,hb,hc,d1⟩ := h.in_ h' e ha;obtain ⟨b',hb',hc',d2⟩ := h'.in_ h (fun v => (e v).symm) ha;have hba : b = a := by
  rcases Nat.lt_trichotomy b a with q | q | q
  ·have := h'.up b a q ha;have := u a ha;omega
  ·exact q
  ·have := h'.up a b q hb;have := u a ha;omega
 have hba' : b' = a := by
  rcases Nat.lt_trichotomy b' a with q | q | q
  ·have := h.up b' a q ha;have := u a ha;omega
  ·exact q
  ·have := h.up a b' q hb';have := u a ha;omega
 subst hba hba';exact Int.dvd_antisymm (by have := h.pos _ ha;omega) (by have := h'.pos _ ha;omega) d2 d1
theorem Ec18.one {n K r K' r' : Nat} {ρ γ ρ' γ' : Nat → Nat} {X X' : Nat → Nat → Int} (h : Ec18 n K r ρ γ X) (h' : Ec18 n K' r' ρ' γ' X') (hd : Rd18 0 r ρ γ X) (hd' : Rd18 0 r' ρ' γ' X') (e : ∀ v,Cm19 K n X v ↔ Cm19 K' n X' v) :
  r = r' ∧ ∀ a,a < r → γ a = γ' a ∧ ∀ j,j < n → X (ρ a) j = X' (ρ' a) j := by
 obtain ⟨rfl,hc⟩ := h.cols h' e;refine ⟨rfl,fun a ha => ⟨(hc a ha).1,?_⟩⟩;have hv : Cm19 K n X fun j => X (ρ a) j + -1 * X' (ρ' a) j := (Cm19.row X (h.rl a ha)).add (((e _).2 (Cm19.row X' (h'.rl a ha))).mul (-1))
 have key : ∀ c,c ≤ n → ∀ j,j < c → X (ρ a) j + -1 * X' (ρ' a) j = 0 := by
  intro c
  induction c with
  | zero => intro _ j hj;omega
  | succ c ih =>
   intro hcn j hj
   by_cases q : j < c
   ·exact ih (by omega) j q
   ·obtain rfl : j = c := by omega
    refine Classical.byContradiction fun hne => ?_
    obtain ⟨b,hb,hγ,s,hs⟩ := h.lead hv (show j < n by omega) (fun t ht => ih (by omega) t ht) hne;subst hγ;rcases Nat.lt_trichotomy b a with p | p | p
    ·have := h.up b a p ha
     rw [h.zero a _ ha this,h'.zero a _ ha (by rw [← (hc a ha).1];exact this)] at hne;exact hne rfl
    ·subst p
     have e2 := (hc b hb).2;rw [← (hc b hb).1] at e2;rw [e2] at hne;exact hne (by omega)
    ·have p1 := hd a b (Nat.zero_le _) p hb
     have p2 := hd' a b (Nat.zero_le _) p hb;have e1 := (hc b hb).2;rw [← (hc b hb).1] at p2 e1;rw [← e1] at p2;have hs' : X (ρ a) (γ b) + -1 * X' (ρ' a) (γ b) = s * X (ρ b) (γ b) := hs;have hs0 : s = 0 := by
      rcases Int.lt_trichotomy s 0 with q | q | q
      ·have : s * X (ρ b) (γ b) ≤ -1 * X (ρ b) (γ b) := Int.mul_le_mul_of_nonneg_right (by omega) (by omega)
       omega
      ·exact q
      ·have : 1 * X (ρ b) (γ b) ≤ s * X (ρ b) (γ b) := Int.mul_le_mul_of_nonneg_right (by omega) (by omega)
       omega
     rw [hs',hs0,Int.zero_mul] at hne;exact hne rfl
 intro j hj;have := key n (Nat.le_refl _) j hj;omega


def adz (n : Nat) (A : Nat → Nat → Int) (i j : Nat) : Int := det n (stR A j (dlz i))
theorem su_dlz {n c : Nat} (hc : c < n) (f : Nat → Int) : su n (fun k => f k * dlz k c) = f c := by
 rw [ztB (i := c) hc fun k _ hk => by unfold dlz;rw [if_neg hk];simp];unfold dlz;simp
theorem zGH {n : Nat} (A : Nat → Nat → Int) {j : Nat} (hj : j < n) (u : Nat → Int) : su n (fun k => u k * adz n A k j) = det n (stR A j u) := by
 unfold adz;rw [← (zdB n).sum hj u dlz n];refine zPA fun r c hr hc => ?_
 by_cases q : r = j
 ·subst q;rw [zJB,zJB];exact su_dlz hc u
 ·rw [ztA _ q,ztA _ q]
theorem adz_mul {n r j : Nat} (A : Nat → Nat → Int) (hr : r < n) (hj : j < n) : su n (fun k => A r k * adz n A k j) = if r = j then det n A else 0 := by
 rw [zGH A hj (A r)]
 by_cases q : r = j
 ·subst q;rw [if_pos rfl,zLD]
 ·rw [if_neg q]
  exact (zdB n).same hr hj q fun c _ => by rw [ztA _ q,zJB]
theorem zYE {n j : Nat} (A : Nat → Nat → Int) (hj : j < n) (x : Nat → Int) : ∀ m,m ≤ n → det n (fun r c => if r < m ∧ r ≠ j then A r c + x r * A j c else A r c) = det n A
 | 0,_ => zPA fun r c _ _ => by rw [if_neg (by omega)]
 | m + 1,hm => by
  rw [← zYE A hj x m (by omega)]
  by_cases q : m = j
  ·exact zPA fun r c _ _ => by
    by_cases c1 : r < m ∧ r ≠ j
    ·rw [if_pos c1,if_pos (by omega)]
    ·rw [if_neg c1,if_neg (by omega)]
  ·obtain ⟨P,hP⟩ : ∃ P : Nat → Nat → Int,P = fun r c => if r < m ∧ r ≠ j then A r c + x r * A j c else A r c := ⟨_,rfl⟩
   have hp := (zdB n).plus (A := P) (show m < n by omega) hj q (x m);rw [← hP,← hp];refine zPA fun r c _ _ => ?_
   by_cases e : r = m
   ·subst e
    rw [zJB,if_pos (by omega),hP];simp only [];rw [if_neg (by omega),if_neg (by omega)]
   ·rw [ztA _ e,hP]
    simp only []
    by_cases c1 : r < m ∧ r ≠ j
    ·rw [if_pos c1,if_pos (by omega)]
    ·rw [if_neg c1,if_neg (by omega)]
theorem zcF {n i j : Nat} (A : Nat → Nat → Int) (hj : j < n) : adz n A i j = det n fun r c => if r = j then dlz i c else if c = i then 0 else A r c := by
 unfold adz;rw [← zYE (stR A j (dlz i)) hj (fun r => - A r i) n (Nat.le_refl _)];refine zPA fun r c hr hc => ?_
 by_cases q : r = j
 ·subst q
  rw [if_neg (by omega),if_pos rfl,zJB]
 ·rw [if_pos ⟨hr,q⟩,if_neg q,ztA _ q,zJB]
  unfold dlz
  by_cases e : c = i
  ·subst e;rw [if_pos rfl,if_pos rfl];omega
  ·rw [if_neg e,if_neg (Ne.symm e)];omega
theorem adz_turn {n i j : Nat} (A : Nat → Nat → Int) (hi : i < n) (hj : j < n) : adz n (fun a b => A b a) j i = adz n A i j := by
 rw [zcF A hj,zcF _ hi,← zHC];refine zPA fun r c hr hc => ?_
 simp only [dlz]
 by_cases q : r = j
 ·by_cases e : c = i
  ·simp [q,e]
  ·simp [q,e,Ne.symm e]
 ·by_cases e : c = i
  ·simp [q,e,Ne.symm q]
  ·simp [q,e]
theorem ztG {n i c : Nat} (A : Nat → Nat → Int) (hi : i < n) (hc : c < n) : su n (fun k => adz n A i k * A k c) = if i = c then det n A else 0 := by
 have h := adz_mul (fun a b => A b a) hc hi;rw [zHC] at h;have e : su n (fun k => adz n A i k * A k c) = su n (fun k => A k c * adz n (fun a b => A b a) k i) := zMA fun k hk => by
  rw [adz_turn A hi hk,Int.mul_comm]
 rw [e,h]
 by_cases q : i = c
 ·subst q;rfl
 ·rw [if_neg q,if_neg (Ne.symm q)]
theorem cramer18 {m k : Nat} (B : Nat → Nat → Int) (u : Nat → Int) (hk : k < m) : su m (fun i => det m (stR B i u) * B i k) = det m B * u k := by
 have h1 : ∀ i,i < m → det m (stR B i u) * B i k = su m fun t => u t * (adz m B t i * B i k) := fun i hi => by
  rw [← zGH B hi u,← zkE];exact zMA fun t _ => by grind
 rw [zMA h1,zcD];have h2 : ∀ t,t < m → su m (fun i => u t * (adz m B t i * B i k)) = if t = k then u k * det m B else 0 := fun t ht => by
  rw [zRB,ztG B ht hk]
  by_cases q : t = k
  ·subst q;rw [if_pos rfl,if_pos rfl]
  ·rw [if_neg q,if_neg q,Int.mul_zero]
 rw [zMA h2,ztB hk (fun t _ ht => if_neg ht),if_pos rfl,Int.mul_comm]
theorem pick18 {r K : Nat} {U W : Nat → Nat → Int} (h : det r (fun a b => su K fun t => U a t * W t b) ≠ 0) : ∃ R : Nat → Nat,(∀ a,a < r → R a < K) ∧ det r (fun a b => W (R a) b) ≠ 0 := by
 refine Classical.byContradiction fun hn => h ?_
 have key : ∀ d k,k + d = r → ∀ R : Nat → Nat,(∀ a,a < r → R a < K ∨ k ≤ a) → det r (fun a b => if a < k then W (R a) b else su K fun t => U a t * W t b) = 0 := by
  intro d
  induction d with
  | zero =>
   intro k hk R hR;refine Classical.byContradiction fun q => hn ⟨R,fun a ha => (hR a ha).resolve_right (by omega),fun e => q ?_⟩
   rw [← e];exact zPA fun a b ha _ => if_pos (by omega)
  | succ d ih =>
   intro k hk R hR;have hkr : k < r := by omega
   have e1 : det r (fun a b => if a < k then W (R a) b else su K fun t => U a t * W t b) = det r (stR (fun a b => if a < k then W (R a) b else su K fun t => U a t * W t b) k fun b => su K fun t => U k t * W t b) := by
    refine zPA fun a b _ _ => ?_
    unfold stR
    by_cases q : a = k
    ·subst q;rw [if_neg (by omega),if_pos rfl]
    ·rw [if_neg q]
   rw [e1,(zdB r).sum hkr (fun t => U k t) W K];refine zOC fun t ht => ?_
   have e2 := ih (k + 1) (by omega) (fun a => if a = k then t else R a) (fun a ha => by
    by_cases q : a = k
    ·subst q;simp;exact .inl ht
    ·simp only [if_neg q]
     rcases hR a ha with p | p
     ·exact .inl p
     ·exact .inr (by omega))
   have e3 : det r (stR (fun a b => if a < k then W (R a) b else su K fun t => U a t * W t b) k (W t)) = 0 := by
    rw [← e2];refine zPA fun a b _ _ => ?_
    unfold stR
    by_cases q : a = k
    ·subst q;simp
    ·simp only [if_neg q]
     by_cases p : a < k
     ·rw [if_pos p,if_pos (by omega)]
     ·rw [if_neg p,if_neg (by omega)]
   rw [e3,Int.mul_zero]
 have := key r 0 (by omega) (fun _ => 0) fun a ha => .inr (Nat.zero_le _)
 rw [← this];exact zPA fun a b _ _ => (if_neg (by omega)).symm
theorem zZI : ∀ {s : Nat} {X : Nat → Nat → Int},(∀ a b,a < s → b < a → X a b = 0) → (∀ a,a < s → 0 < X a a) → 0 < det s X ∧ ∀ a,a < s → X a a ≤ det s X
 | 0,_,_,_ => ⟨by show (0 : Int) < 1;decide,fun a ha => by omega⟩
 | s + 1,X,h1,h2 => by
  have e0 : det (s + 1) X = X 0 0 * det s (fun r c => X (r + 1) (c + 1)) := by
   show su (s + 1) _ = _
   rw [ztB (i := 0) (by omega) fun k hk h0 => by rw [h1 k 0 hk (by omega)];simp];have e : (fun r c => X (skd 0 r) (c + 1)) = fun r c => X (r + 1) (c + 1) := by funext r c;simp [skd]
   rw [e]
   show 1 * X 0 0 * _ = _
   rw [Int.one_mul]
  obtain ⟨i1,i2⟩ := zZI (s := s) (X := fun r c => X (r + 1) (c + 1)) (fun a b ha hb => h1 _ _ (by omega) (by omega)) (fun a ha => h2 _ (by omega));have p0 := h2 0 (by omega);rw [e0];refine ⟨Int.mul_pos p0 i1,fun a ha => ?_⟩
  match a,ha with
  | 0,_ =>
   have : X 0 0 * 1 ≤ X 0 0 * det s (fun r c => X (r + 1) (c + 1)) := Int.mul_le_mul_of_nonneg_left (by omega) (by omega);omega
  | a + 1,ha =>
   have j := i2 a (by omega);have : 1 * det s (fun r c => X (r + 1) (c + 1)) ≤ X 0 0 * det s (fun r c => X (r + 1) (c + 1)) := Int.mul_le_mul_of_nonneg_right (by omega) (by omega);omega
theorem Ec18.size {n K r : Nat} {ρ γ : Nat → Nat} {X A : Nat → Nat → Int} {M : Nat} (h : Ec18 n K r ρ γ X) (hd : Rd18 0 r ρ γ X) (e : ∀ v,Cm19 K n X v ↔ Cm19 K n A v)
  (hM : ∀ R C : Nat → Nat,(∀ a,a < r → R a < K) → (∀ b,b < r → C b < n) → (det r fun a b => A (R a) (C b)).natAbs ≤ M) : ∀ t j,t < K → j < n → (X t j).natAbs ≤ r * M := by
 intro t c ht hc
 by_cases hq : ∃ a,a < r ∧ ρ a = t
 case neg =>
  rw [h.rest t ht (fun a ha q => hq ⟨a,ha,q⟩) c hc]
  simp
 obtain ⟨a0,ha0,rfl⟩ := hq;have hW : ∀ t,∃ z : Nat → Int,t < K → ∀ j,j < n → A t j = su r fun a => z a * X (ρ a) j := fun t => by
  by_cases q : t < K
  ·obtain ⟨z,hz⟩ := (h.cm _).1 ((e _).2 (Cm19.row A q))
   exact ⟨z,fun _ => hz⟩
  ·exact ⟨fun _ => 0,fun q' => absurd q' q⟩
 have hU : ∀ a,∃ z : Nat → Int,a < r → ∀ j,j < n → X (ρ a) j = su K fun t => z t * A t j := fun a => by
  by_cases q : a < r
  ·obtain ⟨z,hz⟩ := (e _).1 (Cm19.row X (h.rl a q))
   exact ⟨z,fun _ => hz⟩
  ·exact ⟨fun _ => 0,fun q' => absurd q' q⟩
 obtain ⟨W,hW⟩ := Classical.axiomOfChoice hW;obtain ⟨U,hU⟩ := Classical.axiomOfChoice hU;have hUW : ∀ a b,a < r → b < r → (su K fun t => U a t * W t b) = dlz a b := fun a b ha hb => by
  have := h.free (z := fun b => (su K fun t => U a t * W t b) - dlz a b) (fun j hj => by
   have e1 : X (ρ a) j = su r fun b => (su K fun t => U a t * W t b) * X (ρ b) j := by
    rw [hU a ha j hj,zMA fun t ht => by rw [hW t ht j hj,← zRB],zcD];exact zMA fun b _ => by rw [← zkE];exact zMA fun t _ => by rw [Int.mul_assoc]
   have e2 : X (ρ a) j = su r fun b => dlz a b * X (ρ b) j := by
    rw [ztB ha fun k _ hk => by simp [dlz,Ne.symm hk]];simp [dlz]
   have e3 : (su r fun b => ((su K fun t => U a t * W t b) - dlz a b) * X (ρ b) j) = (su r fun b => (su K fun t => U a t * W t b) * X (ρ b) j) + -1 * su r fun b => dlz a b * X (ρ b) j := by
    rw [← zRB,← zKE];exact zMA fun b _ => by grind
   rw [e3,← e1,← e2];omega) b hb
  have : (su K fun t => U a t * W t b) - dlz a b = 0 := this;omega
 obtain ⟨R,hR,hdW⟩ := pick18 (r := r) (K := K) (U := U) (W := W) (by
  rw [zPA fun a b ha hb => hUW a b ha hb,zQD];decide)
 have hT := zZI (s := r) (X := fun a b => X (ρ a) (γ b)) (fun a b ha hb => h.zero a _ ha (h.up b a hb ha)) (fun a ha => h.pos a ha)
 -- the core
 have hD : det r (fun a b => A (R a) (γ b)) = det r (fun a b => W (R a) b) * det r (fun a b => X (ρ a) (γ b)) := by
  rw [← det_mul];exact zPA fun a b ha hb => hW (R a) (hR a ha) (γ b) (h.cl b hb)
 have hDa : ∀ a,a < r → (X (ρ a) (γ a)).natAbs ≤ (det r (fun a b => A (R a) (γ b))).natAbs := fun a ha => by
  rw [hD,Int.natAbs_mul];have h1 := hT.2 a ha;have h0 := h.pos a ha;have h2 : 1 ≤ (det r (fun a b => W (R a) b)).natAbs := by omega
  have h3 : (X (ρ a) (γ a)).natAbs ≤ (det r (fun a b => X (ρ a) (γ b))).natAbs := by
   have h1' : X (ρ a) (γ a) ≤ det r (fun a b => X (ρ a) (γ b)) := h1;omega
  calc (X (ρ a) (γ a)).natAbs ≤ 1 * (det r (fun a b => X (ρ a) (γ b))).natAbs := by omega
   _ ≤ _ := Nat.mul_le_mul_right _ h2
 obtain ⟨D,hDe⟩ : ∃ D,det r (fun a b => A (R a) (γ b)) = D := ⟨_,rfl⟩
 have hD0 : D ≠ 0 := by
  rw [← hDe,hD];exact Int.mul_ne_zero hdW (by have := hT.1;omega)
 obtain ⟨B,hB⟩ : ∃ B : Nat → Nat → Int,B = fun i k => A (R k) (γ i) := ⟨_,rfl⟩
 have hBD : det r B = D := by rw [← hDe,hB];exact zHC r (fun a b => A (R a) (γ b))
 obtain ⟨E,hE⟩ : ∃ E : Nat → Int,E = fun i => det r (stR B i fun k => A (R k) c) := ⟨_,rfl⟩
 have cr : ∀ k,k < r → D * A (R k) c = su r fun i => E i * A (R k) (γ i) := fun k hk => by
  have := cramer18 (m := r) B (fun k => A (R k) c) hk;rw [hBD] at this;rw [← this,hE,hB]
 have hEM : ∀ i,i < r → (E i).natAbs ≤ M := fun i hi => by
  have := hM R (fun b => if b = i then c else γ b) hR (fun b hb => by
   by_cases q : b = i
   ·simp [q,hc]
   ·simp [q];exact h.cl b hb)
  rw [← zHC r] at this;rw [hE,hB]
  show (det r (stR (fun i k => A (R k) (γ i)) i fun k => A (R k) c)).natAbs ≤ M
  rw [zPA (n := r) (A := stR (fun i k => A (R k) (γ i)) i fun k => A (R k) c) (B := fun i_1 j => A (R j) (if i_1 = i then c else γ i_1)) fun a b _ _ => ?_]
  ·exact this
  ·unfold stR
   by_cases q : a = i
   ·simp [q]
   ·simp [q]
 have bk : ∀ a j,a < r → j < n → det r (fun a b => W (R a) b) * X (ρ a) j = su r fun k => adz r (fun a b => W (R a) b) a k * A (R k) j := fun a j ha hj => by
  have e1 : (su r fun k => adz r (fun a b => W (R a) b) a k * A (R k) j) = su r fun b => (su r fun k => adz r (fun a b => W (R a) b) a k * W (R k) b) * X (ρ b) j := by
   rw [zMA fun k hk => by rw [hW (R k) (hR k hk) j hj,← zRB],zcD];exact zMA fun b _ => by rw [← zkE];exact zMA fun k _ => by rw [Int.mul_assoc]
  rw [e1,zMA (g := fun b => if a = b then det r (fun a b => W (R a) b) * X (ρ b) j else 0) fun b hb => ?_]
  ·rw [ztB ha fun k _ hk => if_neg (Ne.symm hk),if_pos rfl]
  ·have := ztG (fun a b => W (R a) b) ha hb
   rw [this]
   split <;> simp
 have fin : D * X (ρ a0) c = su r fun i => E i * X (ρ a0) (γ i) := by
  refine Int.eq_of_mul_eq_mul_left hdW ?_;rw [← zRB,zMA (g := fun i => E i * su r fun k => adz r (fun a b => W (R a) b) a0 k * A (R k) (γ i)) fun i hi => by
   rw [← bk a0 (γ i) ha0 (h.cl i hi)];grind]
  have e1 : det r (fun a b => W (R a) b) * (D * X (ρ a0) c) = D * su r fun k => adz r (fun a b => W (R a) b) a0 k * A (R k) c := by rw [← bk a0 c ha0 hc];grind
  rw [e1,← zRB,zMA (g := fun k => su r fun i => adz r (fun a b => W (R a) b) a0 k * (E i * A (R k) (γ i))) fun k hk => by
   rw [zRB,← cr k hk];grind,zcD]
  exact zMA fun i _ => by
   rw [← zRB];exact zMA fun k _ => by grind
 have hY : ∀ i,i < r → (X (ρ a0) (γ i)).natAbs ≤ D.natAbs := fun i hi => by
  have p := hDa i hi;rw [hDe] at p;have p0 := h.pos i hi;rcases Nat.lt_trichotomy i a0 with q | q | q
  ·rw [h.zero a0 _ ha0 (h.up i a0 q ha0)];simp
  ·subst q;exact p
  ·have := hd a0 i (Nat.zero_le _) q hi
   omega
 have hb : (D * X (ρ a0) c).natAbs ≤ r * (M * D.natAbs) := by
  rw [fin];exact zjG fun i hi => by
   rw [Int.natAbs_mul];exact Nat.mul_le_mul (hEM i hi) (hY i hi)
 rw [Int.natAbs_mul] at hb;refine Nat.le_of_mul_le_mul_left (c := D.natAbs) ?_ (Int.natAbs_pos.2 hD0)
 calc D.natAbs * (X (ρ a0) c).natAbs ≤ r * (M * D.natAbs) := hb
  _ = D.natAbs * (r * M) := by rw [← Nat.mul_assoc,Nat.mul_comm]
structure Tb18 (m n : Nat) (A : Nat → Nat → Int) (T : Nat) : Prop where
 one : 1 ≤ T
 own : ∀ t j,t < m → j < n → (A t j).natAbs ≤ T
 all : ∀ K r ρ γ X,K ≤ m → Ec18 n K r ρ γ X → Rd18 0 r ρ γ X → (∀ v,Cm19 K n X v ↔ Cm19 K n A v) → ∀ t j,t < K → j < n → (X t j).natAbs ≤ T
theorem Ec18.few {n K r : Nat} {ρ γ : Nat → Nat} {X : Nat → Nat → Int} (h : Ec18 n K r ρ γ X) : r ≤ n := by
 have key : ∀ a,a < r → a ≤ γ a := by
  intro a
  induction a with
  | zero => intro _;exact Nat.zero_le _
  | succ a ih => intro ha;have := ih (by omega);have := h.up a (a + 1) (by omega) ha;omega
 rcases Nat.eq_zero_or_pos r with q | q
 ·omega
 ·have := key (r - 1) (by omega);have := h.cl (r - 1) (by omega);omega
theorem tb18 {m n Y : Nat} {A : Nat → Nat → Int} (hn : n ≤ 64) (hY : 1 ≤ Y) (h : ∀ t j,t < m → j < n → (A t j).natAbs ≤ Y) : Tb18 m n A (64 * (64 * Y) ^ 64) := by
 have hp : ∀ e,e ≤ 64 → (64 * Y) ^ e ≤ (64 * Y) ^ 64 := fun e he => Nat.pow_le_pow_right (by omega) he
 have h1 := hp 1 (by omega);rw [Nat.pow_one] at h1;refine ⟨by omega,fun t j ht hj => by have := h t j ht hj;omega,fun K r ρ γ X hK hE hR e t j ht hj => ?_⟩;have hr := hE.few;have := hE.size hR e (M := (64 * Y) ^ r) (fun R C hRK hC => by
  -- the numbers beyond what is asked don't matter
  have : (det r fun a b => A (R a) (C b)) = det r fun a b => A (R a) (C b) := rfl
  exact zBH (N := 64) (by omega) fun i j hi hj => h _ _ (by have := hRK i hi;omega) (hC j hj)) t j ht hj
 exact Nat.le_trans this (Nat.mul_le_mul (by omega) (hp r (by omega)))
theorem zFF {m n r T : Nat} {γ : Nat → Nat} {H : Nat → Nat → Int} (h : Ec18 n m r id γ H) (hd : Rd18 0 r id γ H) (hT : 1 ≤ T) (hb : ∀ t j,t < m → j < n → (H t j).natAbs ≤ T) : Tb18 m n H T := by
 refine ⟨hT,hb,fun K r' ρ' γ' X hK hE hR e t j ht hj => ?_⟩;have hrm : r ≤ m := by
  rcases Nat.eq_zero_or_pos r with q | q
  ·omega
  ·have := h.rl (r - 1) (by omega);simp at this;omega
 have h' : Ec18 n K (min r K) id γ H := ⟨fun a b hab hb => h.up a b hab (by omega),fun a ha => h.cl a (by omega),fun a ha => by simp;omega,fun a b ha hb q => q,fun a j ha hj => h.zero a j (by omega) hj,fun a ha => h.pos a (by omega),fun t ht hn j hj => h.rest t (by omega) (fun a ha => by
  by_cases q : a < K
  ·exact hn a (by omega)
  ·simp;omega) j hj⟩
 obtain ⟨e1,e2⟩ := hE.one h' hR (fun a b ha hab hb => hd a b ha hab (by omega)) e
 by_cases q : ∃ a,a < r' ∧ ρ' a = t
 ·obtain ⟨a,ha,rfl⟩ := q
  rw [(e2 a ha).2 j hj];exact hb _ _ (by simp;omega) hj
 ·rw [hE.rest t ht (fun a ha q' => q ⟨a,ha,q'⟩) j hj];simp
end Go.Proofs.YtmnecbniappnaaaGreat
