/-
 QSt18ToIo18: St18, Iv21, In18, Io18, joined.
-/
import Derived.Test.YtbcgggadelnaaaaGreatQAl18
import Derived.Deep.CutRange
import Derived.Test.YtbcgggadelnaaaaGreatQHq18
import Derived.Laws.CopyRow
import Derived.Lib.AppendZerosOnto
import Derived.Lib.Overlaps

set_option maxRecDepth 100000
set_option maxHeartbeats 6400000
set_option linter.unusedVariables false
set_option linter.unusedSimpArgs false
namespace Go.Proofs.YtbcgggadelnaaaaGreat
open Go.RowKit
abbrev hf1 (Ba : Nat) : Value := .func (.func 59) #[] #[.pointer (some ⟨Ba,0,none⟩)]
abbrev hf2 (Ba : Nat) : Value := .func (.func 60) #[] #[.pointer (some ⟨Ba,0,none⟩)]
abbrev hf3 (Ba : Nat) : Value := .func (.func 62) #[] #[.pointer (some ⟨Ba,0,none⟩)]
abbrev hf4 (Ba : Nat) : Value := .func (.func 63) #[] #[.pointer (some ⟨Ba,0,none⟩)]
theorem zQC (P : Program) (w : World) (p : Addr) (f : Fn) (a b : Array Value) (m : Mode) : (store p (.func f a b) m).run P w = match w.cell? p with
      | some _ => if w.frozen? p then .halt (.unsupported (.unsafePointer "a write to bytes that a string shares")) w else .ok () (w.setCell p (.func f a b))
      | none => match w.farStore P p (.func f a b) (m == .atomic) with
        | .ok (w',_) => .ok () w'
        | .error h => .halt h w := run_store P w p (.func f a b) m rfl
def sc18 (r : Nat) (ρ γ : Nat → Nat) : List Value := ((List.range r).map fun a => [Value.int .i64 (ρ a : Int),Value.int .i64 (γ a : Int)]).flatten
theorem zeA (r : Nat) (ρ γ : Nat → Nat) : (sc18 r ρ γ).length = r * 2 := by
 unfold sc18
 induction r with
 | zero => rfl
 | succ r ih => rw [List.range_succ,List.map_append,List.flatten_append,List.length_append,ih];simp;omega
theorem sc18_succ (r : Nat) (ρ γ : Nat → Nat) : sc18 (r + 1) ρ γ = sc18 r ρ γ ++ [.int .i64 (ρ r : Int),.int .i64 (γ r : Int)] := by
 unfold sc18;rw [List.range_succ,List.map_append,List.flatten_append];rfl
theorem ztB {r a : Nat} {ρ γ : Nat → Nat} (h : a < r) (t : List Value) : (sc18 r ρ γ ++ t)[a * 2]? = some (.int .i64 (ρ a : Int)) ∧ (sc18 r ρ γ ++ t)[a * 2 + 1]? = some (.int .i64 (γ a : Int)) := by
 induction r generalizing t with
 | zero => omega
 | succ r ih =>
  rw [sc18_succ,List.append_assoc]
  by_cases q : a < r
  ·exact ih q _
  ·obtain rfl : a = r := by omega
   constructor
   ·rw [List.getElem?_append_right (by rw [zeA];omega),zeA];simp
   ·rw [List.getElem?_append_right (by rw [zeA];omega),zeA,show a * 2 + 1 - a * 2 = 1 by omega];simp
theorem zyC {r : Nat} {ρ γ ρ' γ' : Nat → Nat} (h : ∀ a,a < r → ρ a = ρ' a ∧ γ a = γ' a) : sc18 r ρ γ = sc18 r ρ' γ' := by
 unfold sc18;rw [List.map_congr_left fun a ha => by rw [(h a (by simpa using ha)).1,(h a (by simpa using ha)).2]]
def Sp18 (B : Nat) (w : World) (sv : Value) (r : Nat) (ρ γ : Nat → Nat) : Prop :=
 (r = 0 ∧ sv = .slice none 0 0) ∨ (0 < r ∧ ∃ Bp cap t,sv = .slice (some ⟨Bp,0,none⟩) r cap ∧ r ≤ cap ∧ B ≤ Bp ∧ cap ≤ 9223372036854775807 ∧ t.length + r * 2 = cap * 2 ∧ Cel w Bp 148 (sc18 r ρ γ ++ t))
theorem Sp18.cel {B r : Nat} {w w' : World} {sv : Value} {ρ γ : Nat → Nat} (h : Sp18 B w sv r ρ γ) (k : ∀ b L,Cel w b 148 L → Cel w' b 148 L) : Sp18 B w' sv r ρ γ := by
 rcases h with h | ⟨h0,Bp,cap,t,e,e0,e1,e2,e3,e4⟩
 ·exact .inl h
 ·exact .inr ⟨h0,Bp,cap,t,e,e0,e1,e2,e3,k _ _ e4⟩
section
variable {B bs Bl Bh Ba m n r kw : Nat} {w w' : World} {lv sv : Value} {ρ γ gs : Nat → Nat} {X : Nat → Nat → Int}
end
def zIC (w : World) (z : Int) (k : Nat) (e : Ending) (w' : World) : Prop := ∃ nb a l cc,e = .returned (.agg #[.bool nb,.slice a l cc]) ∧ Zm 0 w' (.agg #[.bool nb,.slice a l cc]) z k ∧ Below w.heap.size w w'
end Go.Proofs.YtbcgggadelnaaaaGreat
namespace Go.Proofs.YtbcgggadelnaaaaGreat
def Iv21 (m n : Nat) (X V : Nat → Nat → Int) : Prop := ∀ i j,i < m → j < m → su m (fun k => X i (n + k) * V j k) = dlz i j
theorem dot21 (m : Nat) (x y x' y' : Int) (F G P Q : Nat → Int) : su m (fun k => (x * F k + y * G k) * (x' * P k + y' * Q k)) = x * x' * su m (fun k => F k * P k) + x * y' * su m (fun k => F k * Q k) + y * x' * su m (fun k => G k * P k) + y * y' * su m (fun k => G k * Q k) := by
 rw [← znA,← znA,← znA,← znA,← zeC,← zeC,← zeC];exact zJA fun k _ => by grind
section
variable {m n i j : Nat} {X X' V V' : Nat → Nat → Int}
theorem Iv21.dot (h : Iv21 m n X V) {a b i j p q : Nat} {x y x' y' : Int} (hX : ∀ k,k < m → X' a (n + k) = x * X i (n + k) + y * X j (n + k)) (hV : ∀ k,k < m → V' b k = x' * V p k + y' * V q k) (hi : i < m) (hj : j < m) (hp : p < m) (hq : q < m) :
  su m (fun k => X' a (n + k) * V' b k) = x * x' * dlz i p + x * y' * dlz i q + y * x' * dlz j p + y * y' * dlz j q := by
 rw [zJA fun k hk => by rw [hX k hk,hV k hk],dot21 m x y x' y' (fun k => X i (n + k)) (fun k => X j (n + k)) (V p) (V q),h i p hi hp,h i q hi hq,h j p hj hp,h j q hj hq]
theorem Iv21.two (h : Iv21 m n X V) (hi : i < m) (hj : j < m) (hij : i ≠ j) {x y u v x' y' u' v' : Int}
  (hXi : ∀ k,k < m → X' i (n + k) = x * X i (n + k) + y * X j (n + k)) (hXj : ∀ k,k < m → X' j (n + k) = u * X i (n + k) + v * X j (n + k)) (hX : ∀ t,t ≠ i → t ≠ j → X' t = X t)
  (hVi : ∀ k,k < m → V' i k = x' * V i k + y' * V j k) (hVj : ∀ k,k < m → V' j k = u' * V i k + v' * V j k) (hV : ∀ t,t ≠ i → t ≠ j → V' t = V t)
  (h11 : x * x' + y * y' = 1) (h12 : x * u' + y * v' = 0) (h21 : u * x' + v * y' = 0) (h22 : u * u' + v * v' = 1) : Iv21 m n X' V' := by
 have hji : ¬ j = i := fun e => hij e.symm
 have dii : ∀ t,dlz t t = 1 := fun t => if_pos rfl
 have dne : ∀ {s t},s ≠ t → dlz s t = 0 := fun e => if_neg e
 have oX : ∀ t,t ≠ i → t ≠ j → ∀ k,k < m → X' t (n + k) = 1 * X t (n + k) + 0 * X t (n + k) := fun t h1 h2 k _ => by rw [hX t h1 h2];omega
 have oV : ∀ t,t ≠ i → t ≠ j → ∀ k,k < m → V' t k = 1 * V t k + 0 * V t k := fun t h1 h2 k _ => by rw [hV t h1 h2];omega
 intro a b ha hb
 by_cases a1 : a = i
 ·subst a1
  by_cases b1 : b = a
  ·subst b1;rw [h.dot hXi hVi hi hj hi hj,dii,dii,dne hij,dne hji];omega
  ·by_cases b2 : b = j
   ·subst b2;rw [h.dot hXi hVj hi hj hi hj,dii,dii,dne hij,dne hji];omega
   ·rw [h.dot hXi (oV b b1 b2) hi hj hb hb,dne (Ne.symm b1),dne (Ne.symm b2)];omega
 ·by_cases a2 : a = j
  ·subst a2
   by_cases b1 : b = i
   ·subst b1;rw [h.dot hXj hVi hi hj hi hj,dii,dii,dne hij,dne hji];omega
   ·by_cases b2 : b = a
    ·subst b2;rw [h.dot hXj hVj hi hj hi hj,dii,dii,dne hij,dne hji];omega
    ·rw [h.dot hXj (oV b b1 b2) hi hj hb hb,dne (Ne.symm b1),dne (Ne.symm b2)];omega
  ·by_cases b1 : b = i
   ·subst b1;rw [h.dot (oX a a1 a2) hVi ha ha hi hj,dne a1,dne a2];omega
   ·by_cases b2 : b = j
    ·subst b2;rw [h.dot (oX a a1 a2) hVj ha ha hi hj,dne a1,dne a2];omega
    ·rw [hX a a1 a2,hV b b1 b2];exact h a b ha hb
theorem Iv21.les (h : Iv21 m n X V) (hi : i < m) (hj : j < m) (hij : i ≠ j) (s : Int) : Iv21 m n (lesX X i j s) (lesX V j i (-s)) := by
 refine h.two hi hj hij (x := 1) (y := -s) (u := 0) (v := 1) (x' := 1) (y' := 0) (u' := s) (v' := 1) (fun k _ => by rw [zpA];grind) (fun k _ => by rw [zXA (Ne.symm hij)];omega) (fun t h1 h2 => zXA h1) (fun k _ => by rw [zXA hij];omega) (fun k _ => by rw [zpA];grind) (fun t h1 h2 => zXA h2) (by omega) (by omega) (by omega) (by omega)
theorem Iv21.mix (h : Iv21 m n X V) (hi : i < m) (hj : j < m) (hij : i ≠ j) {x y u v : Int} (hd : x * v - y * u = 1) : Iv21 m n (mixX X i j x y u v) (mixX V i j v (-u) (-y) x) := by
 refine h.two hi hj hij (x := x) (y := y) (u := u) (v := v) (x' := v) (y' := -u) (u' := -y) (v' := x) (fun k _ => by rw [zdB]) (fun k _ => by rw [zpB hij]) (fun t h1 h2 => zCB h1 h2) (fun k _ => by rw [zdB]) (fun k _ => by rw [zpB hij]) (fun t h1 h2 => zCB h1 h2) (by grind) (by grind) (by grind) (by grind)
theorem Iv21.swp (h : Iv21 m n X V) (hi : i < m) (hj : j < m) (hij : i ≠ j) : Iv21 m n (swpX X i j) (swpX V i j) := by
 have e1 : ∀ Y : Nat → Nat → Int,swpX Y i j i = Y j := fun Y => by funext c;exact if_pos rfl
 have e2 : ∀ Y : Nat → Nat → Int,swpX Y i j j = Y i := fun Y => by funext c;unfold swpX;rw [if_neg (Ne.symm hij),if_pos rfl]
 have e3 : ∀ (Y : Nat → Nat → Int) t,t ≠ i → t ≠ j → swpX Y i j t = Y t := fun Y t h1 h2 => by funext c;unfold swpX;rw [if_neg h1,if_neg h2]
 exact h.two hi hj hij (x := 0) (y := 1) (u := 1) (v := 0) (x' := 0) (y' := 1) (u' := 1) (v' := 0) (fun k _ => by rw [e1];omega) (fun k _ => by rw [e2];omega) (fun t h1 h2 => e3 X t h1 h2) (fun k _ => by rw [e1];omega) (fun k _ => by rw [e2];omega) (fun t h1 h2 => e3 V t h1 h2) (by omega) (by omega) (by omega) (by omega)
theorem Iv21.neg (h : Iv21 m n X V) (i : Nat) : Iv21 m n (negX X i) (negX V i) := fun a b ha hb => by
 have hN : ∀ (Y : Nat → Nat → Int) a (c : Nat),negX Y i a c = (if a = i then -1 else 1) * Y a c := fun Y a c => by
  unfold negX
  by_cases q : a = i
  ·subst q;rw [if_pos rfl,if_pos rfl];omega
  ·rw [if_neg q,if_neg q];omega
 rw [zJA (g := fun k => ((if a = i then -1 else 1) * (if b = i then -1 else 1)) * (X a (n + k) * V b k)) fun k _ => by rw [hN,hN];grind,znA,h a b ha hb]
 by_cases q : a = b
 ·subst q;split <;> simp
 ·rw [show dlz a b = 0 from if_neg q,Int.mul_zero]
theorem Iv21.congr (h : Iv21 m n X V) (e1 : ∀ i k,i < m → k < m → X i (n + k) = X' i (n + k)) (e2 : ∀ i k,i < m → k < m → V i k = V' i k) : Iv21 m n X' V' := fun a b ha hb => by
 rw [← h a b ha hb];exact zJA fun k hk => by rw [e1 a k ha hk,e2 b k hb hk]
theorem Iv21.unit (hX : ∀ i k,i < m → k < m → X i (n + k) = dlz i k) (hV : ∀ i k,i < m → k < m → V i k = dlz i k) : Iv21 m n X V := fun a b ha hb => by
 have sy : ∀ k,dlz b k = dlz k b := fun k => by
  unfold dlz
  by_cases q : b = k
  ·subst q;rfl
  ·rw [if_neg q,if_neg (Ne.symm q)]
 rw [zJA (g := fun k => dlz a k * dlz k b) fun k hk => by rw [hX a k ha hk,hV b k hb hk,sy]];exact zvF hb (dlz a)
theorem Iv21.adz (h : Iv21 m n X V) (hi : i < m) (hj : j < m) : det m (fun a b => X a (n + b)) * V j i = Proofs.YtbcgggadelnaaaaGreat.adz m (fun a b => X a (n + b)) i j := by
 have e1 := zvF hj (fun a => Proofs.YtbcgggadelnaaaaGreat.adz m (fun a b => X a (n + b)) i a);rw [← e1,zJA (g := fun a => su m fun k => Proofs.YtbcgggadelnaaaaGreat.adz m (fun a b => X a (n + b)) i a * (X a (n + k) * V j k)) fun a ha => by rw [znA,h a j ha hj],zwC];rw [zJA (g := fun k => (if i = k then det m (fun a b => X a (n + b)) else 0) * V j k) fun k hk => by
  rw [zJA (g := fun a => Proofs.YtbcgggadelnaaaaGreat.adz m (fun a b => X a (n + b)) i a * X a (n + k) * V j k) fun a _ => by grind,zeD,ziE (fun a b => X a (n + b)) hi hk]]
 rw [zaB hi fun k _ hk => by rw [if_neg (Ne.symm hk),Int.zero_mul],if_pos rfl]
theorem Iv21.det (h : Iv21 m n X V) : (Proofs.YtbcgggadelnaaaaGreat.det m (fun a b => X a (n + b))).natAbs = 1 := by
 have e := zuG m (fun a b => X a (n + b)) (fun a b => V b a);rw [zQA (A := muz m (fun a b => X a (n + b)) fun a b => V b a) (B := dlz) fun a b ha hb => h a b ha hb,zmC] at e;have e2 := congrArg Int.natAbs e;rw [Int.natAbs_mul] at e2;exact Nat.eq_one_of_mul_eq_one_right e2.symm
theorem Iv21.size (h : Iv21 m n X V) (hm : m ≤ 64) {Y : Nat} (hY : 1 ≤ Y) (hX : ∀ i k,i < m → k < m → (X i (n + k)).natAbs ≤ Y) : ∀ j i,j < m → i < m → (V j i).natAbs ≤ 64 * (64 * Y) ^ 64 := fun j i hj hi => by
 have e := congrArg Int.natAbs (h.adz hi hj);rw [Int.natAbs_mul,h.det,Nat.one_mul] at e;rw [e];have h1 := zoE (X := Y) (N := 64) hm (A := stR (fun a b => X a (n + b)) j (dlz i)) (fun a b ha hb => by
  unfold stR
  split
  ·unfold dlz;split <;> simp <;> omega
  ·exact hX a b ha hb)
 refine Nat.le_trans h1 ?_;have h2 : (64 * Y) ^ m ≤ (64 * Y) ^ 64 := Nat.pow_le_pow_right (by omega) hm;omega
theorem Iv21.back (h : Iv21 m n X V) (hi : i < m) (hj : j < m) : su m (fun k => V k i * X k (n + j)) = dlz i j := by
 have hd := h.det;have h0 : Proofs.YtbcgggadelnaaaaGreat.det m (fun a b => X a (n + b)) ≠ 0 := fun e => by rw [e] at hd;simp at hd
 refine Int.eq_of_mul_eq_mul_left h0 ?_;rw [← znA,zJA (g := fun k => Proofs.YtbcgggadelnaaaaGreat.adz m (fun a b => X a (n + b)) i k * X k (n + j)) fun k hk => by rw [← h.adz hi hk];grind,ziE (fun a b => X a (n + b)) hi hj];unfold dlz
 split <;> simp
end
theorem inj_le21 : ∀ {r K : Nat} {ρ : Nat → Nat},(∀ a,a < r → ρ a < K) → (∀ a b,a < r → b < r → ρ a = ρ b → a = b) → r ≤ K := fun {r K ρ} h1 h2 => by
 have hn : ((List.range r).map ρ).Nodup := zJD List.nodup_range fun x hx y hy e => h2 x y (by simpa using hx) (by simpa using hy) e
 have hs : ((List.range r).map ρ) ⊆ List.range K := fun x hx => by
  simp only [List.mem_map,List.mem_range] at hx ⊢;obtain ⟨a,ha,rfl⟩ := hx;exact h1 a ha
 have := hn.length_le_of_subset hs
 simpa using this
theorem Ec18.rows21 {n K r : Nat} {ρ γ : Nat → Nat} {X : Nat → Nat → Int} (h : Ec18 n K r ρ γ X) : r ≤ K := inj_le21 h.rl h.inj
theorem tb21 {m n Y : Nat} {A : Nat → Nat → Int} (hm : m ≤ 64) (hY : 1 ≤ Y) (h : ∀ t j,t < m → j < n → (A t j).natAbs ≤ Y) : Tb18 m n A (64 * (64 * Y) ^ 64) := by
 have hp : ∀ e,e ≤ 64 → (64 * Y) ^ e ≤ (64 * Y) ^ 64 := fun e he => Nat.pow_le_pow_right (by omega) he
 have h1 := hp 1 (by omega);rw [Nat.pow_one] at h1;refine ⟨by omega,fun t j ht hj => by have := h t j ht hj;omega,fun K r ρ γ X hK hE hR e t j ht hj => ?_⟩;have hr := hE.rows21;have := hE.size hR e (M := (64 * Y) ^ r) (fun R C hRK hC => zoE (N := 64) (by omega) fun i j hi hj => h _ _ (by have := hRK i hi;omega) (hC j hj)) t j ht hj;exact Nat.le_trans this (Nat.mul_le_mul (by omega) (hp r (by omega)))
theorem Hb18.made21 {m n r : Nat} {γ : Nat → Nat} {X A : Nat → Nat → Int} (h : Hb18 m (n + m) m r id γ X A) (hA : ∀ i k,i < m → k < m → A i (n + k) = dlz i k) {i c : Nat} (hi : i < m) (hc : c < n) : X i c = su m fun k => X i (n + k) * A k c := by
 obtain ⟨z,hz⟩ := (h.lat _).1 (Cm19.row X hi);have e : ∀ k,k < m → X i (n + k) = z k := fun k hk => by
  rw [hz (n + k) (by omega),zJA (g := fun a => z a * dlz a k) fun a ha => by rw [hA a k ha hk]];exact zvF hk z
 rw [hz c (by omega)];exact zJA fun k hk => by rw [e k hk]
theorem Ec18.front21 {m n N r : Nat} {γ : Nat → Nat} {X : Nat → Nat → Int} (h : Ec18 N m r id γ X) (hd : Rd18 0 r id γ X) (hn : n ≤ N) : ∃ q,q ≤ r ∧ Ec18 n m q id γ X ∧ Rd18 0 q id γ X ∧ ∀ t,q ≤ t → t < m → ∀ j,j < n → X t j = 0 := by
 have key : ∀ d,d ≤ r → ∃ q,q ≤ d ∧ (∀ a,a < q → γ a < n) ∧ (q < d → n ≤ γ q) := by
  intro d
  induction d with
  | zero => intro _;exact ⟨0,Nat.le_refl _,fun a ha => by omega,fun h => by omega⟩
  | succ d ih =>
   intro hd;obtain ⟨q,h1,h2,h3⟩ := ih (by omega)
   by_cases p : q < d
   ·exact ⟨q,by omega,h2,fun _ => h3 p⟩
   ·obtain rfl : q = d := by omega
    by_cases p2 : γ q < n
    ·exact ⟨q + 1,Nat.le_refl _,fun a ha => by
      by_cases p3 : a = q
      ·subst p3;exact p2
      ·exact h2 a (by omega),fun h => by omega⟩
    ·exact ⟨q,by omega,h2,fun _ => by omega⟩
 obtain ⟨q,h1,h2,h3⟩ := key r (Nat.le_refl _);have hz : ∀ t,q ≤ t → t < m → ∀ j,j < n → X t j = 0 := fun t hqt ht j hj => by
  by_cases p : t < r
  ·have hg : n ≤ γ t := by
    by_cases p2 : t = q
    ·subst p2;exact h3 p
    ·have := h.up q t (by omega) p
     have := h3 (by omega);omega
   exact h.zero t j p (by omega)
  ·exact h.rest t ht (fun a ha e => by simp only [id] at e;omega) j (by omega)
 exact ⟨q,h1,⟨fun a b hab hb => h.up a b hab (by omega),h2,fun a ha => h.rl a (by omega),fun a b ha hb e => e,fun a j ha hj => h.zero a j (by omega) hj,fun a ha => h.pos a (by omega),fun t ht hne j hj => hz t (by
  by_cases p : t < q
  ·exact absurd rfl (hne t p)
  ·omega) ht j hj⟩,fun a b h1' h2' h3' => hd a b h1' h2' (by omega),hz⟩
open Go.RowKit Go.Shelf Go.Lib
theorem zlE : (Tryz.prog.info? 148).map (fun i => (i.zero,i.size,i.bytes)) = some (some (.agg #[.int .i64 0,.int .i64 0]),2,16) := by kernel_rfl
theorem zxF (r : Nat) (ρ γ : Nat → Nat) : ∀ v ∈ sc18 r ρ γ,v.oneCell' = true := by
 induction r with
 | zero => intro v hv;simp [sc18] at hv
 | succ r ih =>
  intro v hv;rw [sc18_succ] at hv;rcases List.mem_append.1 hv with q | q
  ·exact ih v q
  ·simp at q
   rcases q with rfl | rfl <;> rfl
theorem zOD {p x y : Nat} {ρ γ : Nat → Nat} : ∀ d,sc18 (p + d + 1) (insF p x ρ) (insF p y γ) = (sc18 (p + d) ρ γ).take (p * 2) ++ [.int .i64 (x : Int),.int .i64 (y : Int)] ++ (sc18 (p + d) ρ γ).drop (p * 2)
 | 0 => by
  rw [Nat.add_zero,sc18_succ,ztD,ztD,zyC (r := p) (ρ := insF p x ρ) (γ := insF p y γ) (ρ' := ρ) (γ' := γ) fun a ha => ⟨zrD ha,zrD ha⟩,List.take_of_length_le (by rw [zeA];omega),List.drop_of_length_le (by rw [zeA];omega),List.append_nil]
  rfl
 | d + 1 => by
  have ih := zOD (p := p) (x := x) (y := y) (ρ := ρ) (γ := γ) d;rw [show p + (d + 1) + 1 = (p + d + 1) + 1 by omega,sc18_succ,ih,zsD (by omega),zsD (by omega),show p + (d + 1) = (p + d) + 1 by omega,sc18_succ,show p + d + 1 - 1 = p + d by omega,
   List.take_append_of_le_length (by rw [zeA];omega),List.drop_append_of_le_length (by rw [zeA];omega),List.append_assoc]
def zqF (B : Nat) (w : World) (sv : Value) (r : Nat) (ρ γ : Nat → Nat) (e : Ending) (w' : World) : Prop :=
 ∃ sv',e = .returned sv' ∧ Sp18 B w' sv' r ρ γ ∧ Touch (fun b => sv.ownBlock = some b) w w'
theorem Sp18.own {B r : Nat} {w : World} {sv : Value} {ρ γ : Nat → Nat} (h : Sp18 B w sv r ρ γ) : w.ownsRow B 148 2 sv r (sc18 r ρ γ) := by
 refine ⟨zeA r ρ γ,?_⟩;rcases h with ⟨rfl,rfl⟩ | ⟨h0,Bp,cap,t,rfl,e0,e1,e2,e3,e4⟩
 ·exact .inl ⟨rfl,rfl⟩
 ·exact .inr ⟨Bp,cap,_,rfl,e1,e4,e0,e2,by simp [zeA];omega,by rw [← zeA r ρ γ];simp⟩
theorem Sp18.of {B r : Nat} {w : World} {sv : Value} {ρ γ : Nat → Nat} (h : w.ownsRow B 148 2 sv r (sc18 r ρ γ)) (h0 : 0 < r) : Sp18 B w sv r ρ γ := by
 rcases h.2 with ⟨_,e⟩ | ⟨g,cap,cur,rfl,e0,e1,e2,e3,e4,e5⟩
 ·omega
 ·refine .inr ⟨h0,g,cap,cur.toList.drop (r * 2),rfl,e2,e0,e3,by simp;omega,?_⟩
  have : sc18 r ρ γ ++ cur.toList.drop (r * 2) = cur.toList := by rw [← e5,List.take_append_drop]
  rw [this]
  show w.heap[g]? = some (.cells cur.toList.toArray _ _)
  simpa using e1
theorem insert_end18 {B r vb x y : Nat} {w : World} {sv : Value} {ρ γ : Nat → Nat} (h : Sp18 B w sv r ρ γ) (hv : Cel w vb 148 [.int .i64 (x : Int),.int .i64 (y : Int)]) (hr : r < 64) (hB : B ≤ w.heap.size) :
  Calls Tryz.prog 102 #[sv,.int .i64 (r : Int),.slice (some ⟨vb,0,none⟩) 1 1] w (zqF B w sv (r + 1) (insF r x ρ) (insF r y γ)) := by
 obtain ⟨i,hii,hz,hsz,hby⟩ := info_parts zlE;have hown := hid h.own;have hnews : Hid (∀ j u,[Value.int .i64 (x : Int),Value.int .i64 (y : Int)][j]? = some u → w.cell? ((⟨vb,0,none⟩ : Addr).add j) = some u) := fun j u hj => by
  rw [Addr.add_lit,Nat.zero_add];exact hv.at hj
 have FIN : Hid (∀ v' w',w'.ownsRow B 148 2 v' (r + 1) (sc18 r ρ γ ++ [.int .i64 (x : Int),.int .i64 (y : Int)]) → w.grownBy w' sv.ownBlock → zqF B w sv (r + 1) (insF r x ρ) (insF r y γ) (.returned v') w') := fun v' w' h1 h2 => by
  refine ⟨v',rfl,Sp18.of ?_ (by omega),⟨h2.os,h2.tape,h2.output,h2.size,fun b hb hn => h2.block b hb fun e => hn e.symm⟩⟩;have e := zOD (p := r) (x := x) (y := y) (ρ := ρ) (γ := γ) 0;rw [Nat.add_zero,List.take_of_length_le (by rw [zeA];omega),List.drop_of_length_le (by rw [zeA];omega),List.append_nil] at e;rw [e];exact h1
 obtain ⟨sa,sc,rfl⟩ : ∃ sa sc,sv = .slice sa r sc := by
  rcases h with ⟨e,h⟩ | ⟨_,Bp,cap,t,e,_⟩
  ·exact ⟨none,0,by rw [e];exact h⟩
  ·exact ⟨_,cap,e⟩
 have hsr : sa = none → sc = 0 := by
  intro e;rcases h with ⟨_,h⟩ | ⟨_,Bp,cap,t,e',_⟩
  ·simp at h;exact h.2.2
  ·rw [e] at e';cases e'
 have hrc : r ≤ sc := by
  rcases h with ⟨e,_⟩ | ⟨_,Bp,cap,t,e',e0,_⟩
  ·omega
  ·simp at e';omega
 have hrc' : (r : Int) ≤ (sc : Int) := by omega
 clear h hv
 by_cases hcr : sc = r
 ·subst hcr
  go_enter Tryz.func102,Tryz.ntmps102;go_wp2_with (at_builtin;refine wpList_append_own w rfl (.tmp 23) (.tmp 24) 73 rfl B 148 i (.agg #[.int .i64 0,.int .i64 0]) 2 16 Tryz.underlying73 hii hz hsz hby rfl (by omega) _ sc (sc18 sc ρ γ) rfl hown.out ⟨vb,0,none⟩ 1 1 [.int .i64 (x : Int),.int .i64 (y : Int)] rfl rfl hnews.out (by intro u hu;simp at hu;rcases hu with rfl | rfl <;> rfl) (by unfold maxLen;omega) (by omega) hB ?_)
  intro v' w' h1 h2 h3;have FF := hid (FIN.out v' w' h1 h2);clear h1 h2 h3 FIN hown hnews;go_wp2;go_ret;exact FF.out
 ·have hcr' : ¬ (sc : Int) = (r : Int) := by omega
  go_enter Tryz.func102,Tryz.ntmps102;go_wp2_with (at_builtin;refine wpList_append_own w rfl (.tmp 23) (.tmp 24) 73 rfl B 148 i (.agg #[.int .i64 0,.int .i64 0]) 2 16 Tryz.underlying73 hii hz hsz hby rfl (by omega) _ r (sc18 r ρ γ) rfl hown.out ⟨vb,0,none⟩ 1 1 [.int .i64 (x : Int),.int .i64 (y : Int)] rfl rfl hnews.out (by intro u hu;simp at hu;rcases hu with rfl | rfl <;> rfl) (by unfold maxLen;omega) (by omega) hB ?_)
  intro v' w' h1 h2 h3;have FF := hid (FIN.out v' w' h1 h2);clear h1 h2 h3 FIN hown hnews;go_wp2;go_ret;exact FF.out
theorem zBB {P : Program} (w : World) (dT sT ty elem : TypeId) (g o dLen dCap : Nat) (a : Addr) (sLen sCap : Nat) (cur : Array Value) (t : TypeId) (cs : List Value) (k : Nat)
  (hu : P.underlying dT = some (.slice elem)) (hs : (P.info? elem).map (·.size) = some 2)
  (hg : w.heap[g]? = some (.cells cur t (0,0))) (hk : k = Nat.min sLen dLen) (hn : cs.length = k * 2)
  (hsrc : ∀ j v,cs[j]? = some v → w.cell? (a.add j) = some v) (hfit : o + cs.length ≤ cur.size) (h1 : ∀ v ∈ cs,v.oneCell' = true) :
  (Builtin.copy_ #[dT,sT] ty #[.slice (some ⟨g,o,none⟩) dLen dCap,.slice (some a) sLen sCap]).run P w =
   .ok (goInt k) (w.setRow g (cur.toList.take o ++ cs ++ cur.toList.drop (o + cs.length)).toArray) := by
 have hl := run_loadCells_list (P := P) w a cs hsrc;have hst := run_storeCells_at P g o t cs 0 cur w hg (by simpa using hfit) h1;cases hq : P.info? elem with
 | none => simp [hq] at hs
 | some i =>
  have hi : i.size = 2 := by simpa [hq] using hs
  simp [Builtin.copy_,run_underlying hu,Builtin.lenOf,Builtin.firstCells,sizeOf,typeInfo,hq,hi,← hk,← hn,hl,hst]
theorem zAB {S : Nat → Prop} {w0 w : World} (h : Touch S w0 w) {g : Nat} (hg : w0.heap.size ≤ g ∨ S g) (cs : Array Value) : Touch S w0 (w.setRow g cs) := by
 refine ⟨h.os,h.tape,h.output,?_,fun b hb hn => ?_⟩
 ·have := h.size
  simpa [World.setRow] using this
 ·rw [← h.block b hb hn]
  unfold World.setRow;rw [Array.getElem?_modify,if_neg (by
   rintro rfl;rcases hg with q | q
   ·omega
   ·exact hn q)]
theorem insert_shift18 {B r vb x y p Bp cap : Nat} {w : World} {t : List Value} {ρ γ : Nat → Nat} (hp : p < r) (hr : r < 64) (hroom : r + 1 ≤ cap) (hB : B ≤ Bp) (hc63 : cap ≤ 9223372036854775807) (htl : t.length + r * 2 = cap * 2) (hc : Cel w Bp 148 (sc18 r ρ γ ++ t))
  (hv : Cel w vb 148 [Value.int .i64 (x : Int),Value.int .i64 (y : Int)]) (hne : vb ≠ Bp) :
  Calls Tryz.prog 102 #[.slice (some ⟨Bp,0,none⟩) r cap,.int .i64 (p : Int),.slice (some ⟨vb,0,none⟩) 1 1] w (zqF B w (.slice (some ⟨Bp,0,none⟩) r cap) (r + 1) (insF p x ρ) (insF p y γ)) := by
 have hsz : (Tryz.prog.info? 148).map (·.size) = some 2 := by
  obtain ⟨i,hii,hz,hsz,hby⟩ := info_parts zlE;rw [hii];simp [hsz]
 obtain ⟨cs,hcs⟩ : ∃ cs,cs = sc18 r ρ γ := ⟨_,rfl⟩
 have hcl : cs.length = r * 2 := by rw [hcs,zeA]
 obtain ⟨cur0,hcur0⟩ : ∃ cur0 : Array Value,cur0 = (cs ++ t).toArray := ⟨_,rfl⟩
 have hg0 : w.heap[Bp]? = some (.cells cur0 148 (0,0)) := by rw [hcur0,hcs];exact hc
 have hs0 : cur0.size = cap * 2 := by rw [hcur0];simp [hcl];omega
 obtain ⟨cur1,hcur1⟩ : ∃ cur1 : Array Value,cur1 = (cur0.toList.take ((p + 1) * 2) ++ cs.drop (p * 2) ++ cur0.toList.drop ((p + 1) * 2 + (cs.drop (p * 2)).length)).toArray := ⟨_,rfl⟩
 have hdl : (cs.drop (p * 2)).length = (r - p) * 2 := by rw [List.length_drop,hcl];omega
 have hs1 : cur1.size = cap * 2 := by rw [hcur1];simp [hdl,hs0];omega
 have hone : ∀ v ∈ cs,v.oneCell' = true := by rw [hcs];exact zxF r ρ γ
 have hcp1 : Hid (∀ W : World,W.heap = w.heap → ∀ ty dc sc,(Builtin.copy_ #[73,73] ty #[.slice (some ⟨Bp,(p + 1) * 2,none⟩) (r - p) dc,.slice (some ⟨Bp,p * 2,none⟩) (r + 1 - p) sc]).run Tryz.prog W = .ok (goInt ((r - p : Nat) : Int)) (W.setRow Bp cur1)) := fun W hW ty dc sc => by
  have h := zBB (P := Tryz.prog) W 73 73 ty 148 Bp ((p + 1) * 2) (r - p) dc ⟨Bp,p * 2,none⟩ (r + 1 - p) sc cur0 148 (cs.drop (p * 2)) (r - p) Tryz.underlying73 hsz (by rw [hW];exact hg0) (by simp only [Nat.min_def];split <;> omega) hdl
   (fun j v hj => by
    rw [Addr.add_lit];rw [List.getElem?_drop] at hj;have hjl := (List.getElem?_eq_some_iff.1 hj).1;simp only [World.cell?,hW,hg0];rw [hcur0];simp only [List.getElem?_toArray];rw [List.getElem?_append_left hjl];exact hj)
   (by rw [hdl,hs0];omega) (fun v hv => hone v (List.mem_of_mem_drop hv))
  rw [h,← hcur1]
 obtain ⟨cur2,hcur2⟩ : ∃ cur2 : Array Value,cur2 = (cur1.toList.take (p * 2) ++ [Value.int .i64 (x : Int),Value.int .i64 (y : Int)] ++ cur1.toList.drop (p * 2 + 2)).toArray := ⟨_,rfl⟩
 obtain ⟨W1,hW1⟩ : ∃ W1,w.setRow Bp cur1 = W1 := ⟨_,rfl⟩
 have hg1 : W1.heap[Bp]? = some (.cells cur1 148 (0,0)) := by rw [← hW1];exact setRow_heap w Bp cur0 cur1 _ _ hg0
 have hv1 : Cel W1 vb 148 [Value.int .i64 (x : Int),Value.int .i64 (y : Int)] := by
  rw [← hW1]
  show (w.setRow Bp cur1).heap[vb]? = _
  unfold World.setRow;rw [Array.getElem?_modify,if_neg (Ne.symm hne)];exact hv
 have hcp2 : Hid (∀ W : World,W.heap = W1.heap → ∀ ty dc,(Builtin.copy_ #[73,73] ty #[.slice (some ⟨Bp,p * 2,none⟩) (r + 1 - p) dc,.slice (some ⟨vb,0,none⟩) 1 1]).run Tryz.prog W = .ok (goInt ((1 : Nat) : Int)) (W.setRow Bp cur2)) := fun W hW ty dc => by
  have h := zBB (P := Tryz.prog) W 73 73 ty 148 Bp (p * 2) (r + 1 - p) dc ⟨vb,0,none⟩ 1 1 cur1 148 [Value.int .i64 (x : Int),Value.int .i64 (y : Int)] 1 Tryz.underlying73 hsz (by rw [hW];exact hg1) (by simp only [Nat.min_def];split <;> omega) rfl
   (fun j v hj => by
    rw [Addr.add_lit,Nat.zero_add];have := hv1.at hj;simp only [World.cell?,hW] at this ⊢;exact this)
   (by simp [hs1];omega) (by intro u hu;simp at hu;rcases hu with rfl | rfl <;> rfl)
  rw [h];simp only [List.length_cons,List.length_nil,Nat.zero_add,Nat.reduceAdd];rw [← hcur2]
 have hfin : cur2.toList = sc18 (r + 1) (insF p x ρ) (insF p y γ) ++ cur2.toList.drop ((r + 1) * 2) := by
  obtain ⟨d,hd⟩ : ∃ d,r = p + d := ⟨r - p,by omega⟩
  have e := zOD (p := p) (x := x) (y := y) (ρ := ρ) (γ := γ) d;rw [← hd,← hcs] at e;rw [e];have e0 : cur0.toList = cs ++ t := by rw [hcur0]
  have e1 : cur1.toList = (cs ++ t).take ((p + 1) * 2) ++ cs.drop (p * 2) ++ (cs ++ t).drop ((p + 1) * 2 + (cs.drop (p * 2)).length) := by rw [hcur1,e0]
  have e2 : cur2.toList = cur1.toList.take (p * 2) ++ [Value.int .i64 (x : Int),Value.int .i64 (y : Int)] ++ cur1.toList.drop (p * 2 + 2) := by rw [hcur2]
  have l1 : ((cs ++ t).take ((p + 1) * 2)).length = (p + 1) * 2 := by rw [List.length_take,List.length_append];omega
  have t1 : cur1.toList.take (p * 2) = cs.take (p * 2) := by
   rw [e1,List.append_assoc,List.take_append_of_le_length (by omega),List.take_take,Nat.min_eq_left (by omega),List.take_append_of_le_length (by omega)]
  have t2 : cur1.toList.drop (p * 2 + 2) = cs.drop (p * 2) ++ (cs ++ t).drop ((p + 1) * 2 + (cs.drop (p * 2)).length) := by
   rw [e1,List.append_assoc,List.drop_append_of_le_length (by omega),List.drop_of_length_le (by omega),List.nil_append]
  rw [t1,t2] at e2;have l3 : (cs.take (p * 2) ++ [Value.int .i64 (x : Int),Value.int .i64 (y : Int)] ++ cs.drop (p * 2)).length = (r + 1) * 2 := by
   simp [hdl,List.length_take,hcl];omega
  obtain ⟨Z,hZ⟩ : ∃ Z,(cs ++ t).drop ((p + 1) * 2 + (cs.drop (p * 2)).length) = Z := ⟨_,rfl⟩
  rw [hZ] at e2;have e3 : cur2.toList = (cs.take (p * 2) ++ [Value.int .i64 (x : Int),Value.int .i64 (y : Int)] ++ cs.drop (p * 2)) ++ Z := by rw [e2];simp only [List.append_assoc]
  rw [e3,← l3,List.drop_left]
 have hlen2 : cur2.size = cap * 2 := by rw [hcur2];simp [hs1];omega
 have FIN : Hid (∀ W : World,W.heap = (W1.setRow Bp cur2).heap → W.os = w.os → W.tape = w.tape → W.output = w.output → zqF B w (.slice (some ⟨Bp,0,none⟩) r cap) (r + 1) (insF p x ρ) (insF p y γ) (.returned (.slice (some ⟨Bp,0,none⟩) (r + 1) cap)) W) := fun W h1 h2 h3 h4 => by
  have ht : Touch (fun b => (Value.slice (some ⟨Bp,0,none⟩) r cap).ownBlock = some b) w (W1.setRow Bp cur2) := by
   rw [← hW1];have hS : (Value.slice (some ⟨Bp,0,none⟩) r cap).ownBlock = some Bp := rfl;exact zAB (zAB (Touch.refl (fun b => (Value.slice (some ⟨Bp,0,none⟩) r cap).ownBlock = some b) w) (.inr hS) _) (.inr hS) _
  refine ⟨_,rfl,.inr ⟨by omega,Bp,cap,cur2.toList.drop ((r + 1) * 2),rfl,hroom,hB,hc63,by simp [hlen2];omega,?_⟩,⟨h2,h3,h4,by rw [h1];exact ht.size,fun b hb hn => by rw [h1];exact ht.block b hb hn⟩⟩;rw [← hfin]
  show W.heap[Bp]? = _
  rw [h1];have := setRow_heap W1 Bp cur1 cur2 _ _ hg1;rw [this]
 have hvb := hv.blk;have hov : Hid (∀ W : World,W.heap = w.heap → ∀ lb cb,(callFunc 121 #[.slice (some ⟨vb,0,none⟩) 1 1,.slice (some ⟨Bp,(p + 1) * 2,none⟩) lb cb]).run Tryz.prog W = .ok (.value (.bool false)) W) := fun W hW lb cb => by
  rw [run_callFunc_extern Tryz.func121 (by kernel_rfl) (by kernel_rfl) (by kernel_rfl) (e := Extern.SlicesOverlaps.overlaps #[73,73] #[4]) (by kernel_rfl),
   Lib.run_overlaps_apart W 73 4 148 Tryz.underlying73 2 (fun w => by
    obtain ⟨i,hii,hz,hsz,hby⟩ := info_parts zlE;simp [sizeOf,typeInfo,hii,hsz]) ⟨vb,0,none⟩ ⟨Bp,(p + 1) * 2,none⟩ 1 1 lb cb hne 148 148 2 (cap * 2) (by simp [World.shape?,hW,show w.heap[vb]? = _ from hv]) (by simp [World.shape?,hW,hg0,hs0]) (by omega) (by simp [World.frozen?,hW,show w.heap[vb]? = _ from hv]) (by simp [World.frozen?,hW,show w.heap[vb]? = _ from hv])]
  rfl
 have hz2 : ¬ ((p : Int) = (r : Int)) := by omega
 have hz3 : ¬ (cap : Int) < (r : Int) + 1 := by omega
 have hz4 : ¬ (cap < r + 1) := by omega
 have hw1 : IntKind.i64.wrap ((p : Int) + 1) = (p : Int) + 1 := by rw [IntKind.wrap_i64];omega
 have hw2 : IntKind.i64.wrap ((r : Int) + 1) = (r : Int) + 1 := by rw [IntKind.wrap_i64];omega
 have htn : ((p : Int) + 1).toNat = p + 1 := by omega
 have htr : ((r : Int) + 1).toNat = r + 1 := by omega
 have hb1 : (0 : Int) ≤ (p : Int) + 1 := by omega
 have hb0 : (0 : Int) ≤ (r : Int) + 1 := by omega
 have hbr : (r : Int) + 1 ≤ (cap : Int) := by omega
 have hpr : (p : Int) ≤ (r : Int) := by omega
 have hpr2 : (p : Int) ≤ (r : Int) + 1 := by omega
 have hpr3 : (p : Int) + 1 ≤ (r : Int) + 1 := by omega
 have hpr4 : p ≤ r := by omega
 have hpr5 : p ≤ r + 1 := by omega
 have hb2 : ¬ (cap = p + 1) := by omega
 have hb4 : ¬ (cap = p) := by omega
 have EW1 := hid hW1;have hov' := hov.out;clear hc hv hcs hcl hcur0 hg0 hs0 hcur1 hdl hs1 hone hcur2 hW1 hg1 hv1 hfin hlen2 hvb hov;go_enter Tryz.func102,Tryz.ntmps102;go_wp2_with (simp only [hov' _ rfl])
 have hq1 := hcp1.out w.drew rfl 3 (cap - (p + 1)) (cap - p);go_region;clear hq1;have hq2 := hcp2.out (w.drew.setRow Bp cur1) (by rw [← EW1.out];rfl) 3 (cap - p);go_wp2;go_ret;exact FIN.out _ (by rw [← EW1.out];rfl) rfl rfl rfl
end Go.Proofs.YtbcgggadelnaaaaGreat
