/-
 QRl17ToLin17: Rl17, Er13, Cr13, Ad14, Uq13, Sp13, Gc14, Tb14, To14, Lin17, joined.
-/
import Derived.Test.YtffkmeocmjohmaaGreatQBz13ToSr13

set_option maxRecDepth 100000
set_option maxHeartbeats 6400000
set_option linter.unusedVariables false
set_option linter.unusedSimpArgs false
namespace Go.Proofs.YtffkmeocmjohmaaGreat
open Go.RowKit
def gv17 (m n : Nat) (gs : Nat → Nat) : List Value := (List.range m).map fun i => rowv n (gs i)
theorem zfF {m n i : Nat} {gs : Nat → Nat} {r : List Value} (hi : i < m) : (gv17 m n gs ++ r)[i]? = some (rowv n (gs i)) := by
 rw [List.getElem?_append_left (by simpa [gv17] using hi)];simp [gv17,hi]
theorem zTE {m n i g : Nat} {gs : Nat → Nat} {r : List Value} (hi : i < m) : (gv17 m n gs ++ r).set i (rowv n g) = gv17 m n (fun t => if t = i then g else gs t) ++ r := by
 rw [List.set_append_left _ _ (by simpa [gv17] using hi)]
 congr 1
 apply List.ext_getElem?
 intro t
 by_cases q : t < m
 ·by_cases e : t = i
  ·subst e
   rw [List.getElem?_set_self (by simpa [gv17] using hi)];simp [gv17,hi]
  ·rw [List.getElem?_set_ne (by omega)]
   simp [gv17,q,e]
 ·rw [List.getElem?_eq_none (by simp [gv17];omega),List.getElem?_eq_none (by simp [gv17];omega)]
theorem gv17_congr {m n : Nat} {gs hs : Nat → Nat} (h : ∀ i,i < m → gs i = hs i) : gv17 m n gs = gv17 m n hs := List.map_congr_left fun t ht => by rw [h t (by simpa using ht)]
def Rw17 (w : World) (g n : Nat) (F : Nat → Int) (k : Nat) : Prop := ∃ ps,Arr w g ps ∧ Zms w ps ((List.range n).map F) k
theorem Rw17.now {w w' : World} {g n k : Nat} {F : Nat → Int} (h : Rw17 w g n F k) (hb : Below w.heap.size w w') : Rw17 w' g n F k := by
 obtain ⟨ps,h1,h2⟩ := h;exact ⟨ps,h1.step hb,h2.now hb⟩
theorem Rw17.ty {T : TypeId} {w w' : World} {g n k : Nat} {F : Nat → Int} (h : Rw17 w g n F k) (ht : Ty T w w') (h1 : 45 ≠ T) (h2 : 120 ≠ T) : Rw17 w' g n F k := by
 obtain ⟨ps,q1,q2⟩ := h;exact ⟨ps,⟨q1.1.ty13 ht h1,q1.2⟩,q2.ty ht h2⟩
theorem Rw17.touch {w w' : World} {g g' n k : Nat} {F : Nat → Int} {ps : List (Value × Value)} (h : Rw17 w g n F k) (ht : zYA (· = g') w w') (hA : Arr w g' ps) (hne : g ≠ g') : Rw17 w' g n F k := by
 obtain ⟨qs,q1,q2⟩ := h;exact ⟨qs,q1.touch ht hne,q2.ty (ht.ty13 hA) (by decide)⟩
theorem Rw17.congr {w : World} {g n k : Nat} {F G : Nat → Int} (h : Rw17 w g n F k) (e : ∀ j,j < n → F j = G j) : Rw17 w g n G k := by
 obtain ⟨ps,h1,h2⟩ := h;exact ⟨ps,h1,by rw [List.map_congr_left (g := F) fun t ht => (e t (by simpa using ht)).symm];exact h2⟩
def Sh17 (B : Nat) (w : World) (lv : Value) (m n : Nat) (gs : Nat → Nat) (L : Nat → Nat → Int) (k : Nat) : Prop :=
 ((m = 0 ∧ lv = .slice none 0 0) ∨ (0 < m ∧ ∃ Lb cap r,lv = .slice (some ⟨Lb,0,none⟩) m cap ∧ m ≤ cap ∧ B ≤ Lb ∧ Cel w Lb 33 (gv17 m n gs ++ r))) ∧ (∀ i j,i < m → j < m → gs i = gs j → i = j) ∧ ∀ i,i < m → B ≤ gs i ∧ Rw17 w (gs i) n (L i) k
theorem Sh17.now {B m n k : Nat} {w w' : World} {lv : Value} {gs : Nat → Nat} {L : Nat → Nat → Int} (h : Sh17 B w lv m n gs L k) (hb : Below w.heap.size w w') : Sh17 B w' lv m n gs L k := by
 obtain ⟨h1,h4,h5⟩ := h;refine ⟨?_,h4,fun i hi => ⟨(h5 i hi).1,(h5 i hi).2.now hb⟩⟩;rcases h1 with h1 | ⟨h0,Lb,cap,r,e,e0,e1,e2⟩
 ·exact .inl h1
 ·exact .inr ⟨h0,Lb,cap,r,e,e0,e1,e2.step hb⟩
theorem Sh17.ty {T : TypeId} {B m n k : Nat} {w w' : World} {lv : Value} {gs : Nat → Nat} {L : Nat → Nat → Int} (h : Sh17 B w lv m n gs L k) (ht : Ty T w w') (t1 : 45 ≠ T) (t2 : 120 ≠ T) (t3 : 33 ≠ T) : Sh17 B w' lv m n gs L k := by
 obtain ⟨h1,h4,h5⟩ := h;refine ⟨?_,h4,fun i hi => ⟨(h5 i hi).1,(h5 i hi).2.ty ht t1 t2⟩⟩;rcases h1 with h1 | ⟨h0,Lb,cap,r,e,e0,e1,e2⟩
 ·exact .inl h1
 ·exact .inr ⟨h0,Lb,cap,r,e,e0,e1,e2.ty13 ht t3⟩
theorem Sh17.congr {B m n k : Nat} {w : World} {lv : Value} {gs : Nat → Nat} {L L' : Nat → Nat → Int} (h : Sh17 B w lv m n gs L k) (e : ∀ i j,i < m → j < n → L i j = L' i j) : Sh17 B w lv m n gs L' k :=
 ⟨h.1,h.2.1,fun i hi => ⟨(h.2.2 i hi).1,(h.2.2 i hi).2.congr fun j hj => e i j hi hj⟩⟩
theorem Sh17.row {B m n k i : Nat} {w w' : World} {lv : Value} {gs : Nat → Nat} {L : Nat → Nat → Int} {F : Nat → Int} (h : Sh17 B w lv m n gs L k) (hi : i < m) (ht : zYA (· = gs i) w w') (hr : Rw17 w' (gs i) n F k) : Sh17 B w' lv m n gs (fun t j => if t = i then F j else L t j) k := by
 obtain ⟨h1,h4,h5⟩ := h;obtain ⟨ps,p1,p2⟩ := (h5 i hi).2;refine ⟨?_,h4,fun t ht' => ⟨(h5 t ht').1,?_⟩⟩
 ·rcases h1 with h1 | ⟨h0,Lb,cap,r,e,e0,e1,e2⟩
  ·exact .inl h1
  ·exact .inr ⟨h0,Lb,cap,r,e,e0,e1,e2.ty13 (ht.ty13 p1) (by decide)⟩
 ·by_cases q : t = i
  ·subst q
   exact hr.congr fun j _ => (if_pos rfl).symm
  ·exact ((h5 t ht').2.touch ht p1 fun e => q (h4 t i ht' hi e)).congr fun j _ => (if_neg q).symm
theorem Sh17.line {B m n k Lb cap : Nat} {w : World} {gs : Nat → Nat} {L : Nat → Nat → Int} (h : Sh17 B w (.slice (some ⟨Lb,0,none⟩) m cap) m n gs L k) : B ≤ Lb ∧ m ≤ cap ∧ Lb < w.heap.size ∧ ∀ i,i < m → w.cell? ⟨Lb,i,none⟩ = some (rowv n (gs i)) ∧ w.frozen? ⟨Lb,i,none⟩ = false := by
 obtain ⟨h1,h4,h5⟩ := h;rcases h1 with ⟨_,h1⟩ | ⟨h0,Lb',cap',r,e,e0,e1,e2⟩
 ·cases h1
 ·simp only [Value.slice.injEq,Option.some.injEq,Addr.mk.injEq,and_true,true_and] at e
  obtain ⟨rfl,rfl⟩ := e;exact ⟨e1,e0,e2.blk,fun i hi => ⟨e2.at (zfF hi),e2.fz i⟩⟩
theorem Sh17.lineS {B m n k Lb cap i : Nat} {w : World} {gs : Nat → Nat} {L : Nat → Nat → Int} (h : Sh17 B w (.slice (some ⟨Lb,0,none⟩) m cap) m n gs L k) (hi : i < m) : w.cell? ⟨Lb,i,none⟩ = some (.slice (some ⟨gs i,0,none⟩) n n) := (h.line.2.2.2 i hi).1
end Go.Proofs.YtffkmeocmjohmaaGreat

namespace Go.Proofs.YtffkmeocmjohmaaGreat
end Go.Proofs.YtffkmeocmjohmaaGreat

namespace Go.Proofs.YtffkmeocmjohmaaGreat
theorem zyH {r : Nat} {f : Nat → Int} : ∀ {m : Nat},r ≤ m → (∀ k,r ≤ k → k < m → f k = 0) → su m f = su r f
 | 0,h,_ => by
  obtain rfl : r = 0 := by omega
  rfl
 | m + 1,h,hz => by
  by_cases e : r = m + 1
  ·subst e;rfl
  ·show su m f + f m = su r f
   rw [zyH (m := m) (by omega) (fun k h1 h2 => hz k h1 (by omega)),hz m (by omega) (by omega)];omega
theorem zuH : ∀ {l m : List Int},l.Pairwise (· < ·) → m.Pairwise (· < ·) → (∀ x,x ∈ l ↔ x ∈ m) → l = m
 | [],[],_,_,_ => rfl
 | [],b :: m,_,_,h => by have := (h b).2 (by simp);simp at this
 | a :: l,[],_,_,h => by have := (h a).1 (by simp);simp at this
 | a :: l,b :: m,hl,hm,h => by
  rw [List.pairwise_cons] at hl hm;have e : a = b := by
   rcases List.mem_cons.1 ((h a).1 (by simp)) with q | q
   ·exact q
   ·rcases List.mem_cons.1 ((h b).2 (by simp)) with q2 | q2
    ·exact q2.symm
    ·have := hm.1 a q;have := hl.1 b q2;omega
  subst e
  congr 1
  refine zuH hl.2 hm.2 fun x => ⟨fun hx => ?_,fun hx => ?_⟩
  ·rcases List.mem_cons.1 ((h x).1 (by simp [hx])) with q | q
   ·subst q;have := hl.1 x hx;omega
   ·exact q
  ·rcases List.mem_cons.1 ((h x).2 (by simp [hx])) with q | q
   ·subst q;have := hm.1 x hx;omega
   ·exact q
theorem zQG (c : Nat) : ∀ l : List Nat,(ins c l).Perm (c :: l)
 | [] => List.Perm.refl _
 | x :: l => by
  unfold ins
  split
  ·exact List.Perm.refl _
  ·exact ((zQG c l).cons x).trans (List.Perm.swap _ _ _)
theorem zEF : ∀ cs l : List Nat,(cs.foldl (fun l c => ins c l) l).Perm (cs ++ l)
 | [],l => List.Perm.refl _
 | c :: cs,l => by
  rw [List.foldl_cons];exact ((zEF cs (ins c l)).trans ((zQG c l).append_left cs)).trans List.perm_middle
theorem srt_perm (cs : List Nat) : (srt cs).Perm cs := by
 have := zEF cs [];rw [List.append_nil] at this;exact this
theorem sorted_srt {cs : List Nat} (h1 : (srt cs).Pairwise (· < ·)) (h2 : (srt cs).length = cs.length) (h3 : ∀ c,c ∈ srt cs ↔ c ∈ cs) : (cs.map fun (a : Nat) => (a : Int)).mergeSort (fun x y => decide (x ≤ y)) = (srt cs).map fun (a : Nat) => (a : Int) := by
 have hn : cs.Nodup := (srt_perm cs).nodup_iff.1 (h1.imp fun hab => Nat.ne_of_lt hab);have hperm := List.mergeSort_perm (cs.map fun (a : Nat) => (a : Int)) (fun x y => decide (x ≤ y));have hs : ((cs.map fun (a : Nat) => (a : Int)).mergeSort (fun x y => decide (x ≤ y))).Pairwise fun a b => decide (a ≤ b) = true := List.pairwise_mergeSort (fun a b c h1 h2 => by simp at *;omega) (fun a b => by simp;omega) _
 have hnd : ((cs.map fun (a : Nat) => (a : Int)).mergeSort (fun x y => decide (x ≤ y))).Nodup := hperm.nodup_iff.2 (by
  refine List.Pairwise.map _ (fun a b hab => ?_) hn;omega)
 refine zuH ?_ ?_ fun x => ?_
 ·have := hs.and hnd
  exact this.imp fun ⟨p,q⟩ => by simp at p;omega
 ·rw [List.pairwise_map]
  exact h1.imp fun hab => by omega
 ·rw [hperm.mem_iff]
  simp only [List.mem_map];exact ⟨fun ⟨a,ha,e⟩ => ⟨a,(h3 a).2 ha,e⟩,fun ⟨a,ha,e⟩ => ⟨a,(h3 a).1 ha,e⟩⟩
end Go.Proofs.YtffkmeocmjohmaaGreat

namespace Go.Proofs.YtffkmeocmjohmaaGreat
def adz (n : Nat) (A : Nat → Nat → Int) (i j : Nat) : Int := det n (stR A j (dlz i))
theorem zxH {n c : Nat} (hc : c < n) (f : Nat → Int) : su n (fun k => f k * dlz k c) = f c := by
 rw [zdB (i := c) hc fun k _ hk => by unfold dlz;rw [if_neg hk];simp];unfold dlz;simp
theorem zYH {n : Nat} (A : Nat → Nat → Int) {j : Nat} (hj : j < n) (u : Nat → Int) : su n (fun k => u k * adz n A k j) = det n (stR A j u) := by
 unfold adz;rw [← (zdA n).sum hj u dlz n];refine zLA fun r c hr hc => ?_
 by_cases q : r = j
 ·subst q;rw [zTA,zTA];exact zxH hc u
 ·rw [zOA _ q,zOA _ q]
theorem adz_mul {n r j : Nat} (A : Nat → Nat → Int) (hr : r < n) (hj : j < n) : su n (fun k => A r k * adz n A k j) = if r = j then det n A else 0 := by
 rw [zYH A hj (A r)]
 by_cases q : r = j
 ·subst q;rw [if_pos rfl,zAC]
 ·rw [if_neg q]
  exact (zdA n).same hr hj q fun c _ => by rw [zOA _ q,zTA]
theorem zEE {n j : Nat} (A : Nat → Nat → Int) (hj : j < n) (x : Nat → Int) : ∀ m,m ≤ n → det n (fun r c => if r < m ∧ r ≠ j then A r c + x r * A j c else A r c) = det n A
 | 0,_ => zLA fun r c _ _ => by rw [if_neg (by omega)]
 | m + 1,hm => by
  rw [← zEE A hj x m (by omega)]
  by_cases q : m = j
  ·exact zLA fun r c _ _ => by
    by_cases c1 : r < m ∧ r ≠ j
    ·rw [if_pos c1,if_pos (by omega)]
    ·rw [if_neg c1,if_neg (by omega)]
  ·obtain ⟨P,hP⟩ : ∃ P : Nat → Nat → Int,P = fun r c => if r < m ∧ r ≠ j then A r c + x r * A j c else A r c := ⟨_,rfl⟩
   have hp := (zdA n).plus (A := P) (show m < n by omega) hj q (x m);rw [← hP,← hp];refine zLA fun r c _ _ => ?_
   by_cases e : r = m
   ·subst e
    rw [zTA,if_pos (by omega),hP];simp only [];rw [if_neg (by omega),if_neg (by omega)]
   ·rw [zOA _ e,hP]
    simp only []
    by_cases c1 : r < m ∧ r ≠ j
    ·rw [if_pos c1,if_pos (by omega)]
    ·rw [if_neg c1,if_neg (by omega)]
theorem zOF {n i j : Nat} (A : Nat → Nat → Int) (hj : j < n) : adz n A i j = det n fun r c => if r = j then dlz i c else if c = i then 0 else A r c := by
 unfold adz;rw [← zEE (stR A j (dlz i)) hj (fun r => - A r i) n (Nat.le_refl _)];refine zLA fun r c hr hc => ?_
 by_cases q : r = j
 ·subst q
  rw [if_neg (by omega),if_pos rfl,zTA]
 ·rw [if_pos ⟨hr,q⟩,if_neg q,zOA _ q,zTA]
  unfold dlz
  by_cases e : c = i
  ·subst e;rw [if_pos rfl,if_pos rfl];omega
  ·rw [if_neg e,if_neg (Ne.symm e)];omega
theorem adz_turn {n i j : Nat} (A : Nat → Nat → Int) (hi : i < n) (hj : j < n) : adz n (fun a b => A b a) j i = adz n A i j := by
 rw [zOF A hj,zOF _ hi,← zPB];refine zLA fun r c hr hc => ?_
 simp only [dlz]
 by_cases q : r = j
 ·by_cases e : c = i
  ·simp [q,e]
  ·simp [q,e,Ne.symm e]
 ·by_cases e : c = i
  ·simp [q,e,Ne.symm q]
  ·simp [q,e]
theorem mul_adz {n i c : Nat} (A : Nat → Nat → Int) (hi : i < n) (hc : c < n) : su n (fun k => adz n A i k * A k c) = if i = c then det n A else 0 := by
 have h := adz_mul (fun a b => A b a) hc hi;rw [zPB] at h;have e : su n (fun k => adz n A i k * A k c) = su n (fun k => A k c * adz n (fun a b => A b a) k i) := zUA fun k hk => by
  rw [adz_turn A hi hk,Int.mul_comm]
 rw [e,h]
 by_cases q : i = c
 ·subst q;rfl
 ·rw [if_neg q,if_neg (Ne.symm q)]
end Go.Proofs.YtffkmeocmjohmaaGreat

namespace Go.Proofs.YtffkmeocmjohmaaGreat
section
variable {A : Nat → Nat → Int} {n i : Nat} {rs cs rs' cs' : List Nat} {odd odd' : Bool}
theorem Stz.colt (h : Stz A n i rs cs odd) {k : Nat} (hk : k < rs.length) : cs.getD k 0 < n := h.cl _ (by simp [show k < cs.length by rw [h.len];exact hk])
end
end Go.Proofs.YtffkmeocmjohmaaGreat

namespace Go.Proofs.YtffkmeocmjohmaaGreat
def Sp (n t : Nat) (L : Nat → Nat → Int) (v : Nat → Int) : Prop := ∃ (N : Int) (e : Nat → Int),N ≠ 0 ∧ ∀ j,j < n → N * v j = su t fun a => e a * L a j
section
variable {n t : Nat} {L : Nat → Nat → Int} {u v : Nat → Int}
theorem Sp.zero (h : ∀ j,j < n → v j = 0) : Sp n t L v := ⟨1,fun _ => 0,by decide,fun j hj => by rw [h j hj,zWD fun k _ => by simp];simp⟩
theorem Sp.one {a : Nat} (ha : a < t) (h : ∀ j,j < n → v j = L a j) : Sp n t L v := ⟨1,dlz a,by decide,fun j hj => by
 rw [h j hj,zdB (i := a) ha fun k _ hk => by unfold dlz;rw [if_neg (Ne.symm hk)];simp];unfold dlz;simp⟩
theorem Sp.add (hu : Sp n t L u) (hv : Sp n t L v) : Sp n t L fun j => u j + v j := by
 obtain ⟨N,e,hN,he⟩ := hu;obtain ⟨M,f,hM,hf⟩ := hv;refine ⟨N * M,fun a => M * e a + N * f a,Int.mul_ne_zero hN hM,fun j hj => ?_⟩;have e1 : su t (fun a => (M * e a + N * f a) * L a j) = M * su t (fun a => e a * L a j) + N * su t (fun a => f a * L a j) := by
  rw [← zwB,← zwB,← zvD];exact zUA fun k _ => by grind
 rw [e1,← he j hj,← hf j hj]
 grind
theorem Sp.mul (x : Int) (hu : Sp n t L u) : Sp n t L fun j => x * u j := by
 obtain ⟨N,e,hN,he⟩ := hu;refine ⟨N,fun a => x * e a,hN,fun j hj => ?_⟩;have e1 : su t (fun a => (x * e a) * L a j) = x * su t (fun a => e a * L a j) := by
  rw [← zwB];exact zUA fun k _ => by grind
 rw [e1,← he j hj]
 grind
theorem Sp.div {x : Int} (hx : x ≠ 0) (hu : Sp n t L fun j => x * u j) : Sp n t L u := by
 obtain ⟨N,e,hN,he⟩ := hu;exact ⟨N * x,e,Int.mul_ne_zero hN hx,fun j hj => by rw [← he j hj];grind⟩
theorem Sp.congr (hu : Sp n t L u) (h : ∀ j,j < n → v j = u j) : Sp n t L v := by
 obtain ⟨N,e,hN,he⟩ := hu;exact ⟨N,e,hN,fun j hj => by rw [h j hj];exact he j hj⟩
end
def prn : Nat → (Nat → Int) → Int
 | 0,_ => 1
 | n + 1,N => N 0 * prn n fun k => N (k + 1)
theorem zBI : ∀ {n : Nat} {N : Nat → Int},(∀ k,k < n → N k ≠ 0) → prn n N ≠ 0
 | 0,_,_ => by show (1 : Int) ≠ 0;decide
 | n + 1,N,h => Int.mul_ne_zero (h 0 (by omega)) (zBI fun k hk => h (k + 1) (by omega))
theorem zJF : ∀ (n : Nat) (N : Nat → Int) (A : Nat → Nat → Int),det n (fun a b => N a * A a b) = prn n N * det n A
 | 0,_,_ => rfl
 | n + 1,N,A => by
  rw [zjF,zjF];unfold exd
  show _ = (N 0 * prn n fun k => N (k + 1)) * _
  rw [← zwB];refine zUA fun j _ => ?_
  rw [zJF n (fun k => N (k + 1)) (fun r c => A (r + 1) (skd j c))]
  grind
theorem Sp.det0 {n t s : Nat} {L X : Nat → Nat → Int} (h : ∀ a,a < s → Sp n t L (X a)) (hts : t < s) {M : Nat → Nat} (hM : ∀ b,b < s → M b < n) : det s (fun a b => X a (M b)) = 0 := by
 have hc : ∀ a,∃ (N : Int) (e : Nat → Int),N ≠ 0 ∧ (a < s → ∀ j,j < n → N * X a j = su t fun k => e k * L k j) := fun a => by
  by_cases q : a < s
  ·obtain ⟨N,e,h1,h2⟩ := h a q
   exact ⟨N,e,h1,fun _ => h2⟩
  ·exact ⟨1,fun _ => 0,by decide,fun q' => absurd q' q⟩
 have hN := fun a => (hc a).choose_spec
 obtain ⟨N,hNd⟩ : ∃ N : Nat → Int,N = fun a => (hc a).choose := ⟨_,rfl⟩
 have hE : ∀ a,∃ e : Nat → Int,N a ≠ 0 ∧ (a < s → ∀ j,j < n → N a * X a j = su t fun k => e k * L k j) := fun a => by
  rw [hNd];exact hN a
 obtain ⟨E,hEd⟩ : ∃ E : Nat → Nat → Int,E = fun a => (hE a).choose := ⟨_,rfl⟩
 have hF : ∀ a,N a ≠ 0 ∧ (a < s → ∀ j,j < n → N a * X a j = su t fun k => E a k * L k j) := fun a => by
  rw [hEd];exact (hE a).choose_spec
 have e1 : det s (fun a b => N a * X a (M b)) = det s (muz s (fun a k => if k < t then E a k else 0) fun k b => L k (M b)) := zLA fun a b ha hb => by
  unfold muz;rw [(hF a).2 ha _ (hM b hb),zyH (r := t) (m := s) (by omega) (fun k h1 _ => by simp only [];rw [if_neg (by omega)];simp)];exact zUA fun k hk => by simp only [];rw [if_pos hk]
 have e2 : det s (fun a k => if k < t then E a k else 0) = 0 := by
  rw [← zPB];exact (zdA s).nul (i := t) hts fun j _ => by rw [if_neg (by omega)]
 rw [det_mul,e2,zJF s N (fun a b => X a (M b))] at e1;have e3 := zBI (n := s) (N := N) fun k _ => (hF k).1
 rcases Int.mul_eq_zero.1 (e1.trans (Int.zero_mul _)) with q | q
 ·exact absurd q e3
 ·exact q
section
variable {A : Nat → Nat → Int} {n i : Nat} {rs cs : List Nat} {odd : Bool}
abbrev lnm (A : Nat → Nat → Int) (rs cs : List Nat) : Nat → Nat → Int := fun a j => mi A (gd rs) (gd cs) a (gd rs a) j
theorem Stz.back (h : Stz A n i rs cs odd) {r t : Nat} : ∀ k,k ≤ t → t ≤ rs.length → Sp n t (lnm A rs cs) (fun j => mi A (gd rs) (gd cs) k r j) → Sp n t (lnm A rs cs) (A r)
 | 0,_,_,hs => hs.congr fun j _ => (zHH A _ _ r j).symm
 | k + 1,hk,ht,hs => by
  refine h.back k (by omega) ht (Sp.div (h.nz (k + 1) (by omega)) ?_);refine Sp.congr (u := fun j => dd A (gd rs) (gd cs) k * mi A (gd rs) (gd cs) (k + 1) r j + mi A (gd rs) (gd cs) k r (gd cs k) * lnm A rs cs k j) ((hs.mul _).add ((Sp.one (a := k) (by omega) fun j _ => rfl).mul _)) fun j _ => ?_
  have := zIH A (gd rs) (gd cs) k r j (h.nz k (by omega))
  show _ = _ + mi A (gd rs) (gd cs) k r (gd cs k) * mi A (gd rs) (gd cs) k (gd rs k) j
  omega
theorem Stz.rows (h : Stz A n i rs cs odd) {r t : Nat} (hr : r < i) (ht : t ≤ rs.length) (hb : ∀ a,a < rs.length → rs.getD a 0 ≤ r → a < t) : Sp n t (lnm A rs cs) (A r) := by
 by_cases q : r ∈ rs
 ·obtain ⟨a,ha,e⟩ := List.getElem_of_mem q
  have e2 : rs.getD a 0 = r := by simp [ha,e]
  have hat := hb a ha (by omega);refine h.back a (by omega) ht (Sp.one hat fun j _ => ?_)
  show _ = mi A (gd rs) (gd cs) a (gd rs a) j
  rw [show gd rs a = r from e2]
 ·obtain ⟨k,hk,h1,h2⟩ := h.drop r hr q
  have hkt : k ≤ t := by
   by_cases k0 : k = 0
   ·omega
   ·have := hb (k - 1) (by omega) (by have := h1 (k - 1) (by omega);omega)
    omega
  exact h.back k hkt ht (Sp.zero h2)
theorem Stz.all (h : Stz A n i rs cs odd) {r : Nat} (hr : r < i) : Sp n rs.length (lnm A rs cs) (A r) := h.rows hr (Nat.le_refl _) fun a ha _ => ha
theorem Stz.upper (h : Stz A n i rs cs odd) {t : Nat} {L : Nat → Nat → Int} (hs : ∀ r,r < i → Sp n t L (A r)) : rs.length ≤ t := by
 apply Classical.byContradiction
 intro q;have := Sp.det0 (X := fun a => A (rs.getD a 0)) (M := gd cs) (n := n) (s := rs.length) (fun a ha => hs _ (h.lt _ (by simp [ha]))) (by omega) fun b hb => h.colt hb
 exact h.nz rs.length (Nat.le_refl _) this
end
section
variable {A B : Nat → Nat → Int} {n i k : Nat} {rs cs rs' cs' : List Nat} {odd odd' : Bool}
end
end Go.Proofs.YtffkmeocmjohmaaGreat

namespace Go.Proofs.YtffkmeocmjohmaaGreat
end Go.Proofs.YtffkmeocmjohmaaGreat

namespace Go.Proofs.YtffkmeocmjohmaaGreat
def vcl (A : Nat → Nat → Int) (n c i : Nat) : Int := if c < n then A i c else dlz (c - n) i
def dcl (A : Nat → Nat → Int) (m n : Nat) (f : Nat → Nat) : Int := det m fun p => vcl A n (f p)
def stf (f : Nat → Nat) (i c : Nat) : Nat → Nat := fun p => if p = i then c else f p
theorem zcG (A : Nat → Nat → Int) (m n : Nat) (f : Nat → Nat) (i c : Nat) : dcl A m n (stf f i c) = det m (stR (fun p => vcl A n (f p)) i (vcl A n c)) := by
 unfold dcl
 congr 1
 funext p k
 unfold stf stR
 split <;> rfl
theorem cramer14 {m k : Nat} (B : Nat → Nat → Int) (u : Nat → Int) (hk : k < m) : su m (fun i => det m (stR B i u) * B i k) = det m B * u k := by
 have h1 : ∀ i,i < m → det m (stR B i u) * B i k = su m fun t => u t * (adz m B t i * B i k) := fun i hi => by
  rw [← zYH B hi u,← zrG];exact zUA fun t _ => by grind
 rw [zUA h1,zpG];have h2 : ∀ t,t < m → su m (fun i => u t * (adz m B t i * B i k)) = if t = k then u k * det m B else 0 := fun t ht => by
  rw [zwB,mul_adz B ht hk]
  by_cases q : t = k
  ·subst q;rw [if_pos rfl,if_pos rfl]
  ·rw [if_neg q,if_neg q,Int.mul_zero]
 rw [zUA h2,zdB hk (fun t _ ht => if_neg ht),if_pos rfl,Int.mul_comm]
theorem det_swp {m p i : Nat} (B : Nat → Nat → Int) (u : Nat → Int) (hp : p < m) (hi : i < m) (h : i ≠ p) : det m (stR (stR B p u) i (B p)) = - det m (stR B i u) := by
 rw [← (zdA m).swap (A := stR B i u) hp hi (Ne.symm h)]
 congr 1
 funext r c
 unfold stR
 by_cases a : r = i
 ·rw [if_pos a,if_pos a,if_neg (Ne.symm h)]
 ·by_cases b : r = p
  ·rw [if_neg a,if_neg a,if_pos b,if_pos b,if_pos rfl]
  ·rw [if_neg a,if_neg a,if_neg b,if_neg b,if_neg a]
theorem su_pick14 {m i p : Nat} {F : Nat → Int} (hi : i < m) (hp : p < m) (h : i ≠ p) (hz : ∀ t,t < m → t ≠ i → t ≠ p → F t = 0) : su m F = F i + F p := by
 have e : ∀ t,t < m → F t = (if t = i then F i else 0) + (if t = p then F p else 0) := fun t ht => by
  by_cases a : t = i
  ·subst a;rw [if_pos rfl,if_neg h,Int.add_zero]
  ·by_cases b : t = p
   ·subst b;rw [if_neg a,if_pos rfl,Int.zero_add]
   ·rw [if_neg a,if_neg b,hz t ht a b];rfl
 rw [zUA e,zvD,zdB hi (fun k _ hk => if_neg hk),zdB hp (fun k _ hk => if_neg hk),if_pos rfl,if_pos rfl]
structure Tbl (A : Nat → Nat → Int) (m n : Nat) (f g : Nat → Nat) (by_ : Nat → Nat → Int) (d : Int) : Prop where
 nz : d ≠ 0
 de : dcl A m n f = d
 be : ∀ i j,i < m → j < n → by_ i j = dcl A m n (stf f i (g j))
 fi : ∀ i j,i < m → j < m → f i = f j → i = j
 gi : ∀ i j,i < n → j < n → g i = g j → i = j
 fg : ∀ i j,i < m → j < n → f i ≠ g j
 fl : ∀ i,i < m → f i < n + m
 gl : ∀ j,j < n → g j < n + m
 cov : ∀ c,c < n + m → (∃ i,i < m ∧ f i = c) ∨ ∃ j,j < n ∧ g j = c
theorem Tbl.start (A : Nat → Nat → Int) (m n : Nat) : Tbl A m n (fun i => n + i) (fun j => j) A 1 := by
 have e : ∀ p k,vcl A n (n + p) k = dlz p k := fun p k => by unfold vcl;rw [if_neg (by omega),Nat.add_sub_cancel_left]
 refine ⟨by decide,?_,fun i j hi hj => ?_,fun i j _ _ h => by omega,fun i j _ _ h => h,fun i j _ _ => by omega,fun i h => by omega,fun j h => by omega,fun c hc => ?_⟩
 ·unfold dcl
  rw [zLA (B := dlz) fun p k _ _ => e p k];exact zdC m
 ·rw [zcG,zLA (B := stR dlz i fun k => su m fun t => A t j * dlz t k) fun r c hr hc => ?_,det_comb dlz hi fun t => A t j,zdC,Int.mul_one]
  unfold stR
  by_cases q : r = i
  ·rw [if_pos q,if_pos q]
   show vcl A n j c = su m fun t => A t j * dlz t c
   rw [zxH hc];unfold vcl;rw [if_pos hj]
  ·rw [if_neg q,if_neg q];exact e r c
 ·by_cases q : c < n
  ·exact .inr ⟨c,q,rfl⟩
  ·exact .inl ⟨c - n,by omega,by omega⟩
end Go.Proofs.YtffkmeocmjohmaaGreat

namespace Go.Proofs.YtffkmeocmjohmaaGreat
end Go.Proofs.YtffkmeocmjohmaaGreat

namespace Go.Proofs.YtffkmeocmjohmaaGreat.Q17
def sm : Nat → (Nat → Rat) → Rat
 | 0,_ => 0
 | n + 1,f => sm n f + f n
theorem sm_congr : ∀ {n : Nat} {f g : Nat → Rat},(∀ k,k < n → f k = g k) → sm n f = sm n g
 | 0,_,_,_ => rfl
 | n + 1,f,g,h => by
  simp only [sm];rw [sm_congr (n := n) (fun k hk => h k (by omega)),h n (by omega)]
theorem zkC : ∀ {n : Nat} {f : Nat → Rat},(∀ k,k < n → f k = 0) → sm n f = 0
 | 0,_,_ => rfl
 | n + 1,f,h => by
  simp only [sm];rw [zkC (n := n) (fun k hk => h k (by omega)),h n (by omega)]
  grind
theorem zEG : ∀ (n : Nat) (f g : Nat → Rat),sm n (fun k => f k + g k) = sm n f + sm n g
 | 0,_,_ => by simp only [sm];grind
 | n + 1,f,g => by
  simp only [sm];rw [zEG n f g]
  grind
theorem sm_mul : ∀ (n : Nat) (c : Rat) (f : Nat → Rat),sm n (fun k => c * f k) = c * sm n f
 | 0,_,_ => by simp only [sm];grind
 | n + 1,c,f => by
  simp only [sm];rw [sm_mul n c f]
  grind
theorem zAH (n : Nat) (c : Rat) (f : Nat → Rat) : sm n (fun k => f k * c) = sm n f * c := by
 rw [sm_congr (g := fun k => c * f k) (fun k _ => by grind),sm_mul]
 grind
theorem zyG : ∀ (n m : Nat) (f : Nat → Nat → Rat),sm n (fun i => sm m (fun j => f i j)) = sm m (fun j => sm n (fun i => f i j))
 | 0,m,f => by
  simp only [sm];rw [zkC (fun _ _ => rfl)]
 | n + 1,m,f => by
  simp only [sm];rw [zyG n m f,zEG]
theorem znE : ∀ {n i : Nat} {f : Nat → Rat},i < n → (∀ k,k < n → k ≠ i → f k = 0) → sm n f = f i
 | 0,i,f,h,_ => by omega
 | n + 1,i,f,h,hz => by
  simp only [sm]
  by_cases e : i = n
  ·subst e
   rw [zkC (fun k hk => hz k (by omega) (by omega))]
   grind
  ·rw [znE (i := i) (by omega) (fun k hk hne => hz k (by omega) hne),hz n (by omega) (fun q => e q.symm)]
   grind
theorem sm_cut {r : Nat} {f : Nat → Rat} : ∀ {m : Nat},r ≤ m → (∀ k,r ≤ k → k < m → f k = 0) → sm m f = sm r f
 | 0,h,_ => by
  obtain rfl : r = 0 := by omega
  rfl
 | m + 1,h,hz => by
  by_cases e : r = m + 1
  ·subst e;rfl
  ·simp only [sm]
   rw [sm_cut (m := m) (by omega) (fun k h1 h2 => hz k h1 (by omega)),hz m (by omega) (by omega)]
   grind
def dlt (i j : Nat) : Rat := if i = j then 1 else 0
def vm (m : Nat) (x : Nat → Rat) (M : Nat → Nat → Rat) (j : Nat) : Rat := sm m (fun i => x i * M i j)
theorem zAG (m k : Nat) (x : Nat → Rat) (A B : Nat → Nat → Rat) (j : Nat) : vm k (vm m x A) B j = vm m x (fun i => vm k (A i) B) j := by
 unfold vm;rw [sm_congr (g := fun i => sm m (fun l => x l * A l i * B i j)) (fun i _ => (zAH _ _ _).symm),zyG];refine sm_congr fun i _ => ?_
 rw [← sm_mul];exact sm_congr fun l _ => by grind
theorem zzF {m : Nat} {x y : Nat → Rat} {A B : Nat → Nat → Rat} {j : Nat} (hx : ∀ i,i < m → x i = y i) (hA : ∀ i,i < m → A i j = B i j) : vm m x A j = vm m y B j :=
 sm_congr fun i hi => by rw [hx i hi,hA i hi]
theorem vm_dlt {m i : Nat} (hi : i < m) (A : Nat → Nat → Rat) (j : Nat) : vm m (dlt i) A j = A i j := by
 unfold vm;rw [znE hi (fun k _ hne => by unfold dlt;rw [if_neg (fun q => hne q.symm)];grind)];unfold dlt;rw [if_pos rfl]
 grind
def Comb (n m l : Nat) (M A : Nat → Nat → Rat) : Prop := ∃ U : Nat → Nat → Rat,∀ i j,i < m → j < n → M i j = vm l (U i) A j
theorem Comb.refl (n m : Nat) (M : Nat → Nat → Rat) : Comb n m m M M := ⟨dlt,fun i j hi _ => (vm_dlt hi M j).symm⟩
theorem Comb.trans {n m l k : Nat} {M A B : Nat → Nat → Rat} (h1 : Comb n m l M A) (h2 : Comb n l k A B) : Comb n m k M B := by
 obtain ⟨U,hU⟩ := h1;obtain ⟨V,hV⟩ := h2;refine ⟨fun i => vm l (U i) V,fun i j hi hj => ?_⟩;rw [hU i j hi hj,zAG];exact zzF (fun _ _ => rfl) (fun k hk => hV k j hk hj)
theorem Comb.two {n m : Nat} {M A : Nat → Nat → Rat} {f g : Nat → Nat} {a b : Nat → Rat} (hf : ∀ i,i < m → f i < m) (hg : ∀ i,i < m → g i < m) (h : ∀ i j,i < m → j < n → M i j = a i * A (f i) j + b i * A (g i) j) : Comb n m m M A := by
 refine ⟨fun i k => a i * dlt (f i) k + b i * dlt (g i) k,fun i j hi hj => ?_⟩;rw [h i j hi hj];unfold vm;rw [sm_congr (g := fun k => a i * (dlt (f i) k * A k j) + b i * (dlt (g i) k * A k j)) (fun k _ => by grind),zEG,sm_mul,sm_mul];have e1 := vm_dlt (hf i hi) A j;have e2 := vm_dlt (hg i hi) A j;unfold vm at e1 e2;rw [e1,e2]
def Eqv (n m : Nat) (M A : Nat → Nat → Rat) : Prop := Comb n m m M A ∧ Comb n m m A M
theorem Eqv.refl (n m : Nat) (M : Nat → Nat → Rat) : Eqv n m M M := ⟨Comb.refl _ _ _,Comb.refl _ _ _⟩
theorem Eqv.trans {n m : Nat} {M A B : Nat → Nat → Rat} (h1 : Eqv n m M A) (h2 : Eqv n m A B) : Eqv n m M B := ⟨h1.1.trans h2.1,h2.2.trans h1.2⟩
theorem Eqv.symm {n m : Nat} {M A : Nat → Nat → Rat} (h : Eqv n m M A) : Eqv n m A M := ⟨h.2,h.1⟩
structure Rref (m c : Nat) (M : Nat → Nat → Rat) (pv : List Nat) : Prop where
 len : pv.length ≤ m
 inc : ∀ (s t a b : Nat),s < t → pv[s]? = some a → pv[t]? = some b → a < b
 lt : ∀ (t a : Nat),pv[t]? = some a → a < c
 one : ∀ (t a i : Nat),pv[t]? = some a → i < m → M i a = dlt i t
 low : ∀ (t a j : Nat),pv[t]? = some a → j < a → M t j = 0
 zer : ∀ (i j : Nat),pv.length ≤ i → i < m → j < c → M i j = 0
theorem Rref.start (m : Nat) (M : Nat → Nat → Rat) : Rref m 0 M [] :=
 ⟨by simp,fun s t a b _ h => by simp at h,fun t a h => by simp at h,fun t a i h => by simp at h,fun t a j h => by simp at h,fun i j _ _ h => by omega⟩
theorem Rref.congr {m c n : Nat} {M N : Nat → Nat → Rat} {pv : List Nat} (h : Rref m c M pv) (hc : c ≤ n) (e : ∀ i j,i < m → j < n → N i j = M i j) : Rref m c N pv := by
 refine ⟨h.len,h.inc,h.lt,fun t a i ht hi => ?_,fun t a j ht hj => ?_,fun i j h1 h2 h3 => ?_⟩
 ·rw [e i a hi (by have := h.lt t a ht;omega)];exact h.one t a i ht hi
 ·have h1 : t < pv.length := (List.getElem?_eq_some_iff.1 ht).1
  have h2 := h.len;rw [e t j (by omega) (by have := h.lt t a ht;omega)];exact h.low t a j ht hj
 ·rw [e i j h2 (by omega)];exact h.zer i j h1 h2 h3
theorem Rref.skip {m c : Nat} {M : Nat → Nat → Rat} {pv : List Nat} (h : Rref m c M pv) (hz : ∀ i,pv.length ≤ i → i < m → M i c = 0) : Rref m (c + 1) M pv := by
 refine ⟨h.len,h.inc,fun t a q => Nat.lt_succ_of_lt (h.lt t a q),h.one,h.low,fun i j h1 h2 h3 => ?_⟩
 by_cases e : j = c
 ·subst e;exact hz i h1 h2
 ·exact h.zer i j h1 h2 (by omega)
theorem Rref.swap {m c : Nat} {M N : Nat → Nat → Rat} {pv : List Nat} (h : Rref m c M pv) {a b : Nat} (ha : pv.length ≤ a) (hb : pv.length ≤ b) (ham : a < m) (hbm : b < m)
  (hN : ∀ i j,i < m → N i j = M (if i = a then b else if i = b then a else i) j) : Rref m c N pv := by
 have key : ∀ i, i < m → (if i = a then b else if i = b then a else i) < m := fun i hi => by split; · exact hbm
                                                                                             · split <;> omega
 have keep : ∀ i,i < pv.length → (if i = a then b else if i = b then a else i) = i := fun i hi => by rw [if_neg (by omega),if_neg (by omega)]
 have hl := h.len;refine ⟨h.len,h.inc,h.lt,fun t q i ht hi => ?_,fun t q j ht hj => ?_,fun i j h1 h2 h3 => ?_⟩
 ·have h1 : t < pv.length := (List.getElem?_eq_some_iff.1 ht).1
  rw [hN i q hi,h.one t q _ ht (key i hi)];unfold dlt
  by_cases e : i < pv.length
  ·rw [keep i e]
  ·have : (if i = a then b else if i = b then a else i) ≠ t := by split; · omega
                                                                  · split <;> omega
   rw [if_neg this,if_neg (by omega)]
 ·have h1 : t < pv.length := (List.getElem?_eq_some_iff.1 ht).1
  rw [hN t j (by omega),keep t h1];exact h.low t q j ht hj
 ·rw [hN i j h2]
  refine h.zer _ j ?_ (key i h2) h3
  split
  ·omega
  ·split <;> omega
theorem Rref.clear {m c : Nat} {M N : Nat → Nat → Rat} {pv : List Nat} (h : Rref m c M pv) (htop : pv.length < m) {y : Rat} (hy : M pv.length c * y = 1)
  (hN : ∀ i j,i < m → N i j = if i = pv.length then M i j * y else M i j - M i c * (M pv.length j * y)) : Rref m (c + 1) N (pv ++ [c]) := by
 have hz : ∀ j,j < c → M pv.length j = 0 := fun j hj => h.zer _ j (Nat.le_refl _) htop hj
 have same : ∀ i j,i < m → j < c → N i j = M i j := fun i j hi hj => by
  rw [hN i j hi]
  split
  ·rename_i e;subst e;rw [hz j hj];grind
  ·rw [hz j hj];grind
 have split_at : ∀ t a,(pv ++ [c])[t]? = some a → (pv[t]? = some a ∧ t < pv.length) ∨ (t = pv.length ∧ a = c) := fun t a ht => by
  by_cases q : t < pv.length
  ·rw [List.getElem?_append_left q] at ht;exact .inl ⟨ht,q⟩
  ·rw [List.getElem?_append_right (by omega)] at ht
   right
   by_cases q2 : t - pv.length = 0
   ·rw [q2] at ht;simp at ht;exact ⟨by omega,ht.symm⟩
   ·rw [show t - pv.length = (t - pv.length - 1) + 1 by omega] at ht;simp at ht
 refine ⟨by simp;omega,fun s t a b hst hs ht => ?_,fun t a ht => ?_,fun t a i ht hi => ?_,fun t a j ht hj => ?_,fun i j h1 h2 h3 => ?_⟩
 ·rcases split_at s a hs with ⟨h1,q1⟩ | ⟨rfl,rfl⟩
  ·rcases split_at t b ht with ⟨h2,q2⟩ | ⟨rfl,rfl⟩
   ·exact h.inc s t a b hst h1 h2
   ·exact h.lt s a h1
  ·rcases split_at t b ht with ⟨h2,q2⟩ | ⟨rfl,rfl⟩ <;> omega
 ·rcases split_at t a ht with ⟨h1,q1⟩ | ⟨rfl,rfl⟩
  ·exact Nat.lt_succ_of_lt (h.lt t a h1)
  ·omega
 ·rcases split_at t a ht with ⟨h1,q1⟩ | ⟨rfl,rfl⟩
  ·rw [same i a hi (h.lt t a h1)];exact h.one t a i h1 hi
  ·rw [hN i a hi]
   unfold dlt
   by_cases e : i = pv.length
   ·subst e;rw [if_pos rfl,if_pos rfl];exact hy
   ·rw [if_neg e,if_neg e,hy];grind
 ·rcases split_at t a ht with ⟨h1,q1⟩ | ⟨rfl,rfl⟩
  ·rw [same t j (by have := h.len;omega) (by have := h.lt t a h1;omega)];exact h.low t a j h1 hj
  ·rw [same _ j htop hj];exact hz j hj
 ·simp only [List.length_append,List.length_cons,List.length_nil] at h1
  by_cases e : j = c
  ·subst e
   rw [hN i j h2,if_neg (by omega),hy];grind
  ·rw [same i j h2 (by omega)];exact h.zer i j (by omega) h2 (by omega)
theorem Rref.coords {m n : Nat} {M : Nat → Nat → Rat} {pv : List Nat} (h : Rref m n M pv) {v x : Nat → Rat} (hv : ∀ j,j < n → v j = vm m x M j) {j : Nat} (hj : j < n) :
  v j = vm pv.length (fun t => v (pv.getD t 0)) M j := by
 rw [hv j hj];unfold vm;rw [sm_cut h.len (fun k h1 h2 => by rw [h.zer k j h1 h2 hj];grind)];refine sm_congr fun t ht => ?_
 have e : pv[t]? = some (pv.getD t 0) := by simp [ht]
 have hl := h.len
 congr 1
 show x t = v (pv.getD t 0)
 rw [hv _ (h.lt t _ e)];unfold vm;rw [znE (i := t) (by omega) (fun k hk hne => by rw [h.one t _ k e hk];unfold dlt;rw [if_neg hne];grind),h.one t _ t e (by omega)];unfold dlt;rw [if_pos rfl]
 grind
end Go.Proofs.YtffkmeocmjohmaaGreat.Q17
