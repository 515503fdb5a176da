/-
 QHw18ToFar: Hw18, Fresh, Far, joined.
-/
import Derived.Test.YtnfpjgmmhhdgbaaGreatQZg18ToFo18
import Derived.Test.YtnfpjgmmhhdgbaaGreatQOpenSt11ToGr16
import Derived.Test.YtnfpjgmmhhdgbaaGreatQMadeToByWord
import Derived.Laws.AppendOwn
import Derived.Laws.AppendOwnNone
import Derived.Test.YtnfpjgmmhhdgbaaGreatQWordsToBulk
import Derived.Deep.RegionLaw
import Derived.Deep.RegionHeldLaw

set_option maxRecDepth 100000
set_option maxHeartbeats 6400000
set_option linter.unusedVariables false
set_option linter.unusedSimpArgs false
namespace Go.Proofs.YtnfpjgmmhhdgbaaGreat
theorem Hb18.same {m n r r' : Nat} {γ γ' : Nat → Nat} {X X' A A' : Nat → Nat → Int} (h : Hb18 m n m r id γ X A) (h' : Hb18 m n m r' id γ' X' A') (e : ∀ v,Cm19 m n A v ↔ Cm19 m n A' v) : zG18 m n X = zG18 m n X' := by
 obtain ⟨rfl,hq⟩ := h.ec.one h'.ec h.rd h'.rd fun v => (h.lat v).trans ((e v).trans (h'.lat v).symm)
 refine zdD fun i j hi hj => ?_
 by_cases q : i < r
 ·exact (hq i q).2 j hj
 ·rw [h.ec.rest i hi (fun a ha => by simp;omega) j hj,h'.ec.rest i hi (fun a ha => by simp;omega) j hj]
theorem Hb18.on {m n r : Nat} {γ : Nat → Nat} {X A : Nat → Nat → Int} (h : Hb18 m n m r id γ X A) : Hb18 m n m r id γ (en18 n (zG18 m n X)) (en18 n (zG18 m n X)) := by
 have e : ∀ i j,i < m → j < n → en18 n (zG18 m n X) i j = X i j := fun i j hi hj => zzE hi hj
 have rl : ∀ a,a < r → a < m := fun a ha => by have := h.ec.rl a ha;simpa using this
 refine ⟨⟨h.ec.up,h.ec.cl,h.ec.rl,h.ec.inj,fun a j ha hj => ?_,fun a ha => ?_,fun t ht hn j hj => ?_⟩,fun a b h1 h2 h3 => ?_,fun v => Iff.rfl,fun t _ => rfl⟩
 ·rw [show id a = a from rfl,e a j (rl a ha) (by have := h.ec.cl a ha;omega)];exact h.ec.zero a j ha hj
 ·rw [show id a = a from rfl,e a _ (rl a ha) (h.ec.cl a ha)];exact h.ec.pos a ha
 ·rw [e t j ht hj];exact h.ec.rest t ht hn j hj
 ·rw [show id a = a from rfl,show id b = b from rfl,e a _ (rl a (by omega)) (h.ec.cl b h3),e b _ (rl b h3) (h.ec.cl b h3)];exact h.rd a b h1 h2 h3
theorem zSF {M : List (List Int)} {i : Nat} {R : List Int} (hi : i < M.length) (t c : Nat) : lm18 (M.set i R) t c = if t = i then R.getD c 0 else lm18 M t c := by
 unfold lm18 zHA
 by_cases q : t = i
 ·subst q;rw [if_pos rfl];simp [hi]
 ·rw [if_neg q];simp [List.getElem?_set_ne (Ne.symm q)]
theorem run_cm18 {n : Nat} {s : St} {M : List (List Int)} (hw : Wide n M) (hf : s.fit M.length) (v : Nat → Int) : Cm19 M.length n (lm18 (s.run M)) v ↔ Cm19 M.length n (lm18 M) v := by
 cases s with
 | swap i j =>
  obtain ⟨hi,hj⟩ : i < M.length ∧ j < M.length := hf;refine (Cm19.only (Y := swpX (lm18 M) i j) (fun t c ht hc => ?_) v).trans (zEG hi hj v)
  show lm18 ((M.set i (zHA M j)).set j (zHA M i)) t c = _
  rw [zSF (by simpa using hj),zSF hi];unfold swpX
  by_cases q : t = j
  ·subst q
   rw [if_pos rfl]
   by_cases q2 : t = i
   ·subst q2;rw [if_pos rfl];rfl
   ·rw [if_neg q2,if_pos rfl];rfl
  ·rw [if_neg q]
   by_cases q2 : t = i
   ·rw [if_pos q2,if_pos q2];rfl
   ·rw [if_neg q2,if_neg q2,if_neg q]
 | neg i =>
  have hi : i < M.length := hf;refine (Cm19.only (Y := negX (lm18 M) i) (fun t c ht hc => ?_) v).trans (zFG hi v)
  show lm18 (M.set i (zDB (zHA M i))) t c = _
  rw [zSF hi];unfold negX
  by_cases q : t = i
  ·subst q
   rw [if_pos rfl,if_pos rfl];have hl := hw.at ht;unfold zDB lm18;simp [List.getElem?_eq_getElem (show c < (zHA M t).length by omega)]
  ·rw [if_neg q,if_neg q]
 | add i j z =>
  obtain ⟨hi,hj,hij⟩ : i < M.length ∧ j < M.length ∧ i ≠ j := hf;refine (Cm19.only (Y := lesX (lm18 M) i j (-z)) (fun t c ht hc => ?_) v).trans (zNE hi hj hij (-z) v)
  show lm18 (M.set i (zyA z (zHA M i) (zHA M j))) t c = _
  rw [zSF hi];unfold lesX
  by_cases q : t = i
  ·subst q
   rw [if_pos rfl,if_pos rfl];have hl := hw.at ht;have hl2 := hw.at hj;unfold zyA lm18;simp [List.getElem?_eq_getElem (show c < (zHA M t).length by omega),List.getElem?_eq_getElem (show c < (zHA M j).length by omega)]
   grind
  ·rw [if_neg q,if_neg q]
theorem zVE {n : Nat} : ∀ {ss : List St} {M : List (List Int)},Wide n M → (∀ s ∈ ss,s.fit M.length) → ∀ v,Cm19 M.length n (lm18 (runs ss M)) v ↔ Cm19 M.length n (lm18 M) v
 | [],M,_,_,v => Iff.rfl
 | s :: ss,M,hw,hf,v => by
  have h1 := run_cm18 hw (hf s (by simp)) v;have hl := St.run_length s M;have h2 := zVE (n := n) (ss := ss) (M := s.run M) (St.run_wide hw (hf s (by simp))) (fun x hx => by rw [hl];exact hf x (by simp [hx])) v;rw [hl] at h2;exact h2.trans h1
theorem rowsT_cm18 {m n : Nat} {zs : List Int} {rs : List Rs} (hz : zs.length = m * n) (hf : ∀ s ∈ rs,s.fit m) (v : Nat → Int) : Cm19 m n (en18 n (zWE (sts rs) m n zs)) v ↔ Cm19 m n (en18 n zs) v := by
 have hfs : ∀ s ∈ sts rs,s.fit m := by
  intro s hs;simp only [sts,List.mem_map] at hs;obtain ⟨x,hx,rfl⟩ := hs;exact Rs.st_fit (hf x hx)
 have hw : Wide n (rowsL m n zs) := zIC hz;have hl : (rowsL m n zs).length = m := zbA;have h1 := zVE (n := n) (ss := sts rs) (M := rowsL m n zs) hw (by rw [hl];exact hfs) v;rw [hl] at h1;have hz2 : (zWE (sts rs) m n zs).length = m * n := rowsT_length hz hfs;have hw2 : Wide n (runs (sts rs) (rowsL m n zs)) := zUE hw (by rw [hl];exact hfs);have hl2 : (runs (sts rs) (rowsL m n zs)).length = m := by rw [zUB,hl]
 have e2 : rowsL m n (zWE (sts rs) m n zs) = runs (sts rs) (rowsL m n zs) := by
  have := rowsL_flatten hw2;rw [hl2] at this;exact this
 refine (Cm19.only (fun i j hi hj => ?_) v).trans (h1.trans (Cm19.only (fun i j hi hj => zvE hz hi hj) v));rw [← zvE hz2 hi hj,e2]
theorem zDF {T t : Nat} (h : ((T : Nat) : Int) < pw t) : ∀ e,((bd18 T e : Nat) : Int) < pw (e * (t + 1) + t)
 | 0 => by rw [zXD,Nat.zero_mul,Nat.zero_add];exact h
 | e + 1 => by
  have ih := zDF h e;rw [zhB,show (e + 1) * (t + 1) + t = (t + 1) + (e * (t + 1) + t) by rw [Nat.succ_mul];omega,zpA];have h1 : ((2 * T : Nat) : Int) < pw (t + 1) := by
   have := zpA t 1;rw [this];have hp := znA t;have h2 : pw t * 2 ≤ pw t * pw 1 := Int.mul_le_mul_of_nonneg_left (by decide) (by omega);omega
  have h3 : ((2 * T * bd18 T e : Nat) : Int) = ((2 * T : Nat) : Int) * ((bd18 T e : Nat) : Int) := by simp
  rw [h3];have q1 : ((2 * T : Nat) : Int) * ((bd18 T e : Nat) : Int) ≤ ((2 * T : Nat) : Int) * pw (e * (t + 1) + t) := Int.mul_le_mul_of_nonneg_left (by omega) (by omega);exact Int.lt_of_le_of_lt q1 (Int.mul_lt_mul_of_pos_right h1 (by have := znA (e * (t + 1) + t);omega))
theorem tpw18 {Y k : Nat} (h : ((Y : Nat) : Int) < pw k) : ((64 * (64 * Y) ^ 64 : Nat) : Int) < pw (64 * k + 65) := by
 have h1 : ((64 * Y : Nat) : Int) < pw (k + 1) := by
  rw [zpA];have hp := znA k;have h2 : pw k * 64 ≤ pw k * pw 1 := Int.mul_le_mul_of_nonneg_left (by decide) (by omega);omega
 have h2 : ∀ e,(((64 * Y) ^ e : Nat) : Int) ≤ pw ((k + 1) * e) := by
  intro e
  induction e with
  | zero => simp [pw]
  | succ e ih =>
   rw [Nat.pow_succ,Nat.mul_succ,zpA];have h3 : (((64 * Y) ^ e * (64 * Y) : Nat) : Int) = (((64 * Y) ^ e : Nat) : Int) * ((64 * Y : Nat) : Int) := by simp
   rw [h3];exact Int.mul_le_mul ih (by omega) (by omega) (by have := znA ((k + 1) * e);omega)
 have h3 := h2 64;have e : 64 * k + 65 = (k + 1) * 64 + 1 := by omega
 rw [e,zpA];have h4 : ((64 * (64 * Y) ^ 64 : Nat) : Int) = 64 * (((64 * Y) ^ 64 : Nat) : Int) := by simp
 rw [h4];have hp := znA ((k + 1) * 64);have h5 : pw ((k + 1) * 64) * 65 ≤ pw ((k + 1) * 64) * pw 1 := Int.mul_le_mul_of_nonneg_left (by decide) (by omega);omega
theorem ztE {m n k : Nat} {zs : List Int} (hn : n ≤ 64) (hz : zs.length = m * n) (hb : ∀ z ∈ zs,(z.natAbs : Int) < pw k) (hk : 1 ≤ k) : ∃ T,Tb18 m n (en18 n zs) T ∧ ((T : Nat) : Int) < pw (64 * k + 65) := by
 have hp1 : (1 : Int) < pw k := by
  obtain ⟨d,rfl⟩ : ∃ d,k = d + 1 := ⟨k - 1,by omega⟩
  rw [zpA];have hp := znA d;have : 1 * pw 1 ≤ pw d * pw 1 := Int.mul_le_mul_of_nonneg_right (by omega) (by decide);have : (1 : Int) < pw 1 := by decide
  omega
 refine ⟨64 * (64 * (pw k - 1).toNat) ^ 64,tb18 hn (by omega) (fun t j ht hj => ?_),tpw18 (by omega)⟩;have hl := zsE ht hj;have e : en18 n zs t j = zs[t * n + j]'(by omega) := by unfold en18;simp [show t * n + j < zs.length by omega]
 have := hb _ (List.getElem_mem (l := zs) (n := t * n + j) (by omega));rw [e];omega
theorem two_form18 : Hb18 2 2 2 2 id id (en18 2 [2,0,0,4]) (en18 2 [2,4,6,8]) := by
 have x00 : en18 2 [2,0,0,4] 0 0 = 2 := rfl;have x01 : en18 2 [2,0,0,4] 0 1 = 0 := rfl;have x10 : en18 2 [2,0,0,4] 1 0 = 0 := rfl;have x11 : en18 2 [2,0,0,4] 1 1 = 4 := rfl;have a00 : en18 2 [2,4,6,8] 0 0 = 2 := rfl;have a01 : en18 2 [2,4,6,8] 0 1 = 4 := rfl;have a10 : en18 2 [2,4,6,8] 1 0 = 6 := rfl;have a11 : en18 2 [2,4,6,8] 1 1 = 8 := rfl;have c2 : ∀ i : Nat,i < 2 → i = 0 ∨ i = 1 := fun i hi => by omega
 refine ⟨⟨fun a b h1 h2 => h1,fun a ha => ha,fun a ha => ha,fun a b _ _ e => e,fun a j ha hj => ?_,fun a ha => ?_,fun t ht hn j hj => absurd rfl (hn t ht)⟩,fun a b h1 h2 h3 => ?_,fun v => ⟨fun k => k.trans fun t ht => ?_,fun k => k.trans fun t ht => ?_⟩,fun t ht => ?_⟩
 ·have hj : j < a := hj
  rcases c2 a ha with rfl | rfl
  ·omega
  ·obtain rfl : j = 0 := by omega
   exact x10
 ·rcases c2 a ha with rfl | rfl
  ·show 0 < en18 2 [2,0,0,4] 0 0;rw [x00];decide
  ·show 0 < en18 2 [2,0,0,4] 1 1;rw [x11];decide
 ·obtain rfl : a = 0 := by omega
  obtain rfl : b = 1 := by omega
  show 0 ≤ en18 2 [2,0,0,4] 0 1 ∧ en18 2 [2,0,0,4] 0 1 < en18 2 [2,0,0,4] 1 1
  rw [x01,x11];decide
 ·have r0 := Cm19.row (n := 2) (en18 2 [2,4,6,8]) (show 0 < 2 by omega)
  have r1 := Cm19.row (n := 2) (en18 2 [2,4,6,8]) (show 1 < 2 by omega);rcases c2 t ht with rfl | rfl
  ·exact ((r0.mul (-2)).add r1).congr fun j hj => by rcases c2 j hj with rfl | rfl <;> simp [x00,x01,a00,a01,a10,a11]
  ·exact ((r0.mul 3).add (r1.mul (-1))).congr fun j hj => by rcases c2 j hj with rfl | rfl <;> simp [x10,x11,a00,a01,a10,a11]
 ·have r0 := Cm19.row (n := 2) (en18 2 [2,0,0,4]) (show 0 < 2 by omega)
  have r1 := Cm19.row (n := 2) (en18 2 [2,0,0,4]) (show 1 < 2 by omega);rcases c2 t ht with rfl | rfl
  ·exact (r0.add r1).congr fun j hj => by rcases c2 j hj with rfl | rfl <;> simp [x00,x01,x10,x11,a00,a01]
  ·exact ((r0.mul 3).add (r1.mul 2)).congr fun j hj => by rcases c2 j hj with rfl | rfl <;> simp [x00,x01,x10,x11,a10,a11]
 ·funext c
  unfold en18;rw [List.getD_eq_getElem?_getD,List.getD_eq_getElem?_getD,List.getElem?_eq_none (by simp;omega),List.getElem?_eq_none (by simp;omega)]
open Go.RowKit
def Far (B : Nat) (w : World) (v : Value) (zs : List Int) : Prop :=
 WF zs ∧ zWG v ∧ ∃ a cap,v = .slice a zs.length cap ∧ zs.length ≤ cap ∧ zs.length ≤ 35184372088832 ∧ (zs = [] ∨ ∃ g r,B ≤ g ∧ a = some ⟨g,0,none⟩ ∧ Row w g (ws zs ++ r))
theorem Far.sl {B : Nat} {w : World} {v : Value} {zs : List Int} (h : Far B w v zs) : Sl w.heap.size w v zs := by
 obtain ⟨hw,_,a,cap,h1,h2,h3,h4⟩ := h;refine ⟨hw,a,cap,h1,h2,h3,?_⟩;rcases h4 with e | ⟨g,r,_,h5,h6⟩
 ·exact .inl e
 ·exact .inr ⟨g,0,h5,h6.lt,fun j hj => by rw [Nat.zero_add];exact h6.word hj⟩
theorem Far.form {B : Nat} {w : World} {v : Value} {zs : List Int} (h : Far B w v zs) : ∃ a cap,v = .slice a zs.length cap := by obtain ⟨_,_,a,cap,h1,_⟩ := h;exact ⟨a,cap,h1⟩
theorem run_append_empty (w : World) (ty : TypeId) (g : Nat) {B : Nat} {v : Value} {xs : List Int} (hsl : Sl B w v xs) (hf : zWG v) (hmx : xs.length ≤ 17592186044416) :
  ∃ v' w',(Builtin.append_ #[49,49] ty #[.slice (some ⟨g,0,none⟩) 0 0,v]).run Tryz.prog w = .ok v' w' ∧ Far w.heap.size w' v' xs ∧ Below w.heap.size w w' := by
 obtain ⟨i,hi,hz,hsz,hb⟩ := info_parts Tryz.infoW;have ht := Tryz.underlying49;obtain ⟨hw,ad,cap,rfl,hlc,hcm,hm⟩ := hsl;rcases hf with e | ⟨ad',n',c',e⟩
 ·simp only [Value.slice.injEq] at e
  obtain ⟨rfl,e2,rfl⟩ := e;obtain rfl : xs = [] := List.eq_nil_of_length_eq_zero e2;refine ⟨.slice (some ⟨g,0,none⟩) 0 0,w,?_,⟨WF.nil,.inr ⟨_,_,_,rfl⟩,_,0,rfl,Nat.le_refl _,Nat.zero_le _,.inl rfl⟩,Below.refl _ _⟩;simp [Builtin.append_,run_underlying ht,sizeOf,typeInfo,hi,Builtin.lenOf,Builtin.firstCells,storeCells]
 ·simp only [Value.slice.injEq] at e
  obtain ⟨rfl,_,_⟩ := e
  by_cases h0 : xs = []
  ·subst h0
   refine ⟨.slice (some ⟨g,0,none⟩) 0 0,w,?_,⟨WF.nil,.inr ⟨_,_,_,rfl⟩,_,0,rfl,Nat.le_refl _,Nat.zero_le _,.inl rfl⟩,Below.refl _ _⟩;simp [Builtin.append_,run_underlying ht,sizeOf,typeInfo,hi,Builtin.lenOf,Builtin.firstCells,loadCells,loadCellsFrom,storeCells]
  ·have hpos : 0 < xs.length := by cases xs with
    | nil => exact absurd rfl h0
    | cons x r => simp
   have hnews : ∀ j u,(ws xs)[j]? = some u → w.cell? (ad'.add j) = some u := fun j u hj => by
    have hj' : j < xs.length := by
     have := (List.getElem?_eq_some_iff.1 hj).1
     simpa [zKA] using this
    rcases hm with e | ⟨b,off,h1,h2,h3⟩
    ·exact absurd e h0
    ·simp only [Option.some.injEq] at h1
     subst h1;have e : (⟨b,off,none⟩ : Addr).add j = ⟨b,off + j,none⟩ := by unfold Addr.add;split <;> simp_all
     rw [e,h3 j hj',← hj];simp [ws,hj']
   have hfit : Builtin.nextslicecap (0 + xs.length) 0 * i.bytes ≤ 281474976710656 := by
    unfold Builtin.nextslicecap;rw [if_pos (by omega),hb];omega
   have hr := run_append_grow (P := Tryz.prog) w 49 ty 58 i (.int .u64 0) ht hi hz ⟨g,0,none⟩ 0 0 [] (by simp) (fun j v hj => by simp at hj) ad' xs.length cap (ws xs) (by rw [zKA,hsz];omega) hnews (by omega) (by omega) hfit;have hge := grownCap_ge w (0 + xs.length) 0 58;refine ⟨_,_,hr,⟨hw,.inr ⟨_,_,_,rfl⟩,_,grownCap w (0 + xs.length) 0 58,by rw [Nat.zero_add],by omega,hcm,.inr ⟨w.heap.size,(Builtin.zeroCells (Value.int .u64 0).cells (grownCap w (0 + xs.length) 0 58 - (0 + xs.length))).toList,Nat.le_refl _,rfl,?_⟩⟩,?_⟩
   ·have := heap_alloc_new w.drew (.cells (([] : List Value).toArray ++ (ws xs).toArray ++ Builtin.zeroCells (Value.int .u64 0).cells (grownCap w (0 + xs.length) 0 58 - (0 + xs.length))) 58)
    unfold Row;refine Eq.trans this ?_
    simp
   ·exact ((Below.refl w.heap.size w).drew).alloc (Nat.le_refl _) _
end Go.Proofs.YtnfpjgmmhhdgbaaGreat
