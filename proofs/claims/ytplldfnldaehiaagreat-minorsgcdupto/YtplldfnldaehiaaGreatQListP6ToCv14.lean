/-
 QListP6ToCv14: ListP6, Ge14, Like11, Aw14, Scaled9, Lm14, Cv14, joined.
-/
import Derived.Test.YtplldfnldaehiaaGreatQExtPureToRf11
import Derived.Test.YtplldfnldaehiaaGreatQRl14ToCd14
import Derived.Test.YtplldfnldaehiaaGreatQSp13ToTb14
import Derived.Test.YtplldfnldaehiaaGreatQMn14ToAj14
import Derived.Test.YtplldfnldaehiaaGreatQEach9ToZFloor
import Derived.Test.YtplldfnldaehiaaGreatQPure9ToLeastA9
import Derived.Test.YtplldfnldaehiaaGreatQFil9ToRowsOf9
import Derived.Test.YtplldfnldaehiaaGreatQDo14ToIx14
import Derived.Test.YtplldfnldaehiaaGreatQCm14ToSz14

set_option maxRecDepth 100000
set_option maxHeartbeats 6400000
set_option linter.unusedVariables false
set_option linter.unusedSimpArgs false
namespace Go.Proofs.YtplldfnldaehiaaGreat
def gcdL (L : List Int) : Int := L.foldl (fun g n => (Int.gcd g n : Int)) 0
theorem gcdL_append (L : List Int) (n : Int) : gcdL (L ++ [n]) = (Int.gcd (gcdL L) n : Int) := by simp [gcdL, List.foldl_append]
theorem gcdL_take {L : List Int} {i : Nat} (h : i < L.length) : gcdL (L.take (i + 1)) = (Int.gcd (gcdL (L.take i)) L[i] : Int) := by rw [List.take_succ_eq_append_getElem h, gcdL_append]
theorem gcdL_dvd (d : Int) (L : List Int) : d ∣ gcdL L ↔ ∀ n ∈ L, d ∣ n := by
 have h : ∀ (L : List Int) (g : Int), d ∣ L.foldl (fun g n => (Int.gcd g n : Int)) g ↔ d ∣ g ∧ ∀ n ∈ L, d ∣ n := by
  intro L
  induction L with
  | nil => intro g; simp
  | cons a t ih =>
   intro g; rw [List.foldl_cons, ih]; have e : d ∣ (Int.gcd g a : Int) ↔ d ∣ g ∧ d ∣ a := ⟨fun q => ⟨Int.dvd_trans q (Int.gcd_dvd_left ..), Int.dvd_trans q (Int.gcd_dvd_right ..)⟩, fun q => Int.dvd_coe_gcd q.1 q.2⟩
   rw [e]
   constructor
   ·rintro ⟨⟨h1, h2⟩, h3⟩
    exact ⟨h1, fun n hn => by rcases List.mem_cons.1 hn with rfl | hn; exact h2; exact h3 n hn⟩
   ·rintro ⟨h1, h2⟩
    exact ⟨⟨h1, h2 a (by simp)⟩, fun n hn => h2 n (by simp [hn])⟩
 unfold gcdL; rw [h]; exact ⟨fun q => q.2, fun q => ⟨Int.dvd_zero d, q⟩⟩
open Go.RowKit
theorem gcs_gcdL (l : List Int) : gcs l = gcdL l := rfl
theorem zOC (l : List Int) : 0 ≤ gcs l := by
 rcases List.eq_nil_or_concat l with rfl | ⟨L, z, rfl⟩
 ·exact Int.le_refl _
 ·rw [List.concat_eq_append, zCI]; exact Int.natCast_nonneg _
theorem zII {A : Nat → Nat → Int} {m n k C R : Nat} {z : Int} : z ∈ cpL A m n k C R 0 ↔ ∃ i j, i < R ∧ j < C ∧ z = cpE A m n k i j := by
 unfold cpL; simp only [List.mem_append, List.mem_flatMap, List.mem_map, List.mem_range]
 constructor
 ·rintro (⟨i, hi, j, hj, e⟩ | ⟨j, hj, _⟩)
  ·exact ⟨i, j, hi, hj, e.symm⟩
  ·omega
 ·rintro ⟨i, j, hi, hj, e⟩
  exact .inl ⟨i, hi, j, hj, e.symm⟩
theorem zbG {n k : Nat} {l : List Nat} (h1 : l.length = k) (h2 : l.Pairwise (· < ·)) (h3 : ∀ x ∈ l, x < n) : ∃ i, i < cho n k ∧ (zVA n k).getD i [] = l := by
 have hm : l ∈ lx n k n := (zBE n n k l (Nat.le_refl _)).2 ⟨h1, h2, fun x hx => ⟨by omega, h3 x hx⟩⟩; obtain ⟨i, hi, e⟩ := List.mem_iff_getElem.1 hm; refine ⟨i, by rw [← zkC n n k]; exact hi, ?_⟩
 show (lx n k n).getD i [] = l
 rw [← e]; simp [hi]
theorem zkE {l : List Nat} {a : Nat} (h : a < l.length) : l.getD a 0 ∈ l := by
 rw [List.getD_eq_getElem?_getD, List.getElem?_eq_getElem h]; exact List.getElem_mem h
theorem zWC {A : Nat → Nat → Int} {m n k : Nat} {p : Int} : p ∣ gcs (cpL A m n k (cho n k) (cho m k) 0) ↔ Dvm p A m n k := by
 rw [gcs_gcdL, gcdL_dvd]
 constructor
 ·intro h R M hR hM
  refine dvd_minors (fun rs cs l1 l2 u1 u2 b1 b2 => ?_) R M hR hM; obtain ⟨i, hi, e1⟩ := zbG l1 u1 b1; obtain ⟨j, hj, e2⟩ := zbG l2 u2 b2; have := h _ (zII.2 ⟨i, j, hi, hj, rfl⟩); unfold cpE at this; rw [e1, e2] at this; exact this
 ·intro h z hz
  obtain ⟨i, j, hi, hj, rfl⟩ := zII.1 hz; have mi := zUC (n := m) (k := k) (t := i) (by rw [show (zVA m k).length = cho m k from zkC m m k]; exact hi); have mj := zUC (n := n) (k := k) (t := j) (by rw [show (zVA n k).length = cho n k from zkC n n k]; exact hj); refine h (fun a => ((zVA m k).getD i []).getD a 0) (fun b => ((zVA n k).getD j []).getD b 0) (fun a ha => ?_) fun b hb => ?_
  ·exact mi.2.2 _ (zkE (by rw [mi.1]; exact ha))
  ·exact mj.2.2 _ (zkE (by rw [mj.1]; exact hb))
theorem zyG {A : Nat → Nat → Int} {m n k : Nat} {rs cs : List Nat} {odd : Bool} (h : Stz A n m rs cs odd) : gcs (cpL A m n k (cho n k) (cho m k) 0) = 0 ↔ rs.length < k := by
 rw [← h.zero14, ← zWC, Int.zero_dvd]
theorem zzG {A : Nat → Nat → Int} {m n k : Nat} : gcs (cpL A m n k (cho n k) (cho m k) 0) ∣ gcs (cpL A m n (k + 1) (cho n (k + 1)) (cho m (k + 1)) 0) := zWC.2 (zWC.1 (Int.dvd_refl _)).next
theorem gcs_eq {A B : Nat → Nat → Int} {m n k : Nat} (h : ∀ p, Dvm p A m n k ↔ Dvm p B m n k) : gcs (cpL A m n k (cho n k) (cho m k) 0) = gcs (cpL B m n k (cho n k) (cho m k) 0) :=
 Int.dvd_antisymm (zOC _) (zOC _) (zWC.2 ((h _).1 (zWC.1 (Int.dvd_refl _)))) (zWC.2 ((h _).2 (zWC.1 (Int.dvd_refl _))))
theorem zrE {n a : Nat} (h : a < n) (f : Nat → Int) : su n (fun r => dlz a r * f r) = f a := by
 rw [zEB h fun k _ hk => by rw [dlz, if_neg (Ne.symm hk), Int.zero_mul]]; rw [dlz, if_pos rfl, Int.one_mul]
def zbI (A : Nat → Nat → Int) (i j : Nat) (s : Int) : Nat → Nat → Int := fun a b => if a = i then A i b + s * A j b else A a b
theorem zaH {A B : Nat → Nat → Int} {m n k i j : Nat} {p s : Int} (hj : j < m) (hB : ∀ a b, a < m → b < n → B a b = zbI A i j s a b) (h : Dvm p A m n k) : Dvm p B m n k := by
 refine h.rows (fun a r => dlz a r + (if a = i then s * dlz j r else 0)) fun a b ha hb => ?_
 rw [hB a b ha hb]; unfold zbI
 by_cases q : a = i
 ·subst q
  simp only [if_true]; have e : su m (fun r => (dlz a r + s * dlz j r) * A r b) = su m (fun r => dlz a r * A r b) + s * su m (fun r => dlz j r * A r b) := by
   rw [← zwB, ← zsD]; exact zQA fun r _ => by grind
  rw [e, zrE ha (fun r => A r b), zrE hj (fun r => A r b)]
 ·simp only [if_neg q, Int.add_zero]
  exact (zrE ha (fun r => A r b)).symm
theorem zfD {A B : Nat → Nat → Int} {m n k i j : Nat} (hi : i < m) (hj : j < m) (hij : i ≠ j) (hB : ∀ a b, a < m → b < n → B a b = if a = i then A i b - A j b else A a b) : gcs (cpL B m n k (cho n k) (cho m k) 0) = gcs (cpL A m n k (cho n k) (cho m k) 0) := by
 refine gcs_eq fun p => ⟨fun h => zaH (A := B) (s := 1) (i := i) (j := j) hj (fun a b ha hb => ?_) h, fun h => zaH (A := A) (s := -1) (i := i) (j := j) hj (fun a b ha hb => ?_) h⟩
 ·unfold zbI
  by_cases q : a = i
  ·subst q
   rw [if_pos rfl, hB a b ha hb, hB j b hj hb, if_pos rfl, if_neg (Ne.symm hij)]; omega
  ·rw [if_neg q, hB a b ha hb, if_neg q]
 ·unfold zbI
  rw [hB a b ha hb]
  by_cases q : a = i
  ·rw [if_pos q, if_pos q]; omega
  ·rw [if_neg q, if_neg q]
theorem zNG {a b : Nat} (hb : 0 < b) : 4096 / b < a ↔ 4096 < a * b := Nat.div_lt_iff_lt_mul hb
theorem zrC : ∀ {n k : Nat}, k ≤ n → 0 < cho n k
 | n, 0, _ => by cases n <;> simp [cho]
 | 0, k + 1, h => by omega
 | n + 1, k + 1, h => by
  show 0 < cho n k + cho n (k + 1)
  have := zrC (n := n) (k := k) (by omega); omega
theorem zMC {w : World} {v u : Value} {z y : Int} {k l : Nat} (h : Zc w v z k) (h' : Zc w u y l) (hzy : z = y) :
  Calls Tryz.prog 12 #[v, u] w fun e w' => e = .returned (.bool true) ∧ Below w.heap.size w w' := by
 subst hzy; obtain ⟨n, xs, a, c, rfl, s0, q0, e0, z0, k0⟩ := h; obtain ⟨m, ys, b, d, rfl, s1, q1, e1, z1, k1⟩ := h'; obtain ⟨rfl, rfl⟩ := iv_one (z0.trans z1.symm) q0 q1 e0 e1; obtain ⟨W0, hW⟩ : ∃ W0, (w.alloc (duo (.bool n) (.slice a xs.length c))).alloc (duo (.bool n) (.slice b xs.length d)) = W0 := ⟨_, rfl⟩
 have b0 := (zeA w (duo (.bool n) (.slice a xs.length c)) (duo (.bool n) (.slice b xs.length d))).1; rw [hW] at b0; have P2 : Hid (Duo W0 w.heap.size (.bool n) (.slice a xs.length c)) := by unfold Hid; rw [← hW]; exact (Duo.new w _ _).later (by simp) _
 have P3 : Hid (Duo W0 (w.heap.size + 1) (.bool n) (.slice b xs.length d)) := by
  unfold Hid; rw [← hW]; have := Duo.new (w.alloc (duo (.bool n) (.slice a xs.length c))) (.bool n) (.slice b xs.length d)
  simpa using this
 have HC := hid (same_yes (s0.now b0) (s1.now b0) rfl); have B0 := hid b0; have x0 := P2.out.c0; have y0 := P3.out.c0; have x1 := P2.out.c1; have y1 := P3.out.c1; rw [← hW] at x0 y0 x1 y1; have EW := hid hW; have hq : (n == n) = true := by simp
 clear s0 s1 z0 z1 b0 q0 q1 e0 e1 hW; go_enter Tryz.func12, Tryz.ntmps12; go_wp2_with fail; rw [EW.out]; refine HC.out.mono ?_; rintro e w1 ⟨rfl, b1⟩; have B1 := hid (below_step B0.out b1); clear b1 HC x0 y0 x1 y1 EW; go_wp2; go_ret; exact ⟨rfl, B1.out⟩
instance snd11 (r c : Int) (l : Nat) : Decidable (Snd r c l) := by unfold Snd; infer_instance
theorem ziC {w : World} {r c : Int} {a : Option Addr} {l cap : Nat} : Calls Tryz.prog 7 #[.agg #[.int .i64 r, .int .i64 c, .slice a l cap]] w fun e w' => e = .returned (.int .i64 (if Snd r c l then 0 else 1)) ∧ Below w.heap.size w w' := by
 obtain ⟨W0, hW⟩ : ∃ W0, w.alloc (.cells #[.int .i64 r, .int .i64 c, .slice a l cap] 24) = W0 := ⟨_, rfl⟩
 obtain ⟨b0, sz0⟩ := alo1 w (.cells #[.int .i64 r, .int .i64 c, .slice a l cap] 24); rw [hW] at b0 sz0; have P1 : Hid (Cel W0 w.heap.size 24 [.int .i64 r, .int .i64 c, .slice a l cap]) := by unfold Hid; rw [← hW]; exact Cel.new w _ _
 have x0 := P1.out.at (i := 0) rfl; have x1 := P1.out.at (i := 1) rfl; have x2 := P1.out.at (i := 2) rfl; rw [← hW] at x0 x1 x2; have G0 := hid b0; have EW := hid hW; clear b0 sz0 hW P1
 by_cases h1 : r < 0
 ·have e : (if Snd r c l then (0 : Int) else 1) = 1 := if_neg (fun h => by have := h.1; omega)
  rw [e]; clear e; go_enter Tryz.func7, Tryz.ntmps7; go_wp2; rw [EW.out]; go_ret; exact ⟨rfl, G0.out⟩
 by_cases h2 : 64 < r
 ·have e : (if Snd r c l then (0 : Int) else 1) = 1 := if_neg (fun h => by have := h.2.1; omega)
  rw [e]; clear e; go_enter Tryz.func7, Tryz.ntmps7; go_wp2; rw [EW.out]; go_ret; exact ⟨rfl, G0.out⟩
 by_cases h3 : c < 0
 ·have e : (if Snd r c l then (0 : Int) else 1) = 1 := if_neg (fun h => by have := h.2.2.1; omega)
  rw [e]; clear e; go_enter Tryz.func7, Tryz.ntmps7; go_wp2; rw [EW.out]; go_ret; exact ⟨rfl, G0.out⟩
 by_cases h4 : 64 < c
 ·have e : (if Snd r c l then (0 : Int) else 1) = 1 := if_neg (fun h => by have := h.2.2.2.1; omega)
  rw [e]; clear e; go_enter Tryz.func7, Tryz.ntmps7; go_wp2; rw [EW.out]; go_ret; exact ⟨rfl, G0.out⟩
 have hm : 0 ≤ r * c ∧ r * c ≤ 64 * 64 := ⟨Int.mul_nonneg (by omega) (by omega), Int.mul_le_mul (by omega) (by omega) (by omega) (by omega)⟩
 have hw : IntKind.i64.wrap (r * c) = r * c := by rw [zKA] <;> omega
 obtain ⟨q, hq⟩ : ∃ q, r * c = q := ⟨_, rfl⟩
 replace hw : IntKind.i64.wrap (r * c) = q := hw.trans hq; have hw2 := hw; rw [IntKind.wrap_i64] at hw2
 by_cases h5 : (l : Int) = q
 ·have e : (if Snd r c l then (0 : Int) else 1) = 0 := if_pos ⟨by omega, by omega, by omega, by omega, h5.trans hq.symm⟩
  rw [e]; have q0 : ((l : Int) != q) = false := by simpa using h5
  clear e hm hq; go_enter Tryz.func7, Tryz.ntmps7; go_wp2; rw [EW.out]; go_ret; exact ⟨rfl, G0.out⟩
 ·have e : (if Snd r c l then (0 : Int) else 1) = 1 := if_neg (fun h => h5 (h.2.2.2.2.trans hq))
  rw [e]; have q0 : ((l : Int) != q) = true := by simpa using h5
  clear e hm hq; go_enter Tryz.func7, Tryz.ntmps7; go_wp2; rw [EW.out]; go_ret; exact ⟨rfl, G0.out⟩
theorem mx_six {V : World} {g : Nat} {n0 : Bool} {a0 : Option Addr} {l0 c0 : Nat} {z0 : Int} {n1 : Bool} {a1 : Option Addr} {l1 c1 : Nat} {z1 : Int} {n2 : Bool} {a2 : Option Addr} {l2 c2 : Nat} {z2 : Int} {n3 : Bool} {a3 : Option Addr} {l3 c3 : Nat} {z3 : Int} {n4 : Bool} {a4 : Option Addr} {l4 c4 : Nat} {z4 : Int} {n5 : Bool} {a5 : Option Addr} {l5 c5 : Nat} {z5 : Int} {k : Nat} (d : Cel V g 37 [.bool n0, .slice a0 l0 c0, .bool n1, .slice a1 l1 c1, .bool n2, .slice a2 l2 c2, .bool n3, .slice a3 l3 c3, .bool n4, .slice a4 l4 c4, .bool n5, .slice a5 l5 c5])
  (h0 : Zi V (.agg #[.bool n0, .slice a0 l0 c0]) z0 k) (h1 : Zi V (.agg #[.bool n1, .slice a1 l1 c1]) z1 k) (h2 : Zi V (.agg #[.bool n2, .slice a2 l2 c2]) z2 k) (h3 : Zi V (.agg #[.bool n3, .slice a3 l3 c3]) z3 k) (h4 : Zi V (.agg #[.bool n4, .slice a4 l4 c4]) z4 k) (h5 : Zi V (.agg #[.bool n5, .slice a5 l5 c5]) z5 k) :
  Mx V (.agg #[.int .i64 2, .int .i64 3, .slice (some ⟨g, 0, none⟩) 6 6]) 2 3 [z0, z1, z2, z3, z4, z5] k := by
 have ar : Arr V g [(.bool n0, .slice a0 l0 c0), (.bool n1, .slice a1 l1 c1), (.bool n2, .slice a2 l2 c2), (.bool n3, .slice a3 l3 c3), (.bool n4, .slice a4 l4 c4), (.bool n5, .slice a5 l5 c5)] := ⟨d, fun p hp => by
  simp at hp; rcases hp with rfl | rfl | rfl | rfl | rfl | rfl <;> exact ⟨_, _, _, _, rfl⟩⟩
 refine ⟨_, _, rfl, ar.prs (Nat.zero_le _) (by simp) (Nat.le_refl _), ⟨rfl, fun j p z hp hz => ?_⟩, rfl, by decide, by decide⟩
 match j, hp, hz with
 | 0, hp, hz => simp at hp hz; subst hp hz; exact h0
 | 1, hp, hz => simp at hp hz; subst hp hz; exact h1
 | 2, hp, hz => simp at hp hz; subst hp hz; exact h2
 | 3, hp, hz => simp at hp hz; subst hp hz; exact h3
 | 4, hp, hz => simp at hp hz; subst hp hz; exact h4
 | 5, hp, hz => simp at hp hz; subst hp hz; exact h5
 | j + 6, hp, hz => simp at hp
theorem det_six : det 2 (fun a b => en 3 [1, 2, 3, 4, 5, 6] (([0, 1] : List Nat).getD a 0) (([0, 2] : List Nat).getD b 0)) = -6 := by decide
theorem zyH {w : World} {g : Nat} {x y : Nat} (c0 : w.cell? ⟨g, 0, none⟩ = some (.int .i64 (x : Int))) (c1 : w.cell? ⟨g, 1, none⟩ = some (.int .i64 (y : Int))) (hg : g < w.heap.size) : In9 w (.slice (some ⟨g, 0, none⟩) 2 2) (natv [x, y]) := by
 refine ⟨_, _, rfl, Nat.le_refl _, by simp [natv], .inr ⟨g, 0, rfl, hg, fun j h => ?_⟩⟩
 match j, h with
 | 0, _ => exact c0
 | 1, _ => exact c1
theorem zWE (w : World) : Calls Tryz.prog 5 #[] w fun e w' => e = .returned (.bool true) ∧ Below w.heap.size w w' := by
 go_enter Tryz.func5, Tryz.ntmps5; go_wp2_with fail; refine (num14_1 (w := w)).mono ?_; rintro e w1 ⟨a1, l1, c1, rfl, z1, b⟩; have G := hid b; have Z1 := hid z1.zi; clear z1 b; go_wp2_with fail; refine (num14_2 (w := w1)).mono ?_; rintro e w2 ⟨a2, l2, c2, rfl, z2, b⟩; replace G := hid (below_step G.out b); replace Z1 := hid (Z1.out.now b); have Z2 := hid z2.zi; clear z2 b; go_wp2_with fail; refine (num14_3 (w := w2)).mono ?_; rintro e w3 ⟨a3, l3, c3, rfl, z3, b⟩; replace G := hid (below_step G.out b); replace Z1 := hid (Z1.out.now b); replace Z2 := hid (Z2.out.now b); have Z3 := hid z3.zi; clear z3 b; go_wp2_with fail; refine (num14_4 (w := w3)).mono ?_; rintro e w4 ⟨a4, l4, c4, rfl, z4, b⟩; replace G := hid (below_step G.out b); replace Z1 := hid (Z1.out.now b); replace Z2 := hid (Z2.out.now b); replace Z3 := hid (Z3.out.now b); have Z4 := hid z4.zi; clear z4 b; go_wp2_with fail; refine (num14_5 (w := w4)).mono ?_; rintro e w5 ⟨a5, l5, c5, rfl, z5, b⟩; replace G := hid (below_step G.out b); replace Z1 := hid (Z1.out.now b); replace Z2 := hid (Z2.out.now b); replace Z3 := hid (Z3.out.now b); replace Z4 := hid (Z4.out.now b); have Z5 := hid z5.zi; clear z5 b; go_wp2_with fail; refine (num14_6 (w := w5)).mono ?_; rintro e w6 ⟨a6, l6, c6, rfl, z6, b⟩; replace G := hid (below_step G.out b); replace Z1 := hid (Z1.out.now b); replace Z2 := hid (Z2.out.now b); replace Z3 := hid (Z3.out.now b); replace Z4 := hid (Z4.out.now b); replace Z5 := hid (Z5.out.now b); have Z6 := hid z6.zi; clear z6 b; obtain ⟨V, hV⟩ : ∃ V, w6.alloc (.cells #[.bool false, .slice a1 l1 c1, .bool false, .slice a2 l2 c2, .bool false, .slice a3 l3 c3, .bool false, .slice a4 l4 c4, .bool false, .slice a5 l5 c5, .bool false, .slice a6 l6 c6] 37) = V := ⟨_, rfl⟩
 obtain ⟨bv, szv⟩ := alo1 w6 (.cells #[.bool false, .slice a1 l1 c1, .bool false, .slice a2 l2 c2, .bool false, .slice a3 l3 c3, .bool false, .slice a4 l4 c4, .bool false, .slice a5 l5 c5, .bool false, .slice a6 l6 c6] 37); rw [hV] at bv szv; have d : Cel V w6.heap.size 37 [.bool false, .slice a1 l1 c1, .bool false, .slice a2 l2 c2, .bool false, .slice a3 l3 c3, .bool false, .slice a4 l4 c4, .bool false, .slice a5 l5 c5, .bool false, .slice a6 l6 c6] := by rw [← hV]; exact Cel.new _ _ _
 have MM := hid (mx_six d (Z1.out.now bv) (Z2.out.now bv) (Z3.out.now bv) (Z4.out.now bv) (Z5.out.now bv) (Z6.out.now bv)); replace G := hid (below_step G.out bv); obtain ⟨V2, hV2⟩ : ∃ V2, V.alloc (.cells #[.int .i64 2, .int .i64 3, .slice (some ⟨w6.heap.size, 0, none⟩) 6 6] 24) = V2 := ⟨_, rfl⟩
 obtain ⟨bv2, szv2⟩ := alo1 V (.cells #[.int .i64 2, .int .i64 3, .slice (some ⟨w6.heap.size, 0, none⟩) 6 6] 24); rw [hV2] at bv2 szv2; have PM : Hid (Cel V2 V.heap.size 24 [.int .i64 2, .int .i64 3, .slice (some ⟨w6.heap.size, 0, none⟩) 6 6]) := by unfold Hid; rw [← hV2]; exact Cel.new _ _ _
 replace MM := hid (MM.out.now bv2); replace G := hid (below_step G.out bv2); obtain ⟨V3, hV3⟩ : ∃ V3, (V2.alloc (.cells #[.int .i64 0, .int .i64 1] 3)).alloc (.cells #[.int .i64 0, .int .i64 2] 3) = V3 := ⟨_, rfl⟩
 obtain ⟨bv3, szv3⟩ := zeA V2 (.cells #[.int .i64 0, .int .i64 1] 3) (.cells #[.int .i64 0, .int .i64 2] 3); rw [hV3] at bv3 szv3; have p1 : Cel V3 V2.heap.size 3 [.int .i64 0, .int .i64 1] := by rw [← hV3]; exact (Cel.new V2 3 [.int .i64 0, .int .i64 1]).step ((Below.refl _ _).alloc (Nat.le_refl _) _)
 have p2 : Cel V3 (V2.heap.size + 1) 3 [.int .i64 0, .int .i64 2] := by
  rw [← hV3]; have := Cel.new (V2.alloc (.cells #[.int .i64 0, .int .i64 1] 3)) 3 [.int .i64 0, .int .i64 2]
  simpa using this
 have i1 : In9 V3 (.slice (some ⟨V2.heap.size, 0, none⟩) 2 2) (natv [0, 1]) := zyH (p1.at (i := 0) rfl) (p1.at (i := 1) rfl) (by omega); have i2 : In9 V3 (.slice (some ⟨V2.heap.size + 1, 0, none⟩) 2 2) (natv [0, 2]) := zyH (p2.at (i := 0) rfl) (p2.at (i := 1) rfl) (by omega); have HD := hid (minor_yes (s := 2) (MM.out.now bv3) i1 i2 (by decide) (by decide) rfl rfl (by decide) (by decide)); rw [det_six] at HD; replace G := hid (below_step G.out bv3); have x0 := PM.out.at (i := 0) rfl; have x1 := PM.out.at (i := 1) rfl; have x2 := PM.out.at (i := 2) rfl; rw [← hV2] at x0 x1 x2; have SV2 : Hid (V2.heap.size = V.heap.size + 1) := szv2; have EV := hid hV; have EV2 := hid hV2; have EV3 := hid hV3; rw [SV2.out] at HD; clear d bv szv bv2 szv2 bv3 szv3 p1 p2 i1 i2 hV hV2 hV3 Z1 Z2 Z3 Z4 Z5 Z6 PM MM; go_wp2_with (first | rw [EV.out] | fail)
 rw [EV2.out, EV3.out]; clear EV EV2 EV3 x0 x1 x2; refine HD.out.mono ?_; rintro e w7 ⟨rq, rfl, m, b⟩; have ZM := hid (m.mono (Nat.zero_le _)); obtain ⟨nq, xq, aq, cq, rfl⟩ := m.parts; obtain ⟨lq, hlq⟩ : ∃ lq, xq.length = lq := ⟨_, rfl⟩
 rw [hlq] at ZM ⊢; obtain ⟨V4, hV4⟩ : ∃ V4, w7.alloc (duo (.bool nq) (.slice aq lq cq)) = V4 := ⟨_, rfl⟩
 obtain ⟨b4, sz4⟩ := alo1 w7 (duo (.bool nq) (.slice aq lq cq)); rw [hV4] at b4 sz4; have DQ : Hid (Duo V4 w7.heap.size (.bool nq) (.slice aq lq cq)) := by unfold Hid; rw [← hV4]; exact Duo.new w7 _ _
 replace ZM := hid (ZM.out.now b4); replace G := hid (below_step (below_step G.out b) b4); have cd0 := DQ.out.c0; have cd1 := DQ.out.c1; have EV := hid hV4; clear HD m b b4 sz4 hV4 hlq; go_upto_region 3 with fail
 rw [EV.out]; clear EV; have KB : Hid (∀ w', Below V4.heap.size V4 w' → w'.cell? ⟨w7.heap.size, 0, none⟩ = some (.bool nq) ∧ w'.cell? ⟨w7.heap.size, 1, none⟩ = some (.slice aq lq cq)) := fun w' h => ⟨cnow h cd0, cnow h cd1⟩
 refine zCA (fun w' => w'.cell? ⟨w7.heap.size, 0, none⟩ = some (.bool nq) ∧ w'.cell? ⟨w7.heap.size, 1, none⟩ = some (.slice aq lq cq)) 7 (by kernel_rfl) ?_; obtain ⟨D61, hD⟩ : ∃ D61, V4.drew = D61 := ⟨_, rfl⟩
 have GB : Hid (Below V4.heap.size V4 D61) := by unfold Hid; rw [← hD]; exact (Below.refl _ _).drew
 rw [hD]; clear hD; refine zBA [(0, (.int .i64 0)), (1, (.bool true)), (2, (.bool true)), (3, (.agg #[.bool nq, .slice aq lq cq]))] 4 ?_ (KB.out _ GB.out) ?_
 ·simp only [zJA, gA9, g09, g19, Act.put, sI9, s09, s19]; (repeat' (first | exact trivial | refine And.intro (Or.inl ⟨by rfl, ?_⟩) ?_)) <;> (intro w hSw; (try dsimp only at hSw); go_simp)
 simp only [actV, gA9, g09, g19, Act.put, sI9, s09, s19]; refine zAA (i := 4) (o := ⟨some 23, .call { callee := .value (.func 22), args := #[.const (.int .i64 (-6))], argTypes := #[2] }, 37, "law.go:27", #[⟨2, .chain⟩, ⟨2, .guard⟩], some (2, true)⟩) (by kernel_rfl) rfl (fun K hK => ?_); go_simp; go_at_call 22; refine (num14_m6).mono ?_; rintro e w62 ⟨am, lm, cm, rfl, z1, b⟩; have lz62 := (show Below _ _ _ from b).size; replace GB := hid (below_step GB.out b); have MO := hid z1; clear z1; clear b; refine hK.out _ _ (fun _ => KB.out _ GB.out) ?_; clear hK; refine zAA (i := 5) (o := ⟨some 24, .call { callee := .value (.func 12), args := #[.tmp 22, .tmp 23], argTypes := #[37, 37] }, 4, "law.go:27", #[⟨3, .data⟩, ⟨4, .data⟩, ⟨4, .chain⟩, ⟨2, .guard⟩], some (2, true)⟩) (by kernel_rfl) rfl (fun K hK => ?_); go_simp; go_at_call 12; refine (zMC (ZM.out.now GB.out).zc MO.out rfl).mono ?_; rintro e w63 ⟨rfl, b⟩; have lz63 := (show Below _ _ _ from b).size; replace GB := hid (below_step GB.out b); clear b; refine hK.out _ _ (fun _ => KB.out _ GB.out) ?_; clear hK; refine zBA [(6, (.bool true))] 1 ?_ (KB.out _ GB.out) ?_
 ·simp only [zJA, gA9, g09, g19, Act.put, sI9, s09, s19]; (repeat' (first | exact trivial | refine And.intro (Or.inl ⟨by rfl, ?_⟩) ?_)) <;> (intro w hSw; (try dsimp only at hSw); go_simp)
 simp only [actV, gA9, g09, g19, Act.put, sI9, s09, s19]; refine zAA (i := 7) (o := ⟨some 0, .assign (.tmp 25), 4, "law.go:27", #[⟨6, .data⟩, ⟨5, .chain⟩, ⟨0, .phase⟩, ⟨1, .phase⟩, ⟨2, .phase⟩, ⟨3, .phase⟩, ⟨4, .phase⟩, ⟨5, .phase⟩, ⟨6, .phase⟩], none⟩) (by kernel_rfl) rfl (fun K hK => ?_); go_simp; refine hK.out _ _ (fun h => absurd h (by decide)) ?_; clear hK
 try simp only [Act.put]
 refine zDA (by kernel_rfl) ?_ _; have FIN : Hid (Below w.heap.size w w63) := below_step G.out GB.out; clear GB KB; go_wp2; go_ret; exact ⟨rfl, FIN.out⟩



end Go.Proofs.YtplldfnldaehiaaGreat
