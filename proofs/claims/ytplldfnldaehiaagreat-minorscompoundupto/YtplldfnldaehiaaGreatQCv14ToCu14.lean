/-
 QCv14ToCu14: Cv14, Cu14, joined.
-/
import Derived.Test.YtplldfnldaehiaaGreatQCm14
import Derived.Test.YtplldfnldaehiaaGreatQSz14ToLike11
import Derived.Test.YtplldfnldaehiaaGreatQAw14ToLm14
import Derived.Test.YtplldfnldaehiaaGreatQChk9ToRound8
import Derived.Test.YtplldfnldaehiaaGreatQMi14ToCj14
import Derived.Test.YtplldfnldaehiaaGreatQMn14ToAj14
import Derived.Test.YtplldfnldaehiaaGreatQEx13ToDm14

set_option maxRecDepth 100000
set_option maxHeartbeats 6400000
set_option linter.unusedVariables false
set_option linter.unusedSimpArgs false
namespace Go.Proofs.YtplldfnldaehiaaGreat
open Go.RowKit
theorem mcp_un {w : World} {va : Value} {ra ca kv : Int} {la : Nat} {xs : List Int} (ha : Raw w va ra ca la xs) (hsa : ¬ Snd ra ca la) :
  Calls Tryz.prog 3 #[va, .int .i64 kv] w (Tru w) := by
 obtain ⟨aa, qa, -, rfl, -, -, -, hla⟩ := ha
 obtain ⟨W0, hV⟩ : ∃ W0, w.alloc (.cells #[.int .i64 ra, .int .i64 ca, .slice aa la qa] 24) = W0 := ⟨_, rfl⟩
 obtain ⟨b0, sz0⟩ := alo1 w (.cells #[.int .i64 ra, .int .i64 ca, .slice aa la qa] 24)
 rw [hV] at b0 sz0
 have PA : Hid (Cel W0 w.heap.size 24 [.int .i64 ra, .int .i64 ca, .slice aa la qa]) := by
  unfold Hid; rw [← hV]
  exact Cel.new w 24 [.int .i64 ra, .int .i64 ca, .slice aa la qa]
 have G := hid b0
 clear b0 sz0
 have EV := hid hV
 clear hV
 go_enter Tryz.func3, Tryz.ntmps3
 go_wp2_with fail
 rw [EV.out]
 clear EV
 refine (awake14 _).mono ?_
 rintro e w1 ⟨rfl, b⟩
 replace PA := hid (PA.out.step b)
 replace G := hid (below_step G.out b)
 clear b
 have cA0 := PA.out.at (i := 0) rfl
 have cA1 := PA.out.at (i := 1) rfl
 have cA2 := PA.out.at (i := 2) rfl
 go_wp2_with fail
 clear cA0 cA1 cA2
 refine (com_un hsa).mono ?_
 rintro e w2 ⟨rfl, b⟩
 replace PA := hid (PA.out.step b)
 replace G := hid (below_step G.out b)
 clear b
 obtain ⟨V3, hV⟩ : ∃ V3, w2.alloc (.cells #[.int .i64 (0), .int .i64 (0), .slice none 0 0] 24) = V3 := ⟨_, rfl⟩
 obtain ⟨b, sz3⟩ := alo1 w2 (.cells #[.int .i64 (0), .int .i64 (0), .slice none 0 0] 24)
 rw [hV] at b sz3
 replace PA := hid (PA.out.step b)
 replace G := hid (below_step G.out b)
 clear b sz3
 have PC : Hid (Cel V3 w2.heap.size 24 [.int .i64 (0), .int .i64 (0), .slice none 0 0]) := by unfold Hid; rw [← hV]; exact Cel.new w2 _ _
 have cA0 := PA.out.at (i := 0) rfl
 have cA1 := PA.out.at (i := 1) rfl
 have cA2 := PA.out.at (i := 2) rfl
 rw [← hV] at cA0 cA1 cA2
 have EV : Hid (w2.alloc (.cells #[.int .i64 (0), .int .i64 (0), .slice none 0 0] 24) = V3) := hV
 clear hV
 go_wp2_with fail
 rw [EV.out]
 clear EV
 clear cA0 cA1 cA2
 refine (rcheck11).mono ?_
 rintro e w4 ⟨rfl, b⟩
 replace PA := hid (PA.out.step b)
 replace PC := hid (PC.out.step b)
 replace G := hid (below_step G.out b)
 rw [if_neg hsa]
 clear b
 go_wp2
 go_ret
 exact ⟨rfl, G.out⟩
theorem mcp_arg {w : World} {va : Value} {r c kk : Nat} {kv : Int} {xs : List Int} (ha : Mx w va r c xs kk) (hsd : Snd (r : Int) (c : Int) (r * c)) (hk : kv < 0 ∨ (r : Int) < kv ∨ (c : Int) < kv) :
  Calls Tryz.prog 3 #[va, .int .i64 kv] w (Tru w) := by
 have HS := hid hsd
 have M0 := ha
 obtain ⟨aa, qa, rfl, hr64, hc64⟩ := ha.form
 obtain ⟨la, hla⟩ : ∃ la, r * c = la := ⟨_, rfl⟩
 rw [hla] at M0 ⊢
 have ELA := hid hla
 have HSD : Hid (Snd (r : Int) (c : Int) la) := by unfold Hid; rw [← hla]; exact hsd
 clear hla hsd
 rw [show matv r c (.slice aa la qa) = .agg #[.int .i64 (r : Int), .int .i64 (c : Int), .slice aa la qa] from rfl] at M0 ⊢
 obtain ⟨W0, hV⟩ : ∃ W0, w.alloc (.cells #[.int .i64 (r : Int), .int .i64 (c : Int), .slice aa la qa] 24) = W0 := ⟨_, rfl⟩
 obtain ⟨b0, sz0⟩ := alo1 w (.cells #[.int .i64 (r : Int), .int .i64 (c : Int), .slice aa la qa] 24)
 rw [hV] at b0 sz0
 have PA : Hid (Cel W0 w.heap.size 24 [.int .i64 (r : Int), .int .i64 (c : Int), .slice aa la qa]) := by
  unfold Hid; rw [← hV]
  exact Cel.new w 24 [.int .i64 (r : Int), .int .i64 (c : Int), .slice aa la qa]
 have G := hid b0
 have MA := hid (M0.now b0)
 clear ha M0 HS
 clear b0 sz0
 have EV := hid hV
 clear hV
 go_enter Tryz.func3, Tryz.ntmps3
 go_wp2_with fail
 rw [EV.out]
 clear EV
 refine (awake14 _).mono ?_
 rintro e w1 ⟨rfl, b⟩
 replace PA := hid (PA.out.step b)
 replace MA := hid (MA.out.now b)
 replace G := hid (below_step G.out b)
 clear b
 have cA0 := PA.out.at (i := 0) rfl
 have cA1 := PA.out.at (i := 1) rfl
 have cA2 := PA.out.at (i := 2) rfl
 go_wp2_with fail
 clear cA0 cA1 cA2
 refine (com_arg MA.out hk).mono ?_
 rintro e w2 ⟨rfl, b⟩
 replace PA := hid (PA.out.step b)
 replace MA := hid (MA.out.now b)
 replace G := hid (below_step G.out b)
 clear b
 obtain ⟨V3, hV⟩ : ∃ V3, w2.alloc (.cells #[.int .i64 (0), .int .i64 (0), .slice none 0 0] 24) = V3 := ⟨_, rfl⟩
 obtain ⟨b, sz3⟩ := alo1 w2 (.cells #[.int .i64 (0), .int .i64 (0), .slice none 0 0] 24)
 rw [hV] at b sz3
 replace PA := hid (PA.out.step b)
 replace MA := hid (MA.out.now b)
 replace G := hid (below_step G.out b)
 clear b sz3
 have PC : Hid (Cel V3 w2.heap.size 24 [.int .i64 (0), .int .i64 (0), .slice none 0 0]) := by unfold Hid; rw [← hV]; exact Cel.new w2 _ _
 have cA0 := PA.out.at (i := 0) rfl
 have cA1 := PA.out.at (i := 1) rfl
 have cA2 := PA.out.at (i := 2) rfl
 rw [← hV] at cA0 cA1 cA2
 have EV : Hid (w2.alloc (.cells #[.int .i64 (0), .int .i64 (0), .slice none 0 0] 24) = V3) := hV
 clear hV
 go_wp2_with fail
 rw [EV.out]
 clear EV
 clear cA0 cA1 cA2
 refine (rcheck11).mono ?_
 rintro e w4 ⟨rfl, b⟩
 replace PA := hid (PA.out.step b)
 replace MA := hid (MA.out.now b)
 replace PC := hid (PC.out.step b)
 replace G := hid (below_step G.out b)
 rw [if_pos HSD.out]
 clear b
 have c0 := PA.out.at (i := 0) rfl
 have c1 := PA.out.at (i := 1) rfl
 by_cases h1 : kv < 0
 ·have q1d : decide (kv < 0) = true := decide_eq_true h1
  go_wp2
  go_ret
  exact ⟨rfl, G.out⟩
 ·have q1d : decide (kv < 0) = false := decide_eq_false h1
  by_cases h2 : (r : Int) < kv
  ·have q2d : decide ((r : Int) < kv) = true := decide_eq_true h2
   go_wp2
   go_ret
   exact ⟨rfl, G.out⟩
  ·have q2d : decide ((r : Int) < kv) = false := decide_eq_false h2
   have h3 : (c : Int) < kv := by omega
   have q3d : decide ((c : Int) < kv) = true := decide_eq_true h3
   go_wp2
   go_ret
   exact ⟨rfl, G.out⟩
theorem mcp_big {w : World} {va : Value} {r c k kk : Nat} {xs : List Int} (ha : Mx w va r c xs kk) (hkk : 64 * kk + 7 ≤ 4000000000) (hsd : Snd (r : Int) (c : Int) (r * c)) (hkr : k ≤ r) (hkc : k ≤ c) (hc : 64 < cho r k ∨ 64 < cho c k) :
  Calls Tryz.prog 3 #[va, .int .i64 (k : Int)] w (Tru w) := by
 have HS := hid hsd
 have M0 := ha
 obtain ⟨aa, qa, rfl, hr64, hc64⟩ := ha.form
 obtain ⟨la, hla⟩ : ∃ la, r * c = la := ⟨_, rfl⟩
 rw [hla] at M0 ⊢
 have ELA := hid hla
 have HSD : Hid (Snd (r : Int) (c : Int) la) := by unfold Hid; rw [← hla]; exact hsd
 clear hla hsd
 rw [show matv r c (.slice aa la qa) = .agg #[.int .i64 (r : Int), .int .i64 (c : Int), .slice aa la qa] from rfl] at M0 ⊢
 have q1d : decide ((k : Int) < 0) = false := decide_eq_false (by omega)
 have q2d : decide ((r : Int) < (k : Int)) = false := decide_eq_false (by omega)
 have q3d : decide ((c : Int) < (k : Int)) = false := decide_eq_false (by omega)
 obtain ⟨cm, hcm⟩ : ∃ cm, cho r k = cm := ⟨_, rfl⟩
 obtain ⟨cn, hcn⟩ : ∃ cn, cho c k = cn := ⟨_, rfl⟩
 have ECM := hid hcm
 have ECN := hid hcn
 clear hcm hcn
 obtain ⟨W0, hV⟩ : ∃ W0, w.alloc (.cells #[.int .i64 (r : Int), .int .i64 (c : Int), .slice aa la qa] 24) = W0 := ⟨_, rfl⟩
 obtain ⟨b0, sz0⟩ := alo1 w (.cells #[.int .i64 (r : Int), .int .i64 (c : Int), .slice aa la qa] 24)
 rw [hV] at b0 sz0
 have PA : Hid (Cel W0 w.heap.size 24 [.int .i64 (r : Int), .int .i64 (c : Int), .slice aa la qa]) := by
  unfold Hid; rw [← hV]
  exact Cel.new w 24 [.int .i64 (r : Int), .int .i64 (c : Int), .slice aa la qa]
 have G := hid b0
 have MA := hid (M0.now b0)
 clear ha M0 HS
 clear b0 sz0
 have EV := hid hV
 clear hV
 go_enter Tryz.func3, Tryz.ntmps3
 go_wp2_with fail
 rw [EV.out]
 clear EV
 refine (awake14 _).mono ?_
 rintro e w1 ⟨rfl, b⟩
 replace PA := hid (PA.out.step b)
 replace MA := hid (MA.out.now b)
 replace G := hid (below_step G.out b)
 clear b
 have cA0 := PA.out.at (i := 0) rfl
 have cA1 := PA.out.at (i := 1) rfl
 have cA2 := PA.out.at (i := 2) rfl
 go_wp2_with fail
 clear cA0 cA1 cA2
 refine (com_big MA.out hkk hkr hkc hc).mono ?_
 rintro e w2 ⟨rfl, b⟩
 replace PA := hid (PA.out.step b)
 replace MA := hid (MA.out.now b)
 replace G := hid (below_step G.out b)
 clear b
 obtain ⟨V3, hV⟩ : ∃ V3, w2.alloc (.cells #[.int .i64 (0), .int .i64 (0), .slice none 0 0] 24) = V3 := ⟨_, rfl⟩
 obtain ⟨b, sz3⟩ := alo1 w2 (.cells #[.int .i64 (0), .int .i64 (0), .slice none 0 0] 24)
 rw [hV] at b sz3
 replace PA := hid (PA.out.step b)
 replace MA := hid (MA.out.now b)
 replace G := hid (below_step G.out b)
 clear b sz3
 have PC : Hid (Cel V3 w2.heap.size 24 [.int .i64 (0), .int .i64 (0), .slice none 0 0]) := by unfold Hid; rw [← hV]; exact Cel.new w2 _ _
 have cA0 := PA.out.at (i := 0) rfl
 have cA1 := PA.out.at (i := 1) rfl
 have cA2 := PA.out.at (i := 2) rfl
 rw [← hV] at cA0 cA1 cA2
 have EV : Hid (w2.alloc (.cells #[.int .i64 (0), .int .i64 (0), .slice none 0 0] 24) = V3) := hV
 clear hV
 go_wp2_with fail
 rw [EV.out]
 clear EV
 clear cA0 cA1 cA2
 refine (rcheck11).mono ?_
 rintro e w4 ⟨rfl, b⟩
 replace PA := hid (PA.out.step b)
 replace MA := hid (MA.out.now b)
 replace PC := hid (PC.out.step b)
 replace G := hid (below_step G.out b)
 rw [if_pos HSD.out]
 clear b
 have cA0 := PA.out.at (i := 0) rfl
 have cA1 := PA.out.at (i := 1) rfl
 go_wp2_with fail
 clear cA0 cA1
 refine (size_any hr64 hkr).mono ?_
 rintro e w5 ⟨rfl, b⟩
 replace PA := hid (PA.out.step b)
 replace MA := hid (MA.out.now b)
 replace PC := hid (PC.out.step b)
 replace G := hid (below_step G.out b)
 rw [ECM.out]
 clear b
 by_cases h1 : 64 < cm
 ·have q4d : decide ((64 : Int) < (cm : Int)) = true := decide_eq_true (by omega)
  go_wp2
  go_ret
  exact ⟨rfl, G.out⟩
 ·have q4d : decide ((64 : Int) < (cm : Int)) = false := decide_eq_false (by omega)
  have q5d : decide ((64 : Int) < (cn : Int)) = true := decide_eq_true (by rw [ECM.out, ECN.out] at hc; omega)
  have cA0 := PA.out.at (i := 0) rfl
  have cA1 := PA.out.at (i := 1) rfl
  go_wp2_with fail
  clear cA0 cA1
  refine (size_any hc64 hkc).mono ?_
  rintro e w6 ⟨rfl, b⟩
  replace PA := hid (PA.out.step b)
  replace MA := hid (MA.out.now b)
  replace PC := hid (PC.out.step b)
  replace G := hid (below_step G.out b)
  rw [ECN.out]
  clear b
  go_wp2
  go_ret
  exact ⟨rfl, G.out⟩
theorem cho_zero14 (d : Nat) : cho d 0 = 1 := by cases d <;> rfl
theorem cho_one14 : ∀ d, cho d 1 = d
 | 0 => rfl
 | d + 1 => by
  show cho d 0 + cho d 1 = d + 1
  rw [cho_one14 d, cho_zero14]
  omega
theorem lx_none14 (n d : Nat) : lx n 0 d = [[]] := by cases d <;> rfl
theorem lx_one14 (n : Nat) : ∀ d i, d ≤ n → i < d → (lx n 1 d).getD i [] = [n - d + i]
 | 0, i, _, h => by omega
 | d + 1, i, hd, h => by
  show (((lx n 0 d).map fun l => (n - (d + 1)) :: l) ++ lx n 1 d).getD i [] = _
  rw [lx_none14]
  match i with
  | 0 => simp
  | i + 1 =>
   have e := lx_one14 n d i (by omega) (by omega)
   show (lx n 1 d).getD i [] = _
   rw [e]
   congr 1
   omega
theorem sts_one14 {n i : Nat} (h : i < n) : (sts14 n 1).getD i [] = [i] := by
 have := lx_one14 n n i (Nat.le_refl _) h
 rw [show sts14 n 1 = lx n 1 n from rfl, this]
 congr 1
 omega
theorem det_one14 (A : Nat → Nat → Int) : det 1 A = A 0 0 := by
 show su 1 (fun i => sgd i * A i 0 * det 0 (fun r c => A (skd i r) (c + 1))) = A 0 0
 simp [su, sgd, det]
theorem cpE_one14 {A : Nat → Nat → Int} {m n i j : Nat} (hi : i < m) (hj : j < n) : cpE A m n 1 i j = A i j := by
 unfold cpE
 rw [det_one14, sts_one14 hi, sts_one14 hj]
 rfl
theorem cp_one14 {m n : Nat} {zs : List Int} (h : zs.length = m * n) : zF (cho m 1) (cho n 1) (cpE (en n zs) m n 1) = zs := by
 rw [cho_one14, cho_one14]
 refine mat_ext (r := m) (c := n) (zF_len _ _ _) h fun i j hi hj => ?_
 rw [zF_at hi hj, cpE_one14 hi hj]
 rfl
theorem cp_zero14 {m n : Nat} {A : Nat → Nat → Int} : zF (cho m 0) (cho n 0) (cpE A m n 0) = [1] := by
 rw [cho_zero14, cho_zero14]
 rfl
theorem Mc.ent14 {w : World} {r c k la qa p : Nat} {aa : Option Addr} {zs : List Int} (h : Mc w (matv r c (.slice aa la qa)) r c zs k) (hp : p < r * c) :
  ∃ b off n a l cap, aa = some ⟨b, off, none⟩ ∧ p < la ∧ w.cell? ⟨b, off + p * 2, none⟩ = some (.bool n) ∧ w.cell? ⟨b, off + p * 2 + 1, none⟩ = some (.slice a l cap) ∧ Zc w (.agg #[.bool n, .slice a l cap]) (zs.getD p 0) k := by
 obtain ⟨at_, ps, h1, h2, h3, h4, h5⟩ := h
 have h1' : Value.slice aa la qa = at_ := by simp only [matv, Value.agg.injEq] at h1; simp at h1; exact h1
 subst h1'
 obtain ⟨a', c', e1, e2, e3, e4, e5⟩ := h2
 simp only [Value.slice.injEq] at e1
 obtain ⟨rfl, rfl, rfl⟩ := e1
 have hl : ps.length = r * c := by rw [h3.1, h4]
 rcases e5 with rfl | ⟨b, off, rfl, _, _, e9⟩
 ·simp at hl; omega
 ·have hq : ps[p]? = some (ps[p]'(by omega)) := List.getElem?_eq_getElem _
  have hz : zs[p]? = some (zs.getD p 0) := by simp [show p < zs.length by omega]
  have z := h3.2 p _ _ hq hz
  obtain ⟨n0, a0, l0, c0, e⟩ := z.zi.isI
  have q := e9 p _ hq
  have e' : (ps[p]'(by omega)) = (.bool n0, .slice a0 l0 c0) := e
  rw [e'] at q z
  exact ⟨b, off, n0, a0, l0, c0, rfl, by omega, q.1, q.2, z⟩
end Go.Proofs.YtplldfnldaehiaaGreat
