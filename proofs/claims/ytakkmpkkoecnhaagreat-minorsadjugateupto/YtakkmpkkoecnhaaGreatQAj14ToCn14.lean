/-
 QAj14ToCn14: Aj14, Cn14, joined.
-/
import Derived.Test.YtakkmpkkoecnhaaGreatQMi14ToCj14
import Derived.Test.YtakkmpkkoecnhaaGreatQSr13ToAd14
import Derived.Test.YtakkmpkkoecnhaaGreatQUnit9ToMWord
import Derived.Test.YtakkmpkkoecnhaaGreatQCp14

set_option maxRecDepth 100000
set_option maxHeartbeats 6400000
set_option linter.unusedVariables false
set_option linter.unusedSimpArgs false
namespace Go.Proofs.YtakkmpkkoecnhaaGreat
open Go.RowKit
theorem zhD : ∀ d k, d < k → cho d k = 0
 | 0, k + 1, _ => rfl
 | d + 1, k + 1, h => by show cho d k + cho d (k + 1) = 0; rw [zhD d k (by omega), zhD d (k + 1) (by omega)]
theorem zKH : ∀ d, cho d d = 1
 | 0 => rfl
 | d + 1 => by show cho d d + cho d (d + 1) = 1; rw [zKH d, zhD d (d + 1) (by omega)]
theorem cho_but : ∀ d, cho (d + 1) d = d + 1
 | 0 => rfl
 | d + 1 => by show cho (d + 1) d + cho (d + 1) (d + 1) = d + 1 + 1; rw [cho_but d, zKH]
theorem lx_over (n : Nat) (d k : Nat) (h : d < k) : lx n k d = [] := List.eq_nil_of_length_eq_zero (by rw [zDE, zhD d k h])
theorem zAI (n : Nat) : ∀ d, d ≤ n → lx n d d = [seqN (n - d) d]
 | 0, _ => by cases n <;> rfl
 | d + 1, h => by
  show (lx n d d).map (fun l => (n - (d + 1)) :: l) ++ lx n (d + 1) d = _
  rw [zAI n d (by omega), lx_over n d (d + 1) (by omega)]
  show [(n - (d + 1)) :: seqN (n - d) d] = [(n - (d + 1)) :: seqN (n - (d + 1) + 1) d]
  rw [show n - (d + 1) + 1 = n - d by omega]
theorem zHJ (n : Nat) : ∀ d x a, d + 1 ≤ n → x ≤ d → a < d → ((lx n d (d + 1)).getD x []).getD a 0 = n - (d + 1) + skd (d - x) a
 | d + 1, x, a, h, hx, ha => by
  have e : lx n (d + 1) (d + 1 + 1) = (lx n d (d + 1)).map (fun l => (n - (d + 1 + 1)) :: l) ++ lx n (d + 1) (d + 1) := rfl; have hl : ((lx n d (d + 1)).map (fun l => (n - (d + 1 + 1)) :: l)).length = d + 1 := by rw [List.length_map, zDE, cho_but]
  rw [e]
  by_cases q : x < d + 1
  ·have g1 : ((lx n d (d + 1)).map (fun l => (n - (d + 1 + 1)) :: l) ++ lx n (d + 1) (d + 1)).getD x [] = (n - (d + 1 + 1)) :: (lx n d (d + 1)).getD x [] := by
    have hl2 : x < (lx n d (d + 1)).length := by rw [zDE, cho_but]; exact q
    rw [List.getD_eq_getElem?_getD, List.getElem?_append_left (by rw [hl]; exact q), List.getElem?_map, List.getD_eq_getElem?_getD, List.getElem?_eq_getElem hl2]
    rfl
   rw [g1]
   match a with
   | 0 => rw [show skd (d + 1 - x) 0 = 0 from if_pos (by omega)]; rfl
   | a + 1 =>
    show ((lx n d (d + 1)).getD x []).getD a 0 = _
    rw [zHJ n d x a (by omega) (by omega) (by omega)]; unfold skd
    by_cases q2 : a < d - x
    ·rw [if_pos q2, if_pos (by omega)]; omega
    ·rw [if_neg q2, if_neg (by omega)]; omega
  ·obtain rfl : x = d + 1 := by omega
   have g1 : ((lx n d (d + 1)).map (fun l => (n - (d + 1 + 1)) :: l) ++ lx n (d + 1) (d + 1)).getD (d + 1) [] = seqN (n - (d + 1)) (d + 1) := by
    rw [List.getD_eq_getElem?_getD, List.getElem?_append_right (by omega), hl, zAI n (d + 1) (by omega)]
    simp
   rw [g1, zqE _ _ _ ha]; unfold skd; rw [if_neg (by omega)]; omega
theorem zaH {N x a : Nat} (hx : x ≤ N) (ha : a < N) : ((zbA (N + 1) N).getD x []).getD a 0 = skd (N - x) a := by
 show ((lx (N + 1) N (N + 1)).getD x []).getD a 0 = _
 rw [zHJ (N + 1) N x a (Nat.le_refl _) hx ha]; omega
theorem zOF (w : World) (k : Nat) : Zm 0 w (.agg #[.bool false, .slice none 0 0]) 0 k := ⟨false, [], none, 0, rfl, Mine.nil _ _, ⟨WF.nil, rfl⟩, fun _ => rfl, by simp [iv, val], Nat.zero_le _⟩
def ajE (A : Nat → Nat → Int) (n i j : Nat) : Int := cpE A n n (n - 1) (n - 1 - j) (n - 1 - i)
theorem zQJ {n i j : Nat} (A : Nat → Nat → Int) (hi : i < n) (hj : j < n) : adz n A i j = if (i + j) % 2 = 1 then - ajE A n i j else ajE A n i j := by
 match n with
 | N + 1 =>
  have e : ajE A (N + 1) i j = det N fun a b => A (skd j a) (skd i b) := by
   unfold ajE cpE; refine zHA fun a b ha hb => ?_
   show A (((zbA (N + 1) N).getD (N - j) []).getD a 0) (((zbA (N + 1) N).getD (N - i) []).getD b 0) = _
   rw [zaH (N := N) (by omega) ha, zaH (N := N) (by omega) hb, show N - (N - j) = j by omega, show N - (N - i) = i by omega]
  rw [adz_minor A (by omega) (by omega), e]
  by_cases q : (i + j) % 2 = 1
  ·rw [if_pos q, zjH, if_pos (by omega)]; grind
  ·rw [if_neg q, zjH, if_neg (by omega)]; grind
theorem zF_more (m n : Nat) (F : Nat → Nat → Int) : zF (m + 1) n F = zF m n F ++ (List.range n).map (F m) := by
 unfold zF; rw [Nat.succ_mul, List.range_add, List.map_append, List.map_map]
 congr 1
 refine List.map_congr_left fun t ht => ?_
 have ht' : t < n := by simpa using ht
 obtain ⟨e1, e2⟩ := zRH (i := m) ht'
 show F ((m * n + t) / n) ((m * n + t) % n) = _
 rw [e1, e2]
theorem cpL_zF (A : Nat → Nat → Int) (m n k C : Nat) : ∀ t, cpL A m n k C t 0 = zF t C (cpE A m n k)
 | 0 => by simp [cpL, zF]
 | t + 1 => by
  rw [← zRI, zF_more, ← cpL_zF A m n k C t]; unfold cpL
  simp
def agF (A : Nat → Nat → Int) (n i j r c : Nat) : Int := if r < i ∨ (r = i ∧ c < j) then adz n A r c else 0
section
variable {A : Nat → Nat → Int} {n i j r c : Nat}
theorem agF_zero : agF A n 0 0 r c = 0 := if_neg (by omega)
theorem zSI {x : Int} (hx : x = adz n A i j) : up2 (agF A n i j) i j x r c = agF A n i (j + 1) r c := by
 subst hx; unfold up2 agF
 by_cases h : r = i ∧ c = j
 ·obtain ⟨rfl, rfl⟩ := h
  rw [if_pos ⟨rfl, rfl⟩, if_pos (.inr ⟨rfl, by omega⟩)]
 ·rw [if_neg h]
  by_cases q : r < i ∨ (r = i ∧ c < j)
  ·rw [if_pos q, if_pos (by omega)]
  ·rw [if_neg q, if_neg (by omega)]
theorem agF_put2 {x y : Int} (hx : x = adz n A i j) : up2 (up2 (agF A n i j) i j y) i j x r c = agF A n i (j + 1) r c := by
 rw [← zSI hx]; unfold up2
 by_cases h : r = i ∧ c = j
 ·rw [if_pos h, if_pos h]
 ·rw [if_neg h, if_neg h, if_neg h]
theorem agF_row (hc : c < n) : agF A n i n r c = agF A n (i + 1) 0 r c := by
 unfold agF
 by_cases q : r < i ∨ (r = i ∧ c < n)
 ·rw [if_pos q, if_pos (by omega)]
 ·rw [if_neg q, if_neg (by omega)]
theorem agF_end (hr : r < n) : agF A n n 0 r c = adz n A r c := if_pos (.inl hr)
end
theorem AZ.zero {w : World} {g n k : Nat} (h : Arr w g (List.replicate (n * n) zzA)) (A : Nat → Nat → Int) : AZ w g (zF n n (agF A n 0 0)) k := by
 refine ⟨_, h, by simp [zF], fun j p z hp hz => ?_⟩; have e1 : p = zzA := List.eq_of_mem_replicate (List.mem_of_getElem? hp); have e2 : z = 0 := by
  have := List.mem_of_getElem? hz; unfold zF at this; obtain ⟨t, -, rfl⟩ := List.mem_map.1 this; exact agF_zero
 subst e1 e2; exact zOF w k
theorem OwnP.one14 {B g cap l r c m n k : Nat} {w : World} {ps : List (Value × Value)} {F : Nat → Nat → Int} (h : OwnP B w (.slice (some ⟨g, 0, none⟩) l cap) ps) (hz : Zms w ps (zF m n F) k) (hr : r < m) (hc : c < n) :
  ∃ nv av lw cv, w.cell? ⟨g, (r * n + c) * 2, none⟩ = some (.bool nv) ∧ w.cell? ⟨g, (r * n + c) * 2 + 1, none⟩ = some (.slice av lw cv) ∧ Zm 0 w (.agg #[.bool nv, .slice av lw cv]) (F r c) k := by
 have := h.at13 hz (t := r * n + c) (by rw [zEB]; exact znD hr hc)
 rwa [zTE hr hc] at this
theorem OwnP.form14 {B n : Nat} {w : World} {v : Value} {ps : List (Value × Value)} (h : OwnP B w v ps) (hl : ps.length = n) : ∃ a cap, v = .slice a n cap ∧ n ≤ cap ∧ (0 < n → ∃ g, a = some ⟨g, 0, none⟩ ∧ B ≤ g ∧ g < w.heap.size) := by
 subst hl; obtain ⟨_, ⟨q1, q2⟩ | ⟨g, cap, cur, q1, q2, q3, q4, _⟩⟩ := h
 ·rw [q2]
  exact ⟨_, _, q1, Nat.le_refl _, fun h => absurd h (by omega)⟩
 ·exact ⟨_, cap, q1, q4, fun _ => ⟨g, rfl, q2, (Array.getElem?_eq_some_iff.1 q3).1⟩⟩
open Go.RowKit Go.Shelf
attribute [local go_sem] Oper.semAt_some
theorem choose_none {w : World} : Calls Tryz.prog 46 #[.int .i64 0, .int .i64 (-1)] w fun e w' => e = .returned (.int .u64 0) ∧ w' = w := by
 have q1d : decide ((-1 : Int) < 0) = true := rfl; go_enter Tryz.func46, Tryz.ntmps46; go_wp2; go_ret; exact ⟨rfl, rfl⟩
def zbI (w : World) (n k : Int) (e : Ending) (w' : World) : Prop := ∃ bn bk, e = .returned (.func (.func 117) #[] #[.pointer (some ⟨bn, 0, none⟩), .pointer (some ⟨bk, 0, none⟩)]) ∧ Cel w' bn 3 [.int .i64 n] ∧ Cel w' bk 3 [.int .i64 k] ∧ w.heap.size ≤ bn ∧ w.heap.size ≤ bk ∧ Below w.heap.size w w'
theorem sets_int {w : World} {n k : Int} : Calls Tryz.prog 82 #[.int .i64 n, .int .i64 k] w (zbI w n k) := by
 have b0 := (ziA w (.cells #[.int .i64 n] 3) (.cells #[.int .i64 k] 3)).1; have FIN : Hid (zbI w n k (.returned (.func (.func 117) #[] #[.pointer (some ⟨w.heap.size, 0, none⟩), .pointer (some ⟨w.heap.size + 1, 0, none⟩)])) ((w.alloc (.cells #[.int .i64 n] 3)).alloc (.cells #[.int .i64 k] 3))) := by
  refine ⟨_, _, rfl, (Cel.new w 3 [.int .i64 n]).step ((Below.refl _ _).alloc (Nat.le_refl _) _), ?_, Nat.le_refl _, by omega, b0⟩; have := Cel.new (w.alloc (.cells #[.int .i64 n] 3)) 3 [.int .i64 k]
  simpa using this
 clear b0; go_enter Tryz.func82, Tryz.ntmps82; go_wp2; go_ret; exact FIN.out
theorem sets1_none {l nn bn bk : Nat} {n : Nat} {k : Int} {W : World} (hnn : 1 ≤ nn) (hn : n ≤ 64) (hk : k < 0)
  (hcn : W.cell? ⟨bn, 0, none⟩ = some (.int .i64 (n : Int))) (hck : W.cell? ⟨bk, 0, none⟩ = some (.int .i64 k)) :
  CallsIn Fence.wide nn Tryz.prog 117 #[.func (.yield l) #[] #[], .pointer (some ⟨bn, 0, none⟩), .pointer (some ⟨bk, 0, none⟩)] W fun e Y => (∃ v, e = .returned v) ∧ Y = W := by
 have q1 : ¬ (64 : Int) < (n : Int) := by omega
 have q1d : decide ((64 : Int) < (n : Int)) = false := decide_eq_false q1; have q2d : decide (k < 0) = true := decide_eq_true hk; refine callsIn_of_wp Tryz.func117 rfl trivial ?_ rfl; simp only [Tryz.ntmps117, List.size_toArray, List.length_cons, List.length_nil, Nat.reduceAdd, Nat.reduceSub, Array.replicate_succ, Array.replicate_zero, List.push_toArray, List.append_toArray, List.nil_append, List.cons_append]; gi_wp2_with fail; refine bodyPost_ret (results_none rfl _ _ _) rfl ?_; exact ⟨⟨_, rfl⟩, rfl⟩
def Cpn (w : World) (e : Ending) (w' : World) : Prop :=
 ∃ v, e = .returned (.agg #[.int .i64 0, .int .i64 0, v]) ∧ OwnP w.heap.size w' v [] ∧ Below w.heap.size w w'
theorem compound_none {w : World} {va : Value} {kk : Nat} {zs : List Int} (ha : Mx w va 0 0 zs kk) (hkk : 64 * kk + 7 ≤ 4000000000) :
  Calls Tryz.prog 47 #[va, .int .i64 (-1)] w (Cpn w) := by
 refine (callsIn_wide (n := 6)).1 ?_; have M0 := ha; obtain ⟨aa, ca, rfl, hm64, hn64⟩ := ha.form; obtain ⟨la, hla⟩ : ∃ la, 0 * 0 = la := ⟨_, rfl⟩
 rw [hla] at M0 ⊢; obtain ⟨W0, hW⟩ : ∃ W0, ((w.alloc (.cells #[.int .i64 0, .int .i64 0, .slice aa la ca] 24)).alloc (.cells #[.int .i64 (-1)] 3)).alloc mbox = W0 := ⟨_, rfl⟩
 obtain ⟨b0, sz0⟩ := zyA w (.cells #[.int .i64 0, .int .i64 0, .slice aa la ca] 24) (.cells #[.int .i64 (-1)] 3) mbox; rw [hW] at b0 sz0; have PA : Hid (Cel W0 w.heap.size 24 [.int .i64 0, .int .i64 0, .slice aa la ca]) := by
  unfold Hid; rw [← hW]; exact ((Cel.new w 24 [.int .i64 0, .int .i64 0, .slice aa la ca]).step ((Below.refl _ _).alloc (Nat.le_refl _) _)).step ((Below.refl _ _).alloc (Nat.le_refl _) _)
 have PK : Hid (Cel W0 (w.heap.size + 1) 3 [.int .i64 (-1)]) := by
  unfold Hid; rw [← hW]; have := (Cel.new (w.alloc (.cells #[.int .i64 0, .int .i64 0, .slice aa la ca] 24)) 3 [.int .i64 (-1)]).step ((Below.refl _ _).alloc (Nat.le_refl _) mbox)
  simpa using this
 have PR : Hid (Cel W0 (w.heap.size + 1 + 1) 24 [.int .i64 0, .int .i64 0, .slice none 0 0]) := by
  unfold Hid; rw [← hW]; have := Cel.new ((w.alloc (.cells #[.int .i64 0, .int .i64 0, .slice aa la ca] 24)).alloc (.cells #[.int .i64 (-1)] 3)) 24 [.int .i64 0, .int .i64 0, .slice none 0 0]
  simpa using this
 have MA := hid (M0.now b0); have G := hid b0; have HCH := hid (choose_none (w := W0)); have x1 := PA.out.at (i := 1) rfl; have x2 := PK.out.at (i := 0) rfl; rw [← hW] at x1 x2; have EW := hid hW; have SZ := hid sz0; clear ha M0 b0 sz0 hW hla; rw [show matv 0 0 (.slice aa la ca) = .agg #[.int .i64 0, .int .i64 0, .slice aa la ca] from rfl]; refine callsIn_of_wp_marks Tryz.func47 rfl trivial ?_ rfl; simp only [Tryz.ntmps47, List.size_toArray, List.length_cons, List.length_nil, Nat.reduceAdd, Nat.reduceSub, Array.replicate_succ, Array.replicate_zero, List.push_toArray, List.append_toArray, List.nil_append, List.cons_append]; gi_wp2_with fail; rw [EW.out]; clear EW x1 x2; refine ⟨trivial, (callsIn_wide.2 HCH.out).mono ?_⟩; rintro e w1 ⟨rfl, rfl⟩; obtain ⟨V1, hV1⟩ : ∃ V1, w1.alloc (.cells #[.int .i64 0, .int .i64 0, .slice none 0 0] 24) = V1 := ⟨_, rfl⟩
 obtain ⟨b1, sz1⟩ := alo1 w1 (.cells #[.int .i64 0, .int .i64 0, .slice none 0 0] 24); rw [hV1] at b1 sz1; have PL : Hid (Cel V1 w1.heap.size 24 [.int .i64 0, .int .i64 0, .slice none 0 0]) := by unfold Hid; rw [← hV1]; exact Cel.new w1 _ _
 replace PA := hid (PA.out.step b1); replace PK := hid (PK.out.step b1); replace PR := hid (PR.out.step b1); replace MA := hid (MA.out.now b1); replace G := hid (zAA G.out b1); have lzV1 : Hid (w1.heap.size < V1.heap.size) := by unfold Hid; omega
 have lz1 : Hid (w.heap.size + 1 + 1 < w1.heap.size) := by unfold Hid; have := SZ.out; omega
 have HTF := hid (zOD (kk := -1) MA.out (by omega) (by omega) (by omega) (by omega)); rw [show matv 0 0 (.slice aa la ca) = .agg #[.int .i64 0, .int .i64 0, .slice aa la ca] from rfl] at HTF; have x0 := PA.out.at (i := 0) rfl; have x1 := PA.out.at (i := 1) rfl; have x2 := PA.out.at (i := 2) rfl; have x3 := PK.out.at (i := 0) rfl; rw [← hV1] at x0 x1 x2 x3; have EV := hid hV1; clear b1 sz1 hV1 HCH; gi_wp2_with fail; rw [EV.out]; clear EV x0 x1 x2 x3; refine ⟨trivial, (callsIn_wide.2 HTF.out).mono ?_⟩; rintro e w2 ⟨vt, rfl, htf, b⟩; obtain ⟨bt, ga, gb, go, bs, os, F, d, rk, rfl, hbt, htm, htb, hrk⟩ := htf; obtain ⟨V2, hV2⟩ : ∃ V2, w2.alloc (.cells #[.pointer (some ⟨bt, 0, none⟩)] 107) = V2 := ⟨_, rfl⟩
 obtain ⟨b2, sz2⟩ := alo1 w2 (.cells #[.pointer (some ⟨bt, 0, none⟩)] 107); rw [hV2] at b2 sz2; replace PA := hid ((PA.out.step b).step b2); replace PK := hid ((PK.out.step b).step b2); replace PR := hid ((PR.out.step b).step b2); replace PL := hid ((PL.out.step b).step b2); replace G := hid (zAA (zAA G.out b) b2); have HST := hid (sets_int (w := V2) (n := 0) (k := -1)); have x0 := PA.out.at (i := 0) rfl; have x3 := PK.out.at (i := 0) rfl; rw [← hV2] at x0 x3; have EV := hid hV2; clear b b2 sz2 hV2 HTF htm htb hrk hbt MA; gi_wp2_with fail; rw [EV.out]; clear EV x0 x3; refine ⟨trivial, (callsIn_wide.2 HST.out).mono ?_⟩; rintro e w3 ⟨bn, bk, rfl, cn, ck, hbn, hbk, b⟩; replace PA := hid (PA.out.step b); replace PK := hid (PK.out.step b); replace PR := hid (PR.out.step b); replace PL := hid (PL.out.step b); replace G := hid (zAA G.out b); have CN := hid cn; have CK := hid ck; obtain ⟨ba, hba⟩ : ∃ ba, w.heap.size = ba := ⟨_, rfl⟩
 obtain ⟨bk0, hbk0⟩ : ∃ bk0, ba + 1 = bk0 := ⟨_, rfl⟩
 obtain ⟨br, hbr⟩ : ∃ br, bk0 + 1 = br := ⟨_, rfl⟩
 obtain ⟨bA, hbA⟩ : ∃ bA, w1.heap.size = bA := ⟨_, rfl⟩
 rw [hba, hbk0, hbr] at PR; rw [hba] at PA; rw [hbA] at PL; have EBA := hid hba; have O1 : Hid (ba < br ∧ br < bA ∧ bA < w3.heap.size) := by unfold Hid; have := lz1.out; have := PL.out.blk; omega
 rw [hba, hbk0, hbr, hbA]; clear HST cn ck b hbn hbk hba hbk0 hbr hbA lz1 lzV1 SZ PK; gi_wp2_with fail; refine zyI (σ := Nat × Nat) (α := Value) (by decide) rfl (enters_of Tryz.func117 (by kernel_rfl) rfl) (fun x => #[x]) (fun _ => rfl)
  (CJo w w3 ba br bA [.int .i64 0, .int .i64 0, .slice aa la ca] (fun _ _ => 0) 0 0 0 0 0 0) (CJo.own (by have := O1.out; have := EBA.out; omega)) (fun _ _ _ => False) (fun s x _ W W' row hs _ _ => hs) (fun s _ => s)
  (fun s _ _ => True) (fun h h' => trivial) (fun s W l o o' _ h1 h2 => trivial)
  (fun s gs A => False) (fun s A B gs h h1 h2 t => h2.elim) (fun s => s.2 = 0 ∧ w3.heap.size ≤ s.1) (fun s => s.2 = 0) ?ini ?it
  (fun x a' W => False) (fun x a' _ W W' row hs hg hr => hs) (fun l s x W K hj hat hK => hat.elim) (fun l s x a' W hl hr hj hat hx => hat.elim) ?done
 case ini =>
  rintro ⟨B, t⟩ ⟨rfl, hB⟩; refine ⟨hB, Nat.zero_le _, .slice none 0 0, Ty.of (Below.refl _ _), PA.out, PR.out, PL.out, ⟨[], World.ownsRow_nil _ _ _ _, rfl, fun j p z hp => by simp at hp⟩, G.out⟩
 case it =>
  intro l J' W hW hJ hJb hJs' hJ0 hY; have o := O1.out; refine (sets1_none (nn := 5) (l := l) (n := 0) (k := -1) (by decide) (by decide) (by decide) ((CN.out.step hW).at (i := 0) rfl) ((CK.out.step hW).at (i := 0) rfl)).mono fun e Y h => ?_
  obtain ⟨h1, rfl⟩ := h; exact ⟨h1, (Y.heap.size, 0), rfl, hJ0 _ ⟨rfl, hW.size⟩⟩
 case done =>
  rintro D ⟨B, t⟩ W hDs hl ⟨hB, htR, v, hcp⟩ hD; dsimp only at hl hB htR hcp; subst hl; have o := O1.out; obtain ⟨ps, hps, hzs⟩ := hcp.own; have hps0 : ps = [] := List.eq_nil_of_length_eq_zero (by rw [hzs.1]; simp [cpL]); subst hps0; obtain ⟨av, lv, cv, hv2⟩ : ∃ av lv cv, v = .slice av lv cv := by
   obtain ⟨_, ⟨r2, _⟩ | ⟨g2, cap, cur, r2, r3, r4, r5⟩⟩ := hps
   ·exact ⟨_, _, _, r2⟩
   ·exact ⟨_, _, _, r2⟩
  subst hv2; have x0 := hcp.all.at (i := 0) rfl; have x1 := hcp.all.at (i := 1) rfl; have x2 := hcp.all.at (i := 2) rfl; have r0 := hcp.r.at (i := 0) rfl; have r1 := hcp.r.at (i := 1) rfl; have r2 := hcp.r.at (i := 2) rfl; have f0 := hcp.r.fz 0; have f1 := hcp.r.fz 1; have f2 := hcp.r.fz 2; obtain ⟨U, hU⟩ : ∃ U, Go.Proofs.YtakkmpkkoecnhaaGreat.put3 W br (.int .i64 0) (.int .i64 0) (.slice av lv cv) = U := ⟨_, rfl⟩
  have tyU : Ty 24 W U := by rw [← hU]; exact hcp.r.ty3 _ _ _
  have hK1 : U.heap[D]? = some (.deferred (some [])) := by
   rw [← hU]; exact (((KeepsOthers.setCell W ⟨br, 0, none⟩ _).trans (KeepsOthers.setCell _ ⟨br, 1, none⟩ _)).trans (KeepsOthers.setCell _ ⟨br, 2, none⟩ _)).same D _ hD rfl
  have d2 : Cel U br 24 [.int .i64 0, .int .i64 0, .slice av lv cv] := by rw [← hU]; exact hcp.r.put3 _ _ _
  have b2 : Below w.heap.size w U := by rw [← hU]; exact zOA hcp.bw (by have := EBA.out; omega) _ _ _
  have kg := zQB (grownBy_putObj' U D (.deferred none)) (fun r e => by cases e; exact ⟨_, hK1, rfl⟩); have PP := hid (kg.cel d2); have BB := b2.trans (belowK_b (w := w) (Nat.le_refl _) _ D _ (.deferred none) (by have := EBA.out; omega) hK1 rfl rfl); have HZ : Hid (Cpn w (.returned (.agg #[.int .i64 0, .int .i64 0, .slice av lv cv])) (U.putObj D (.deferred none))) := by
   exact ⟨_, rfl, zzD (hps.ty14 tyU (by decide) |>.kc14 kg) (by have := EBA.out; omega), BB⟩
  have HK := hid hK1; have EU : Hid (((W.setCell ⟨br, 0, none⟩ (.int .i64 0)).setCell ⟨br, 1, none⟩ (.int .i64 0)).setCell ⟨br, 2, none⟩ (.slice av lv cv) = U) := hU; clear hcp hps hzs hU hK1 d2 b2 kg BB hD tyU; gi_wp2; rw [EU.out]; refine ⟨by simp, .inl ⟨_, _, rfl, run_takeDeferred HK.out, ?_⟩⟩; exact ⟨_, zLG Tryz.results47 PP.out _ (by rfl), HZ.out⟩
def Cpa (w : World) (A : Nat → Nat → Int) (n KW : Nat) (e : Ending) (w' : World) : Prop :=
 ∃ v ps, e = .returned (.agg #[.int .i64 (n : Int), .int .i64 (n : Int), v]) ∧ OwnP w.heap.size w' v ps ∧ Zms w' ps (zF n n (cpE A n n (n - 1))) KW ∧ Below w.heap.size w w'
theorem compound_adj {w : World} {va : Value} {n kk : Nat} {zs : List Int} (ha : Mx w va n n zs kk) (hkk : 64 * kk + 7 ≤ 4000000000) :
  Calls Tryz.prog 47 #[va, .int .i64 ((n : Int) - 1)] w (Cpa w (en n zs) n (64 * kk + 7)) := by
 match n, ha with
 | 0, ha =>
  refine (compound_none ha hkk).mono ?_; rintro e w' ⟨v, rfl, h1, h2⟩; exact ⟨v, [], rfl, h1, ⟨by simp [zF], fun j p z hp => by simp at hp⟩, h2⟩
 | N + 1, ha =>
  obtain ⟨_, _, _, hm64, _⟩ := ha.form; have := compound_any (k := N) ha hkk (by omega) (by omega) (by rw [cho_but]; exact hm64) (by rw [cho_but]; exact hm64); rw [show ((N : Nat) : Int) = ((N + 1 : Nat) : Int) - 1 by omega] at this; refine this.mono ?_; rintro e w' ⟨v, ps, rfl, h1, h2, h3⟩; rw [cpL_zF] at h2; rw [cho_but] at h2 ⊢; exact ⟨v, ps, rfl, h1, h2, h3⟩
end Go.Proofs.YtakkmpkkoecnhaaGreat
