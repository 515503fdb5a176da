/-
 QGi10ToGather8: Gi10, Cx16, Gather8, joined.
-/
import Derived.Test.YtnpcfohimlfbdaaGreatQPickB9ToSd13
import Derived.Deep.AppendLies
import Derived.Test.YtnpcfohimlfbdaaGreatQWm16
import Derived.Test.YtnpcfohimlfbdaaGreatQExact0ToZlaw0
import Derived.Test.YtnpcfohimlfbdaaGreatQAlikeToOpenV8

set_option maxRecDepth 100000
set_option maxHeartbeats 6400000
set_option linter.unusedVariables false
set_option linter.unusedSimpArgs false
namespace Go.Proofs.YtnpcfohimlfbdaaGreat
open Go.RowKit

def wi10 (xs : List Int) : List Value := xs.map (Value.int .i64)
def RowI10 (w : World) (g : Nat) (L : List Value) : Prop := w.heap[g]? = some (.cells L.toArray 3 (0, 0))
theorem RowI10.lt {w : World} {g : Nat} {L : List Value} (h : RowI10 w g L) : g < w.heap.size := (Array.getElem?_eq_some_iff.1 h).1
theorem RowI10.num {w : World} {g : Nat} {xs : List Int} {r : List Value} (h : RowI10 w g (wi10 xs ++ r)) {i : Nat} (hi : i < xs.length) : w.cell? ⟨g, i, none⟩ = some (.int .i64 xs[i]) := by
 unfold RowI10 at h
 have h1 : i < (wi10 xs ++ r).length := by simp [wi10]; omega
 have h2 : (wi10 xs ++ r)[i] = .int .i64 xs[i] := by
  rw [List.getElem_append_left (by simp [wi10]; exact hi)]
  simp [wi10]
 have h3 : (wi10 xs ++ r)[i]? = some (.int .i64 xs[i]) := by rw [List.getElem?_eq_getElem h1, h2]
 simpa [World.cell?, h] using h3
theorem RowI10.in9 {w : World} {g cap : Nat} {ds : List Int} {r : List Value} (h : RowI10 w g (wi10 ds ++ r)) (hc : ds.length ≤ cap) (hl : ds.length ≤ 1048576) : In9 w (.slice (some ⟨g, 0, none⟩) ds.length cap) ds :=
 ⟨_, cap, rfl, hc, hl, .inr ⟨g, 0, rfl, h.lt, fun j hj => by rw [Nat.zero_add]; exact h.num hj⟩⟩
theorem Tryz.infoI10 : (Tryz.prog.info? 3).map (fun i => (i.zero, i.size, i.bytes)) = some (some (.int .i64 0), 1, 8) := by kernel_rfl
def Itr10 (B : Nat) (w : World) (v : Value) (ds : List Int) : Prop := w.ownsRow B 3 1 v ds.length (wi10 ds)
theorem Itr10.nil (B : Nat) (w : World) : Itr10 B w (.slice none 0 0) [] := World.ownsRow_nil _ _ _ _
theorem Itr10.now {B : Nat} {w w' : World} {v : Value} {ds : List Int} (h : Itr10 B w v ds) (hb : Below w.heap.size w w') : Itr10 B w' v ds := by
 obtain ⟨q1, q2 | ⟨g, cap, cur, q2, q3, q4, q5⟩⟩ := h
 ·exact ⟨q1, .inl q2⟩
 ·exact ⟨q1, .inr ⟨g, cap, cur, q2, q3, (hb.block g (Array.getElem?_eq_some_iff.1 q4).1).trans q4, q5⟩⟩
theorem Itr10.row {B : Nat} {w : World} {v : Value} {ds : List Int} (h : Itr10 B w v ds) (hn : 0 < ds.length) : ∃ g cap rest, v = .slice (some ⟨g, 0, none⟩) ds.length cap ∧ B ≤ g ∧ RowI10 w g (wi10 ds ++ rest) ∧ ds.length ≤ cap := by
 obtain ⟨q1, ⟨q2, q3⟩ | ⟨g, cap, cur, q2, q3, q4, q5, q6, q7, q8⟩⟩ := h
 ·omega
 ·rw [Nat.mul_one] at q7 q8
  refine ⟨g, cap, cur.toList.drop ds.length, q2, q3, ?_, q5⟩
  unfold RowI10
  rw [← q8, List.take_append_drop]
  simpa using q4
theorem Itr10.in9 {B : Nat} {w : World} {v : Value} {ds : List Int} (h : Itr10 B w v ds) (hl : ds.length ≤ 1048576) : In9 w v ds := by
 by_cases hn : 0 < ds.length
 ·obtain ⟨g, cap, rest, rfl, _, q, qc⟩ := h.row hn
  exact q.in9 qc hl
 ·obtain rfl : ds = [] := List.eq_nil_of_length_eq_zero (by omega)
  obtain ⟨q1, ⟨q2, q3⟩ | ⟨g, cap, cur, q2, _, _, q5, _⟩⟩ := h
  ·subst q2
   exact ⟨none, 0, rfl, Nat.le_refl _, hl, .inl rfl⟩
  ·subst q2
   exact ⟨_, cap, rfl, Nat.zero_le _, hl, .inl rfl⟩
theorem head_add10 (g j : Nat) : (⟨g, 0, none⟩ : Addr).add j = ⟨g, j, none⟩ := by unfold Addr.add; split <;> simp_all
theorem natv_succ (t : Nat) : natv (List.range t) ++ [(t : Int)] = natv (List.range (t + 1)) := by simp [natv, List.range_succ]

/-- The characteristic polynomials of the first rows and columns, as the program makes them. -/
def chL (n : Nat) (A : List Int) : Nat → List Int
 | 0 => [1]
 | k + 1 => womL n k A (chL n A k)
theorem chL_length {n : Nat} {A : List Int} : ∀ k, (chL n A k).length = k + 1
 | 0 => rfl
 | k + 1 => by
  show (womL n k A (chL n A k)).length = _
  unfold womL
  rw [wmS_length, mulP_length, chL_length k]
  simp
theorem wmS_ge {M : List Int} {D : Nat → Int} {i t : Nat} (hi : i ≤ t) (ht : t < M.length) : (wmS M D i).getD t 0 = M.getD t 0 := by
 have h : ¬ t < i := by omega
 simp [wmS, ht, h]
theorem chL_last {n : Nat} {A : List Int} : ∀ k, (chL n A k).getD k 0 = 1
 | 0 => rfl
 | k + 1 => by
  show (womL n k A (chL n A k)).getD (k + 1) 0 = 1
  have hl := chL_length (n := n) (A := A) k
  have ih := chL_last (n := n) (A := A) k
  generalize chL n A k = P at *
  have hM : (mulP P [-(A.getD (k * n + k) 0), 1]).length = k + 2 := by rw [mulP_length, hl]; simp
  unfold womL
  have e1 : (wmS (mulP P [-(A.getD (k * n + k) 0), 1]) (wmD n k A P) k).getD (k + 1) 0 = (mulP P [-(A.getD (k * n + k) 0), 1]).getD (k + 1) 0 := wmS_ge (by omega) (by omega)
  rw [e1]
  unfold mulP
  rw [coL_getD (by rw [hl]; simp)]
  unfold cfP
  rw [hl, if_neg (by omega), Int.add_zero, su_one (i := k) (by omega) (fun a ha hne => by rw [if_neg (fun h => by have := h.2; simp at this; omega)])]
  rw [if_pos ⟨by omega, by show k + 1 - k < 2; omega⟩, ih, show k + 1 - k = 1 by omega]
  simp
theorem Itr10.own_lt {B : Nat} {w : World} {v : Value} {ds : List Int} (h : Itr10 B w v ds) : ∀ f, v.ownBlock = some f → f < w.heap.size := fun f e => by
 obtain ⟨q1, ⟨q2, _⟩ | ⟨g, cap, cur, q2, q3, q4, q5⟩⟩ := h
 ·rw [q2] at e; cases e
 ·rw [q2] at e
  obtain rfl : g = f := by simpa [Value.ownBlock] using e
  exact (Array.getElem?_eq_some_iff.1 q4).1
theorem wpList_append_itr16 (w : World) {ops : Array Oper} {rest : List Oper} {o : Oper} {a : Act} {Q : Exit → Act → World → Prop}
  (hgd : o.guard = none) (s x : Operand) (hop : o.op = .call { callee := .builtin .append, args := #[s, x], argTypes := #[78, 78] })
  (B : Nat) (v : Value) (L : List Int) (c : Int) (hs : a.eval s = v) (hB : Itr10 B w v L) (g : Nat) (hx : a.eval x = .slice (some ⟨g, 0, none⟩) 1 1) (hc : w.cell? ⟨g, 0, none⟩ = some (.int .i64 c)) (hlen : L.length ≤ 1000000000) (hBs : B ≤ w.heap.size)
  (hK : ∀ a' cap' w', Hid (Itr10 B w' (.slice a' (L.length + 1) cap') (L ++ [c])) → Hid (Below B w w') → Hid (w.grownBy w' v.ownBlock) → wpList Tryz.prog ops Q rest (a.put o.dst (.slice a' (L.length + 1) cap')) w') :
  wpList Tryz.prog ops Q (o :: rest) a w := by
 obtain ⟨i, hi, hz, hsz, hby⟩ := info_parts Tryz.infoI10
 refine wpList_append_lies w hgd s x 78 hop B 3 i (.int .i64 0) 1 8 Tryz.underlying78 hi hz hsz hby rfl (by omega) v L.length (wi10 L) hs hB ⟨g, 0, none⟩ 1 1 [.int .i64 c] hx rfl ?_ ?_ (by omega) (by unfold maxLen; omega) (by omega) hBs w.heap.size rfl ?_
 ·intro j u' hj
  match j, hj with
  | 0, hj => simp at hj; subst hj; rw [head_add10]; exact hc
 ·intro u' hu'
  simp at hu'
  subst hu'
  rfl
 ·intro g' cap' w' k1 k2 k3 k4
  refine hK _ _ w' ?_ ?_ k2
  ·unfold Hid Itr10
   have e : wi10 (L ++ [c]) = wi10 L ++ [.int .i64 c] := by simp [wi10]
   rw [e, List.length_append, List.length_singleton]
   exact k1
  ·refine ⟨k2.os, k2.tape, k2.output, k2.size, fun k hk => k2.block k (by omega) (fun e => ?_)⟩
   obtain ⟨_, ⟨q, _⟩ | ⟨g1, cap1, cur, q, q3, _⟩⟩ := hB
   ·rw [q] at e; cases e
   ·rw [q] at e
    obtain rfl : k = g1 := by simpa [Value.ownBlock] using e
    omega
/-- One integer in an array of its own. -/
theorem allz_one {w : World} {g k : Nat} {n0 : Bool} {a0 : Option Addr} {l0 c0 : Nat} {z0 : Int} (d : Cel w g 29 [.bool n0, .slice a0 l0 c0]) (h0 : Zc w (.agg #[.bool n0, .slice a0 l0 c0]) z0 k) : AllZ w g [z0] k := by
 refine ⟨[(.bool n0, .slice a0 l0 c0)], ⟨d, fun p hp => ?_⟩, rfl, fun j p z hp hz => ?_⟩
 ·simp at hp; subst hp; exact ⟨_, _, _, _, rfl⟩
 ·match j, hp, hz with
  | 0, hp, hz => simp at hp hz; subst hp hz; exact h0
def ChH (W0 : World) (n : Nat) (A : List Int) (S gk : Nat) (s3 s4 s10 : Value) (wx : World) : Prop :=
 ∃ (k g cf : Nat) (af : Option Addr), s10 = .int .i64 (k : Int) ∧ k ≤ n ∧ gk = n - k ∧ s3 = .slice (some ⟨g, 0, none⟩) (k + 1) (k + 1) ∧ s4 = .slice af k cf ∧ AllZ wx g (chL n A k) (1 + k * S) ∧ W0.heap.size ≤ g ∧ Itr10 W0.heap.size wx (.slice af k cf) (natv (List.range k)) ∧ Below W0.heap.size W0 wx
/-- A list of so many in an array that the call made. -/
def ListN (w : World) (n : Nat) (zs : List Int) (k : Nat) (e : Ending) (w' : World) : Prop := ∃ g, e = .returned (.slice (some ⟨g, 0, none⟩) n n) ∧ w.heap.size ≤ g ∧ AllZ w' g zs k ∧ Below w.heap.size w w'
theorem chr_any {w : World} {av : Value} {n ka : Nat} {A : List Int} (hA : Mx w av n n A ka) (hka : 1 ≤ ka) (hk : ka ≤ 4000000000) :
  Calls Tryz.prog 39 #[av] w (ListN w (n + 1) (chL n A n) (1 + n * (66 * (ka + 65)))) := by
 have M0 := hA
 obtain ⟨aa, ca, rfl, hn64, -⟩ := hA.form
 obtain ⟨la, hla⟩ : ∃ la, n * n = la := ⟨_, rfl⟩
 rw [hla] at M0 ⊢
 obtain ⟨S, hS⟩ : ∃ S, 66 * (ka + 65) = S := ⟨_, rfl⟩
 rw [hS]
 have ES := hid hS
 have HKA := hid hka
 have HS2 : Hid (S ≤ 264000004290) := by unfold Hid; omega
 obtain ⟨W0, hW⟩ : ∃ W0, w.alloc (matO n n (.slice aa la ca)) = W0 := ⟨_, rfl⟩
 obtain ⟨b0, sz0⟩ := alo1 w (matO n n (.slice aa la ca))
 rw [hW] at b0 sz0
 have PA : Hid (Cel W0 w.heap.size 24 (matc n n (.slice aa la ca))) := by unfold Hid; rw [← hW]; exact Cel.new w _ _
 have MA := hid (M0.now b0)
 have G := hid b0
 have EW := hid hW
 clear hA M0 b0 sz0 hW hla hka hk hS
 go_enter Tryz.func39, Tryz.ntmps39
 go_wp2_with fail
 rw [EW.out]
 clear EW
 refine (of_z (by decide) (by decide) W0).mono ?_
 rintro e w1 ⟨r1, rfl, m, b⟩
 obtain ⟨no, xo, ao, co, rfl⟩ := m.parts
 obtain ⟨lo, hlo⟩ : ∃ lo, xo.length = lo := ⟨_, rfl⟩
 rw [hlo] at m ⊢
 obtain ⟨V1, hV⟩ : ∃ V1, w1.alloc (.cells #[.bool no, .slice ao lo co] 29) = V1 := ⟨_, rfl⟩
 obtain ⟨b1, sz1⟩ := alo1 w1 (.cells #[.bool no, .slice ao lo co] 29)
 rw [hV] at b1 sz1
 have d1 : Cel V1 w1.heap.size 29 [.bool no, .slice ao lo co] := by rw [← hV]; exact Cel.new w1 _ _
 have H0 : Hid (ChH W0 n A S n (.slice (some ⟨w1.heap.size, 0, none⟩) 1 1) (.slice none 0 0) (.int .i64 0) V1) := ⟨0, w1.heap.size, 0, none, rfl, Nat.zero_le _, by omega, rfl, rfl, (allz_one d1 (m.zc.now b1)).more (by omega), b.size, Itr10.nil _ _, below_step b b1⟩
 have PA1 := hid ((PA.out.step b).step b1)
 have x0 := PA1.out.at (i := 0) rfl
 rw [← hV] at x0
 have EV := hid hV
 clear m b b1 sz1 hV d1 hlo PA1
 go_wp2_with fail
 rw [EV.out]
 clear EV x0
 go_loopg [3, 4, 10] n (fun gk s3 s4 s10 wx => ChH W0 n A S gk s3 s4 s10 wx)
 case atStart => exact H0.out
 case round =>
  clear H0
  obtain ⟨k, g, cf, af, rfl, hkn, hg, rfl, rfl, haz, hgw, hit, hB⟩ := hrel
  have AZ := hid haz
  have HGW := hid hgw
  have IT := hid hit
  have B := hid hB
  have HG := hid hg
  clear haz hgw hit hB hg
  by_cases hlt : k < n
  ·have hlt' : (k : Int) < (n : Int) := by omega
   have hle : k * S ≤ 64 * S := Nat.mul_le_mul_right _ (by omega)
   have hks : 1 + k * S + S = 1 + (k + 1) * S := by rw [Nat.add_mul, Nat.one_mul]; omega
   have HC := hid (wom_any (AZ.out.zl (by rw [chL_length]; omega) (chL_length k)) (chL_last k) (MA.out.now B.out) (IT.out.in9 (by simp [natv]; omega)) hlt HKA.out (by rw [ES.out]; have := HS2.out; omega))
   rw [ES.out, hks] at HC
   have PA1 := hid (PA.out.step B.out)
   have x0 := PA1.out.at (i := 0) rfl
   have x1 := PA1.out.at (i := 1) rfl
   have x2 := PA1.out.at (i := 2) rfl
   have HOW := hid IT.out.own_lt
   have HMM : Hid (n - (k + 1) < gk) := by unfold Hid; rw [HG.out]; omega
   have hwk := wrapI9 (i := k) (by omega)
   clear hle hks HG PA1
   go_wp2_with fail
   clear x0 x1 x2
   refine HC.out.mono ?_
   rintro e w2 ⟨g2, rfl, hg2, hz2, b, hf2⟩
   obtain ⟨V, hV⟩ : ∃ V, w2.alloc (.cells #[.int .i64 (k : Int)] 3) = V := ⟨_, rfl⟩
   obtain ⟨bv, szv⟩ := alo1 w2 (.cells #[.int .i64 (k : Int)] 3)
   rw [hV] at bv szv
   have hcell : V.cell? ⟨w2.heap.size, 0, none⟩ = some (.int .i64 (k : Int)) := by rw [← hV]; exact (Cel.new w2 3 [.int .i64 (k : Int)]).at (i := 0) rfl
   have HCL := hid hcell
   have ITV := hid ((IT.out.now b).now bv)
   have AZV := hid (hz2.step bv)
   have FAV := hid (hf2.step bv)
   have BV := hid (below_step B.out (below_step b bv))
   have HG2 := hid hg2
   have EV := hid hV
   have NL : Hid ((natv (List.range k)).length = k) := by unfold Hid; simp [natv]
   have hk0 : (natv (List.range k)).length ≤ 1000000000 := by rw [NL.out]; omega
   clear hcell hz2 hf2 b bv szv hV hg2 HC AZ
   go_wp2_with (at_builtin; rw [EV.out]; refine wpList_append_itr16 V rfl (.tmp 17) (.tmp 19) rfl W0.heap.size (.slice af k cf) (natv (List.range k)) (k : Int) rfl ITV.out w2.heap.size rfl HCL.out hk0 BV.out.size ?_)
   intro a3 cap3 w3 hi3 hb3 hg3
   obtain ⟨hz3, -⟩ := AZV.out.grown FAV.out hg3.out (fun f e => HOW.out f e) HG2.out
   have hi4 := hi3.out
   rw [natv_succ] at hi4
   try rw [NL.out] at hi4
   try rw [NL.out]
   have HN1 : Hid (ChH W0 n A S (n - (k + 1)) (.slice (some ⟨g2, 0, none⟩) (k + 2) (k + 2)) (.slice a3 (k + 1) cap3) (.int .i64 ((k + 1 : Nat) : Int)) w3) := ⟨k + 1, g2, cap3, a3, rfl, by omega, rfl, rfl, rfl, hz3, Nat.le_trans B.out.size HG2.out, hi4, BV.out.trans hb3.out⟩
   clear hz3 hi3 hi4 hb3 hg3 AZV FAV BV ITV HCL EV hk0 IT B HOW NL HG2
   go_wp2_with fail
   go_roundg (n - (k + 1))
   case rel => exact HN1.out
   case measure => exact HMM.out
  ·have hlt' : ¬ (k : Int) < (n : Int) := by omega
   obtain rfl : k = n := by omega
   have FIN : Hid (ListN w (k + 1) (chL k A k) (1 + k * S) (.returned (.slice (some ⟨g, 0, none⟩) (k + 1) (k + 1))) wr) := ⟨g, rfl, Nat.le_trans G.out.size HGW.out, AZ.out, below_step G.out B.out⟩
   clear AZ HGW IT B HG
   go_wp2
   go_ret
   exact FIN.out

theorem Tryz.infoZ8 : (Tryz.prog.info? 29).map (fun i => (i.zero, i.size, i.bytes)) = some (some (.agg #[.bool false, .slice none 0 0]), 2, 32) := by kernel_rfl
theorem head_add8 (g j : Nat) : (⟨g, 0, none⟩ : Addr).add j = ⟨g, j, none⟩ := by unfold Addr.add; split <;> simp_all
/-- The words of an integer lie in no row of integers. -/
theorem zm_grown {B base n k : Nat} {w w' : World} {u v : Value} {z : Int} {Us : List Value} (h : Zm B w u z k) (ho : w.ownsRow base 29 2 v n Us) (hg : w.grownBy w' v.ownBlock) : Zm B w' u z k := by
 obtain ⟨n1, zs, a, c, e, hm, rest⟩ := h
 refine ⟨n1, zs, a, c, e, ?_, rest⟩
 obtain ⟨hw, h | ⟨g, r, cap, h1, h2, h3, h4, h5, h6⟩⟩ := hm
 ·exact ⟨hw, .inl h⟩
 ·refine ⟨hw, .inr ⟨g, r, cap, h1, h2, h3, h4, h5, (hg.block g h6.lt fun e => ?_).trans h6⟩⟩
  obtain ⟨_, ⟨q, _⟩ | ⟨g', cap', cur, q, _, q4, _⟩⟩ := ho
  ·rw [q] at e; cases e
  ·rw [q] at e
   simp only [Value.ownBlock, Option.some.injEq] at e
   subst e
   have := h6.symm.trans q4
   simp at this
/-- The slice value v gathers the integers zs, each in least form with memory of its own; its row lies from block B on. -/
def GatZ (B : Nat) (w : World) (v : Value) (zs : List Int) (k : Nat) : Prop :=
 ∃ Us : List Value, w.ownsRow B 29 2 v zs.length Us ∧ ∀ j z, zs[j]? = some z → ∃ x y, Us[2 * j]? = some x ∧ Us[2 * j + 1]? = some y ∧ Zm 0 w (.agg #[x, y]) z k
theorem GatZ.now {B k : Nat} {w w' : World} {v : Value} {zs : List Int} (h : GatZ B w v zs k) (hb : Below w.heap.size w w') : GatZ B w' v zs k := by
 obtain ⟨Us, h1, h3⟩ := h
 refine ⟨Us, ?_, fun j z hz => ?_⟩
 ·obtain ⟨q1, q2 | ⟨g, cap, cur, q2, q3, q4, q5⟩⟩ := h1
  ·exact ⟨q1, .inl q2⟩
  ·exact ⟨q1, .inr ⟨g, cap, cur, q2, q3, (hb.block g (Array.getElem?_eq_some_iff.1 q4).1).trans q4, q5⟩⟩
 ·obtain ⟨x, y, e1, e2, e3⟩ := h3 j z hz
  exact ⟨x, y, e1, e2, e3.now hb⟩
theorem GatZ.form {B k : Nat} {w : World} {v : Value} {zs : List Int} (h : GatZ B w v zs k) : ∃ a cap, v = .slice a zs.length cap ∧ zs.length ≤ cap := by
 obtain ⟨Us, ⟨q1, ⟨q2, q3⟩ | ⟨g, cap, cur, q2, q3, q4, q5, q6⟩⟩, h3⟩ := h
 ·exact ⟨none, 0, by rw [q2, q3], by omega⟩
 ·exact ⟨_, cap, q2, q5⟩
/-- As a list that may be read. -/
theorem GatZ.zl {B k : Nat} {w : World} {v : Value} {zs : List Int} (h : GatZ B w v zs k) (hl : zs.length ≤ 1048576) : Zl w v zs k := by
 obtain ⟨Us, h1, h3⟩ := h
 have h1' := h1
 obtain ⟨q1, ⟨q2, q3⟩ | ⟨g, cap, cur, q2, q3, q4, q5, q6⟩⟩ := h1
 ·exact ⟨none, 0, by rw [q2, q3], by omega, hl, .inl (List.eq_nil_of_length_eq_zero q3)⟩
 ·refine ⟨_, cap, q2, q5, hl, .inr ⟨g, 0, rfl, (Array.getElem?_eq_some_iff.1 q4).1, fun j hj => ?_⟩⟩
  obtain ⟨x, y, e1, e2, e3⟩ := h3 j _ (List.getElem?_eq_getElem hj)
  have c0 := World.ownsRow.cells h1' (g := g) (by rw [q2]; rfl) _ _ e1
  have c1 := World.ownsRow.cells h1' (g := g) (by rw [q2]; rfl) _ _ e2
  rw [head_add8] at c0 c1
  exact ⟨x, y, by rw [Nat.zero_add]; exact c0, by rw [Nat.zero_add]; exact c1, e3.zi⟩
theorem wpList_append_int (w : World) {ops : Array Oper} {rest : List Oper} {o : Oper} {a : Act} {Q : Exit → Act → World → Prop}
  (hgd : o.guard = none) (s x : Operand) (hop : o.op = .call { callee := .builtin .append, args := #[s, x], argTypes := #[22, 22] })
  (B k : Nat) (v x0 x1 : Value) (zs : List Int) (z : Int) (hs : a.eval s = v) (hB : GatZ B w v zs k) (g : Nat) (hx : a.eval x = .slice (some ⟨g, 0, none⟩) 1 1) (hc0 : w.cell? ⟨g, 0, none⟩ = some x0) (hc1 : w.cell? ⟨g, 1, none⟩ = some x1) (hu : Zm 0 w (.agg #[x0, x1]) z k) (hlen : zs.length ≤ 1000000000) (hBs : B ≤ w.heap.size)
  (hK : ∀ a' cap' w', Hid (GatZ B w' (.slice a' (zs.length + 1) cap') (zs ++ [z]) k) → Hid (∀ u z k, Zm 0 w u z k → Zm 0 w' u z k) → Hid (∀ b x y, Duo w b x y → v.ownBlock ≠ some b → Duo w' b x y) → Hid (Below B w w') → wpList Tryz.prog ops Q rest (a.put o.dst (.slice a' (zs.length + 1) cap')) w') :
  wpList Tryz.prog ops Q (o :: rest) a w := by
 obtain ⟨i, hi, hz, hsz, hby⟩ := info_parts Tryz.infoZ8
 obtain ⟨Us, h1, h3⟩ := hB
 obtain ⟨nx, xs, ax, cx, e, _⟩ := id hu
 obtain ⟨rfl, rfl⟩ : x0 = .bool nx ∧ x1 = .slice ax xs.length cx := by
  have : #[x0, x1] = #[Value.bool nx, Value.slice ax xs.length cx] := by simpa using e
  simpa using this
 refine wpList_append_lies w hgd s x 22 hop B 29 i (.agg #[.bool false, .slice none 0 0]) 2 32 Tryz.underlying22 hi hz hsz hby rfl (by omega) v zs.length Us hs h1 ⟨g, 0, none⟩ 1 1 [.bool nx, .slice ax xs.length cx] hx rfl ?_ ?_ (by omega) (by unfold maxLen; omega) (by omega) hBs w.heap.size rfl ?_
 ·intro j u' hj
  match j, hj with
  | 0, hj => simp at hj; subst hj; rw [head_add8]; exact hc0
  | 1, hj => simp at hj; subst hj; rw [head_add8]; exact hc1
 ·intro u' hu'
  simp at hu'
  rcases hu' with rfl | rfl <;> rfl
 ·intro g' cap' w' k1 k2 k3 k4
  have keep : ∀ u z k, Zm 0 w u z k → Zm 0 w' u z k := fun u z k h => zm_grown h h1 k2
  have hUl := h1.1
  refine hK _ _ w' ⟨Us ++ [.bool nx, .slice ax xs.length cx], by rw [List.length_append]; exact k1, fun j z' hz' => ?_⟩ keep (fun b x y hd hne => (k2.block b (Array.getElem?_eq_some_iff.1 (show w.heap[b]? = _ from hd)).1 (fun e => hne e.symm)).trans hd) ?_
  ·rcases Nat.lt_or_ge j zs.length with q | q
   ·rw [List.getElem?_append_left q] at hz'
    obtain ⟨x, y, e1, e2, e3⟩ := h3 j z' hz'
    exact ⟨x, y, by rw [List.getElem?_append_left (by omega)]; exact e1, by rw [List.getElem?_append_left (by omega)]; exact e2, keep _ _ _ e3⟩
   ·have hj : j = zs.length := by
     have := (List.getElem?_eq_some_iff.1 hz').1
     simp at this
     omega
    subst hj
    rw [List.getElem?_append_right (by omega)] at hz'
    simp only [Nat.sub_self, List.getElem?_cons_zero, Option.some.injEq] at hz'
    subst hz'
    refine ⟨_, _, ?_, ?_, keep _ _ _ hu⟩
    ·rw [List.getElem?_append_right (by omega), show 2 * zs.length - Us.length = 0 by omega]; rfl
    ·rw [List.getElem?_append_right (by omega), show 2 * zs.length + 1 - Us.length = 1 by omega]; rfl
  ·refine ⟨k2.os, k2.tape, k2.output, k2.size, fun b hb => k2.block b (by omega) (fun e => ?_)⟩
   obtain ⟨_, ⟨q, _⟩ | ⟨g1, cap1, cur, q, q3, _⟩⟩ := h1
   ·rw [q] at e; cases e
   ·rw [q] at e
    simp only [Value.ownBlock, Option.some.injEq] at e
    omega
end Go.Proofs.YtnpcfohimlfbdaaGreat
