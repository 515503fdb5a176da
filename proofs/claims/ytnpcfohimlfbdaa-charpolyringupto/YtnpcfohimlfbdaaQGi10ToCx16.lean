/-
  QGi10ToCx16: Gi10, Cx16, joined.
-/
import Derived.Test.YtnpcfohimlfbdaaQPickB9
import Derived.Deep.AppendLies
import Derived.Test.YtnpcfohimlfbdaaQWm16

/- Gi10 -/
namespace Go.Proofs.Ytnpcfohimlfbdaa
open Go.RowKit
set_option linter.unusedVariables false

def wi10 (xs : List Int) : List Value := xs.map (Value.int .i64)
def RowI10 (w : World) (g : Nat) (L : List Value) : Prop := w.heap[g]? = some (.cells L.toArray 3 (0, 0))
theorem RowI10.lt {w : World} {g : Nat} {L : List Value} (h : RowI10 w g L) : g < w.heap.size := (Array.getElem?_eq_some_iff.1 h).1
theorem RowI10.num {w : World} {g : Nat} {xs : List Int} {r : List Value} (h : RowI10 w g (wi10 xs ++ r)) {i : Nat} (hi : i < xs.length) : w.cell? ⟨g, i, none⟩ = some (.int .i64 xs[i]) := by
  unfold RowI10 at h
  have h1 : i < (wi10 xs ++ r).length := by simp [wi10]; omega
  have h2 : (wi10 xs ++ r)[i] = .int .i64 xs[i] := by
    rw [List.getElem_append_left (by simp [wi10]; exact hi)]
    simp [wi10]
  have h3 : (wi10 xs ++ r)[i]? = some (.int .i64 xs[i]) := by rw [List.getElem?_eq_getElem h1, h2]
  simpa [World.cell?, h] using h3
theorem RowI10.in9 {w : World} {g cap : Nat} {ds : List Int} {r : List Value} (h : RowI10 w g (wi10 ds ++ r)) (hc : ds.length ≤ cap) (hl : ds.length ≤ 1048576) : In9 w (.slice (some ⟨g, 0, none⟩) ds.length cap) ds :=
  ⟨_, cap, rfl, hc, hl, .inr ⟨g, 0, rfl, h.lt, fun j hj => by rw [Nat.zero_add]; exact h.num hj⟩⟩
theorem Try.infoI10 : (Try.prog.info? 3).map (fun i => (i.zero, i.size, i.bytes)) = some (some (.int .i64 0), 1, 8) := by kernel_rfl
def Itr10 (B : Nat) (w : World) (v : Value) (ds : List Int) : Prop := w.ownsRow B 3 1 v ds.length (wi10 ds)
theorem Itr10.nil (B : Nat) (w : World) : Itr10 B w (.slice none 0 0) [] := World.ownsRow_nil _ _ _ _
theorem Itr10.now {B : Nat} {w w' : World} {v : Value} {ds : List Int} (h : Itr10 B w v ds) (hb : Below w.heap.size w w') : Itr10 B w' v ds := by
  obtain ⟨q1, q2 | ⟨g, cap, cur, q2, q3, q4, q5⟩⟩ := h
  · exact ⟨q1, .inl q2⟩
  · exact ⟨q1, .inr ⟨g, cap, cur, q2, q3, (hb.block g (Array.getElem?_eq_some_iff.1 q4).1).trans q4, q5⟩⟩
theorem Itr10.row {B : Nat} {w : World} {v : Value} {ds : List Int} (h : Itr10 B w v ds) (hn : 0 < ds.length) : ∃ g cap rest, v = .slice (some ⟨g, 0, none⟩) ds.length cap ∧ B ≤ g ∧ RowI10 w g (wi10 ds ++ rest) ∧ ds.length ≤ cap := by
  obtain ⟨q1, ⟨q2, q3⟩ | ⟨g, cap, cur, q2, q3, q4, q5, q6, q7, q8⟩⟩ := h
  · omega
  · rw [Nat.mul_one] at q7 q8
    refine ⟨g, cap, cur.toList.drop ds.length, q2, q3, ?_, q5⟩
    unfold RowI10
    rw [← q8, List.take_append_drop]
    simpa using q4
theorem Itr10.in9 {B : Nat} {w : World} {v : Value} {ds : List Int} (h : Itr10 B w v ds) (hl : ds.length ≤ 1048576) : In9 w v ds := by
  by_cases hn : 0 < ds.length
  · obtain ⟨g, cap, rest, rfl, _, q, qc⟩ := h.row hn
    exact q.in9 qc hl
  · obtain rfl : ds = [] := List.eq_nil_of_length_eq_zero (by omega)
    obtain ⟨q1, ⟨q2, q3⟩ | ⟨g, cap, cur, q2, _, _, q5, _⟩⟩ := h
    · subst q2
      exact ⟨none, 0, rfl, Nat.le_refl _, hl, .inl rfl⟩
    · subst q2
      exact ⟨_, cap, rfl, Nat.zero_le _, hl, .inl rfl⟩
theorem head_add10 (g j : Nat) : (⟨g, 0, none⟩ : Addr).add j = ⟨g, j, none⟩ := by unfold Addr.add; split <;> simp_all
theorem natv_succ (t : Nat) : natv (List.range t) ++ [(t : Int)] = natv (List.range (t + 1)) := by simp [natv, List.range_succ]
end Go.Proofs.Ytnpcfohimlfbdaa

/- Cx16 -/
namespace Go.Proofs.Ytnpcfohimlfbdaa
open Go.RowKit
set_option linter.unusedVariables false

/-- The characteristic polynomials of the first rows and columns, as the program makes them. -/
def chL (n : Nat) (A : List Int) : Nat → List Int
  | 0 => [1]
  | k + 1 => womL n k A (chL n A k)
theorem chL_length {n : Nat} {A : List Int} : ∀ k, (chL n A k).length = k + 1
  | 0 => rfl
  | k + 1 => by
    show (womL n k A (chL n A k)).length = _
    unfold womL
    rw [wmS_length, mulP_length, chL_length k]
    simp
theorem wmS_ge {M : List Int} {D : Nat → Int} {i t : Nat} (hi : i ≤ t) (ht : t < M.length) : (wmS M D i).getD t 0 = M.getD t 0 := by
  have h : ¬ t < i := by omega
  simp [wmS, ht, h]
theorem chL_last {n : Nat} {A : List Int} : ∀ k, (chL n A k).getD k 0 = 1
  | 0 => rfl
  | k + 1 => by
    show (womL n k A (chL n A k)).getD (k + 1) 0 = 1
    have hl := chL_length (n := n) (A := A) k
    have ih := chL_last (n := n) (A := A) k
    generalize chL n A k = P at *
    have hM : (mulP P [-(A.getD (k * n + k) 0), 1]).length = k + 2 := by rw [mulP_length, hl]; simp
    unfold womL
    have e1 : (wmS (mulP P [-(A.getD (k * n + k) 0), 1]) (wmD n k A P) k).getD (k + 1) 0 = (mulP P [-(A.getD (k * n + k) 0), 1]).getD (k + 1) 0 := wmS_ge (by omega) (by omega)
    rw [e1]
    unfold mulP
    rw [coL_getD (by rw [hl]; simp)]
    unfold cfP
    rw [hl, if_neg (by omega), Int.add_zero, su_one (i := k) (by omega) (fun a ha hne => by rw [if_neg (fun h => by have := h.2; simp at this; omega)])]
    rw [if_pos ⟨by omega, by show k + 1 - k < 2; omega⟩, ih, show k + 1 - k = 1 by omega]
    simp
theorem Itr10.own_lt {B : Nat} {w : World} {v : Value} {ds : List Int} (h : Itr10 B w v ds) : ∀ f, v.ownBlock = some f → f < w.heap.size := fun f e => by
  obtain ⟨q1, ⟨q2, _⟩ | ⟨g, cap, cur, q2, q3, q4, q5⟩⟩ := h
  · rw [q2] at e; cases e
  · rw [q2] at e
    obtain rfl : g = f := by simpa [Value.ownBlock] using e
    exact (Array.getElem?_eq_some_iff.1 q4).1
theorem wpList_append_itr16 (w : World) {ops : Array Oper} {rest : List Oper} {o : Oper} {a : Act} {Q : Exit → Act → World → Prop}
    (hgd : o.guard = none) (s x : Operand) (hop : o.op = .call { callee := .builtin .append, args := #[s, x], argTypes := #[66, 66] })
    (B : Nat) (v : Value) (L : List Int) (c : Int) (hs : a.eval s = v) (hB : Itr10 B w v L) (g : Nat) (hx : a.eval x = .slice (some ⟨g, 0, none⟩) 1 1) (hc : w.cell? ⟨g, 0, none⟩ = some (.int .i64 c)) (hlen : L.length ≤ 1000000000) (hBs : B ≤ w.heap.size)
    (hK : ∀ a' cap' w', Hid (Itr10 B w' (.slice a' (L.length + 1) cap') (L ++ [c])) → Hid (Below B w w') → Hid (w.grownBy w' v.ownBlock) → wpList Try.prog ops Q rest (a.put o.dst (.slice a' (L.length + 1) cap')) w') :
    wpList Try.prog ops Q (o :: rest) a w := by
  obtain ⟨i, hi, hz, hsz, hby⟩ := info_parts Try.infoI10
  refine wpList_append_lies w hgd s x 66 hop B 3 i (.int .i64 0) 1 8 Try.underlying66 hi hz hsz hby rfl (by omega) v L.length (wi10 L) hs hB ⟨g, 0, none⟩ 1 1 [.int .i64 c] hx rfl ?_ ?_ (by omega) (by unfold maxLen; omega) (by omega) hBs w.heap.size rfl ?_
  · intro j u' hj
    match j, hj with
    | 0, hj => simp at hj; subst hj; rw [head_add10]; exact hc
  · intro u' hu'
    simp at hu'
    subst hu'
    rfl
  · intro g' cap' w' k1 k2 k3 k4
    refine hK _ _ w' ?_ ?_ k2
    · unfold Hid Itr10
      have e : wi10 (L ++ [c]) = wi10 L ++ [.int .i64 c] := by simp [wi10]
      rw [e, List.length_append, List.length_singleton]
      exact k1
    · refine ⟨k2.os, k2.tape, k2.output, k2.size, fun k hk => k2.block k (by omega) (fun e => ?_)⟩
      obtain ⟨_, ⟨q, _⟩ | ⟨g1, cap1, cur, q, q3, _⟩⟩ := hB
      · rw [q] at e; cases e
      · rw [q] at e
        obtain rfl : k = g1 := by simpa [Value.ownBlock] using e
        omega
/-- One integer in an array of its own. -/
theorem allz_one {w : World} {g k : Nat} {n0 : Bool} {a0 : Option Addr} {l0 c0 : Nat} {z0 : Int} (d : Cel w g 25 [.bool n0, .slice a0 l0 c0]) (h0 : Zc w (.agg #[.bool n0, .slice a0 l0 c0]) z0 k) : AllZ w g [z0] k := by
  refine ⟨[(.bool n0, .slice a0 l0 c0)], ⟨d, fun p hp => ?_⟩, rfl, fun j p z hp hz => ?_⟩
  · simp at hp; subst hp; exact ⟨_, _, _, _, rfl⟩
  · match j, hp, hz with
    | 0, hp, hz => simp at hp hz; subst hp hz; exact h0
def ChH (W0 : World) (n : Nat) (A : List Int) (S gk : Nat) (s3 s4 s10 : Value) (wx : World) : Prop :=
  ∃ (k g cf : Nat) (af : Option Addr), s10 = .int .i64 (k : Int) ∧ k ≤ n ∧ gk = n - k ∧ s3 = .slice (some ⟨g, 0, none⟩) (k + 1) (k + 1) ∧ s4 = .slice af k cf ∧ AllZ wx g (chL n A k) (1 + k * S) ∧ W0.heap.size ≤ g ∧ Itr10 W0.heap.size wx (.slice af k cf) (natv (List.range k)) ∧ Below W0.heap.size W0 wx
/-- A list of so many in an array that the call made. -/
def ListN (w : World) (n : Nat) (zs : List Int) (k : Nat) (e : Ending) (w' : World) : Prop := ∃ g, e = .returned (.slice (some ⟨g, 0, none⟩) n n) ∧ w.heap.size ≤ g ∧ AllZ w' g zs k ∧ Below w.heap.size w w'
set_option maxHeartbeats 6400000 in
set_option maxRecDepth 100000 in
theorem chr_any {w : World} {av : Value} {n ka : Nat} {A : List Int} (hA : Mx w av n n A ka) (hka : 1 ≤ ka) (hk : ka ≤ 4000000000) :
    Calls Try.prog 29 #[av] w (ListN w (n + 1) (chL n A n) (1 + n * (66 * (ka + 65)))) := by
  have M0 := hA
  obtain ⟨aa, ca, rfl, hn64, -⟩ := hA.form
  obtain ⟨la, hla⟩ : ∃ la, n * n = la := ⟨_, rfl⟩
  rw [hla] at M0 ⊢
  obtain ⟨S, hS⟩ : ∃ S, 66 * (ka + 65) = S := ⟨_, rfl⟩
  rw [hS]
  have ES := hid hS
  have HKA := hid hka
  have HS2 : Hid (S ≤ 264000004290) := by unfold Hid; omega
  obtain ⟨W0, hW⟩ : ∃ W0, w.alloc (matO n n (.slice aa la ca)) = W0 := ⟨_, rfl⟩
  obtain ⟨b0, sz0⟩ := alo1 w (matO n n (.slice aa la ca))
  rw [hW] at b0 sz0
  have PA : Hid (Cel W0 w.heap.size 39 (matc n n (.slice aa la ca))) := by unfold Hid; rw [← hW]; exact Cel.new w _ _
  have MA := hid (M0.now b0)
  have G := hid b0
  have EW := hid hW
  clear hA M0 b0 sz0 hW hla hka hk hS
  go_enter Try.func29, Try.ntmps29
  go_wp2_with fail
  rw [EW.out]
  clear EW
  refine (of_z (by decide) (by decide) W0).mono ?_
  rintro e w1 ⟨r1, rfl, m, b⟩
  obtain ⟨no, xo, ao, co, rfl⟩ := m.parts
  obtain ⟨lo, hlo⟩ : ∃ lo, xo.length = lo := ⟨_, rfl⟩
  rw [hlo] at m ⊢
  obtain ⟨V1, hV⟩ : ∃ V1, w1.alloc (.cells #[.bool no, .slice ao lo co] 25) = V1 := ⟨_, rfl⟩
  obtain ⟨b1, sz1⟩ := alo1 w1 (.cells #[.bool no, .slice ao lo co] 25)
  rw [hV] at b1 sz1
  have d1 : Cel V1 w1.heap.size 25 [.bool no, .slice ao lo co] := by rw [← hV]; exact Cel.new w1 _ _
  have H0 : Hid (ChH W0 n A S n (.slice (some ⟨w1.heap.size, 0, none⟩) 1 1) (.slice none 0 0) (.int .i64 0) V1) := ⟨0, w1.heap.size, 0, none, rfl, Nat.zero_le _, by omega, rfl, rfl, (allz_one d1 (m.zc.now b1)).more (by omega), b.size, Itr10.nil _ _, below_step b b1⟩
  have PA1 := hid ((PA.out.step b).step b1)
  have x0 := PA1.out.at (i := 0) rfl
  rw [← hV] at x0
  have EV := hid hV
  clear m b b1 sz1 hV d1 hlo PA1
  go_wp2_with fail
  rw [EV.out]
  clear EV x0
  go_loopg [3, 4, 10] n (fun gk s3 s4 s10 wx => ChH W0 n A S gk s3 s4 s10 wx)
  case atStart => exact H0.out
  case round =>
    clear H0
    obtain ⟨k, g, cf, af, rfl, hkn, hg, rfl, rfl, haz, hgw, hit, hB⟩ := hrel
    have AZ := hid haz
    have HGW := hid hgw
    have IT := hid hit
    have B := hid hB
    have HG := hid hg
    clear haz hgw hit hB hg
    by_cases hlt : k < n
    · have hlt' : (k : Int) < (n : Int) := by omega
      have hle : k * S ≤ 64 * S := Nat.mul_le_mul_right _ (by omega)
      have hks : 1 + k * S + S = 1 + (k + 1) * S := by rw [Nat.add_mul, Nat.one_mul]; omega
      have HC := hid (wom_any (AZ.out.zl (by rw [chL_length]; omega) (chL_length k)) (chL_last k) (MA.out.now B.out) (IT.out.in9 (by simp [natv]; omega)) hlt HKA.out (by rw [ES.out]; have := HS2.out; omega))
      rw [ES.out, hks] at HC
      have PA1 := hid (PA.out.step B.out)
      have x0 := PA1.out.at (i := 0) rfl
      have x1 := PA1.out.at (i := 1) rfl
      have x2 := PA1.out.at (i := 2) rfl
      have HOW := hid IT.out.own_lt
      have HMM : Hid (n - (k + 1) < gk) := by unfold Hid; rw [HG.out]; omega
      have hwk := wrapI9 (i := k) (by omega)
      clear hle hks HG PA1
      go_wp2_with fail
      clear x0 x1 x2
      refine HC.out.mono ?_
      rintro e w2 ⟨g2, rfl, hg2, hz2, b, hf2⟩
      obtain ⟨V, hV⟩ : ∃ V, w2.alloc (.cells #[.int .i64 (k : Int)] 3) = V := ⟨_, rfl⟩
      obtain ⟨bv, szv⟩ := alo1 w2 (.cells #[.int .i64 (k : Int)] 3)
      rw [hV] at bv szv
      have hcell : V.cell? ⟨w2.heap.size, 0, none⟩ = some (.int .i64 (k : Int)) := by rw [← hV]; exact (Cel.new w2 3 [.int .i64 (k : Int)]).at (i := 0) rfl
      have HCL := hid hcell
      have ITV := hid ((IT.out.now b).now bv)
      have AZV := hid (hz2.step bv)
      have FAV := hid (hf2.step bv)
      have BV := hid (below_step B.out (below_step b bv))
      have HG2 := hid hg2
      have EV := hid hV
      have NL : Hid ((natv (List.range k)).length = k) := by unfold Hid; simp [natv]
      have hk0 : (natv (List.range k)).length ≤ 1000000000 := by rw [NL.out]; omega
      clear hcell hz2 hf2 b bv szv hV hg2 HC AZ
      go_wp2_with (at_builtin; rw [EV.out]; refine wpList_append_itr16 V rfl (.tmp 17) (.tmp 19) rfl W0.heap.size (.slice af k cf) (natv (List.range k)) (k : Int) rfl ITV.out w2.heap.size rfl HCL.out hk0 BV.out.size ?_)
      intro a3 cap3 w3 hi3 hb3 hg3
      obtain ⟨hz3, -⟩ := AZV.out.grown FAV.out hg3.out (fun f e => HOW.out f e) HG2.out
      have hi4 := hi3.out
      rw [natv_succ] at hi4
      try rw [NL.out] at hi4
      try rw [NL.out]
      have HN1 : Hid (ChH W0 n A S (n - (k + 1)) (.slice (some ⟨g2, 0, none⟩) (k + 2) (k + 2)) (.slice a3 (k + 1) cap3) (.int .i64 ((k + 1 : Nat) : Int)) w3) := ⟨k + 1, g2, cap3, a3, rfl, by omega, rfl, rfl, rfl, hz3, Nat.le_trans B.out.size HG2.out, hi4, BV.out.trans hb3.out⟩
      clear hz3 hi3 hi4 hb3 hg3 AZV FAV BV ITV HCL EV hk0 IT B HOW NL HG2
      go_wp2_with fail
      go_roundg (n - (k + 1))
      case rel => exact HN1.out
      case measure => exact HMM.out
    · have hlt' : ¬ (k : Int) < (n : Int) := by omega
      obtain rfl : k = n := by omega
      have FIN : Hid (ListN w (k + 1) (chL k A k) (1 + k * S) (.returned (.slice (some ⟨g, 0, none⟩) (k + 1) (k + 1))) wr) := ⟨g, rfl, Nat.le_trans G.out.size HGW.out, AZ.out, below_step G.out B.out⟩
      clear AZ HGW IT B HG
      go_wp2
      go_ret
      exact FIN.out
end Go.Proofs.Ytnpcfohimlfbdaa
