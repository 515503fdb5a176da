/-
 QAw14ToLm14: Aw14, Scaled9, Lm14, joined.
-/
import Derived.Test.YtplldfnldaehiaaGreatQMn14ToAj14
import Derived.Test.YtplldfnldaehiaaGreatQDo14ToIx14
import Derived.Test.YtplldfnldaehiaaGreatQSz14ToLike11
import Derived.Test.YtplldfnldaehiaaGreatQRf11ToWk9
import Derived.Test.YtplldfnldaehiaaGreatQTurn9ToChkN9
import Derived.Test.YtplldfnldaehiaaGreatQChk9ToRound8

set_option maxRecDepth 100000
set_option maxHeartbeats 6400000
set_option linter.unusedVariables false
set_option linter.unusedSimpArgs false
namespace Go.Proofs.YtplldfnldaehiaaGreat
open Go.RowKit
theorem mx_six {V : World} {g : Nat} {n0 : Bool} {a0 : Option Addr} {l0 c0 : Nat} {z0 : Int} {n1 : Bool} {a1 : Option Addr} {l1 c1 : Nat} {z1 : Int} {n2 : Bool} {a2 : Option Addr} {l2 c2 : Nat} {z2 : Int} {n3 : Bool} {a3 : Option Addr} {l3 c3 : Nat} {z3 : Int} {n4 : Bool} {a4 : Option Addr} {l4 c4 : Nat} {z4 : Int} {n5 : Bool} {a5 : Option Addr} {l5 c5 : Nat} {z5 : Int} {k : Nat} (d : Cel V g 37 [.bool n0, .slice a0 l0 c0, .bool n1, .slice a1 l1 c1, .bool n2, .slice a2 l2 c2, .bool n3, .slice a3 l3 c3, .bool n4, .slice a4 l4 c4, .bool n5, .slice a5 l5 c5])
  (h0 : Zi V (.agg #[.bool n0, .slice a0 l0 c0]) z0 k) (h1 : Zi V (.agg #[.bool n1, .slice a1 l1 c1]) z1 k) (h2 : Zi V (.agg #[.bool n2, .slice a2 l2 c2]) z2 k) (h3 : Zi V (.agg #[.bool n3, .slice a3 l3 c3]) z3 k) (h4 : Zi V (.agg #[.bool n4, .slice a4 l4 c4]) z4 k) (h5 : Zi V (.agg #[.bool n5, .slice a5 l5 c5]) z5 k) :
  Mx V (.agg #[.int .i64 2, .int .i64 3, .slice (some ⟨g, 0, none⟩) 6 6]) 2 3 [z0, z1, z2, z3, z4, z5] k := by
 have ar : Arr V g [(.bool n0, .slice a0 l0 c0), (.bool n1, .slice a1 l1 c1), (.bool n2, .slice a2 l2 c2), (.bool n3, .slice a3 l3 c3), (.bool n4, .slice a4 l4 c4), (.bool n5, .slice a5 l5 c5)] := ⟨d, fun p hp => by
  simp at hp
  rcases hp with rfl | rfl | rfl | rfl | rfl | rfl <;> exact ⟨_, _, _, _, rfl⟩⟩
 refine ⟨_, _, rfl, ar.prs (Nat.zero_le _) (by simp) (Nat.le_refl _), ⟨rfl, fun j p z hp hz => ?_⟩, rfl, by decide, by decide⟩
 match j, hp, hz with
 | 0, hp, hz => simp at hp hz; subst hp hz; exact h0
 | 1, hp, hz => simp at hp hz; subst hp hz; exact h1
 | 2, hp, hz => simp at hp hz; subst hp hz; exact h2
 | 3, hp, hz => simp at hp hz; subst hp hz; exact h3
 | 4, hp, hz => simp at hp hz; subst hp hz; exact h4
 | 5, hp, hz => simp at hp hz; subst hp hz; exact h5
 | j + 6, hp, hz => simp at hp
theorem det_six : det 2 (fun a b => en 3 [1, 2, 3, 4, 5, 6] (([0, 1] : List Nat).getD a 0) (([0, 2] : List Nat).getD b 0)) = -6 := by decide
theorem in9_two {w : World} {g : Nat} {x y : Nat} (c0 : w.cell? ⟨g, 0, none⟩ = some (.int .i64 (x : Int))) (c1 : w.cell? ⟨g, 1, none⟩ = some (.int .i64 (y : Int))) (hg : g < w.heap.size) : In9 w (.slice (some ⟨g, 0, none⟩) 2 2) (natv [x, y]) := by
 refine ⟨_, _, rfl, Nat.le_refl _, by simp [natv], .inr ⟨g, 0, rfl, hg, fun j h => ?_⟩⟩
 match j, h with
 | 0, _ => exact c0
 | 1, _ => exact c1
theorem awake14 (w : World) : Calls Tryz.prog 5 #[] w fun e w' => e = .returned (.bool true) ∧ Below w.heap.size w w' := by
 go_enter Tryz.func5, Tryz.ntmps5
 go_wp2_with fail
 refine (num14_1 (w := w)).mono ?_
 rintro e w1 ⟨a1, l1, c1, rfl, z1, b⟩
 have G := hid b
 have Z1 := hid z1.zi
 clear z1 b
 go_wp2_with fail
 refine (num14_2 (w := w1)).mono ?_
 rintro e w2 ⟨a2, l2, c2, rfl, z2, b⟩
 replace G := hid (below_step G.out b)
 replace Z1 := hid (Z1.out.now b)
 have Z2 := hid z2.zi
 clear z2 b
 go_wp2_with fail
 refine (num14_3 (w := w2)).mono ?_
 rintro e w3 ⟨a3, l3, c3, rfl, z3, b⟩
 replace G := hid (below_step G.out b)
 replace Z1 := hid (Z1.out.now b)
 replace Z2 := hid (Z2.out.now b)
 have Z3 := hid z3.zi
 clear z3 b
 go_wp2_with fail
 refine (num14_4 (w := w3)).mono ?_
 rintro e w4 ⟨a4, l4, c4, rfl, z4, b⟩
 replace G := hid (below_step G.out b)
 replace Z1 := hid (Z1.out.now b)
 replace Z2 := hid (Z2.out.now b)
 replace Z3 := hid (Z3.out.now b)
 have Z4 := hid z4.zi
 clear z4 b
 go_wp2_with fail
 refine (num14_5 (w := w4)).mono ?_
 rintro e w5 ⟨a5, l5, c5, rfl, z5, b⟩
 replace G := hid (below_step G.out b)
 replace Z1 := hid (Z1.out.now b)
 replace Z2 := hid (Z2.out.now b)
 replace Z3 := hid (Z3.out.now b)
 replace Z4 := hid (Z4.out.now b)
 have Z5 := hid z5.zi
 clear z5 b
 go_wp2_with fail
 refine (num14_6 (w := w5)).mono ?_
 rintro e w6 ⟨a6, l6, c6, rfl, z6, b⟩
 replace G := hid (below_step G.out b)
 replace Z1 := hid (Z1.out.now b)
 replace Z2 := hid (Z2.out.now b)
 replace Z3 := hid (Z3.out.now b)
 replace Z4 := hid (Z4.out.now b)
 replace Z5 := hid (Z5.out.now b)
 have Z6 := hid z6.zi
 clear z6 b
 obtain ⟨V, hV⟩ : ∃ V, w6.alloc (.cells #[.bool false, .slice a1 l1 c1, .bool false, .slice a2 l2 c2, .bool false, .slice a3 l3 c3, .bool false, .slice a4 l4 c4, .bool false, .slice a5 l5 c5, .bool false, .slice a6 l6 c6] 37) = V := ⟨_, rfl⟩
 obtain ⟨bv, szv⟩ := alo1 w6 (.cells #[.bool false, .slice a1 l1 c1, .bool false, .slice a2 l2 c2, .bool false, .slice a3 l3 c3, .bool false, .slice a4 l4 c4, .bool false, .slice a5 l5 c5, .bool false, .slice a6 l6 c6] 37)
 rw [hV] at bv szv
 have d : Cel V w6.heap.size 37 [.bool false, .slice a1 l1 c1, .bool false, .slice a2 l2 c2, .bool false, .slice a3 l3 c3, .bool false, .slice a4 l4 c4, .bool false, .slice a5 l5 c5, .bool false, .slice a6 l6 c6] := by rw [← hV]; exact Cel.new _ _ _
 have MM := hid (mx_six d (Z1.out.now bv) (Z2.out.now bv) (Z3.out.now bv) (Z4.out.now bv) (Z5.out.now bv) (Z6.out.now bv))
 replace G := hid (below_step G.out bv)
 obtain ⟨V2, hV2⟩ : ∃ V2, V.alloc (.cells #[.int .i64 2, .int .i64 3, .slice (some ⟨w6.heap.size, 0, none⟩) 6 6] 24) = V2 := ⟨_, rfl⟩
 obtain ⟨bv2, szv2⟩ := alo1 V (.cells #[.int .i64 2, .int .i64 3, .slice (some ⟨w6.heap.size, 0, none⟩) 6 6] 24)
 rw [hV2] at bv2 szv2
 have PM : Hid (Cel V2 V.heap.size 24 [.int .i64 2, .int .i64 3, .slice (some ⟨w6.heap.size, 0, none⟩) 6 6]) := by unfold Hid; rw [← hV2]; exact Cel.new _ _ _
 replace MM := hid (MM.out.now bv2)
 replace G := hid (below_step G.out bv2)
 obtain ⟨V3, hV3⟩ : ∃ V3, (V2.alloc (.cells #[.int .i64 0, .int .i64 1] 3)).alloc (.cells #[.int .i64 0, .int .i64 2] 3) = V3 := ⟨_, rfl⟩
 obtain ⟨bv3, szv3⟩ := alloc2 V2 (.cells #[.int .i64 0, .int .i64 1] 3) (.cells #[.int .i64 0, .int .i64 2] 3)
 rw [hV3] at bv3 szv3
 have p1 : Cel V3 V2.heap.size 3 [.int .i64 0, .int .i64 1] := by rw [← hV3]; exact (Cel.new V2 3 [.int .i64 0, .int .i64 1]).step ((Below.refl _ _).alloc (Nat.le_refl _) _)
 have p2 : Cel V3 (V2.heap.size + 1) 3 [.int .i64 0, .int .i64 2] := by
  rw [← hV3]
  have := Cel.new (V2.alloc (.cells #[.int .i64 0, .int .i64 1] 3)) 3 [.int .i64 0, .int .i64 2]
  simpa using this
 have i1 : In9 V3 (.slice (some ⟨V2.heap.size, 0, none⟩) 2 2) (natv [0, 1]) := in9_two (p1.at (i := 0) rfl) (p1.at (i := 1) rfl) (by omega)
 have i2 : In9 V3 (.slice (some ⟨V2.heap.size + 1, 0, none⟩) 2 2) (natv [0, 2]) := in9_two (p2.at (i := 0) rfl) (p2.at (i := 1) rfl) (by omega)
 have HD := hid (minor_yes (s := 2) (MM.out.now bv3) i1 i2 (by decide) (by decide) rfl rfl (by decide) (by decide))
 rw [det_six] at HD
 replace G := hid (below_step G.out bv3)
 have x0 := PM.out.at (i := 0) rfl
 have x1 := PM.out.at (i := 1) rfl
 have x2 := PM.out.at (i := 2) rfl
 rw [← hV2] at x0 x1 x2
 have SV2 : Hid (V2.heap.size = V.heap.size + 1) := szv2
 have EV := hid hV
 have EV2 := hid hV2
 have EV3 := hid hV3
 rw [SV2.out] at HD
 clear d bv szv bv2 szv2 bv3 szv3 p1 p2 i1 i2 hV hV2 hV3 Z1 Z2 Z3 Z4 Z5 Z6 PM MM
 go_wp2_with (first | rw [EV.out] | fail)
 rw [EV2.out, EV3.out]
 clear EV EV2 EV3 x0 x1 x2
 refine HD.out.mono ?_
 rintro e w7 ⟨rq, rfl, m, b⟩
 have ZM := hid (m.mono (Nat.zero_le _))
 obtain ⟨nq, xq, aq, cq, rfl⟩ := m.parts
 obtain ⟨lq, hlq⟩ : ∃ lq, xq.length = lq := ⟨_, rfl⟩
 rw [hlq] at ZM ⊢
 obtain ⟨V4, hV4⟩ : ∃ V4, w7.alloc (duo (.bool nq) (.slice aq lq cq)) = V4 := ⟨_, rfl⟩
 obtain ⟨b4, sz4⟩ := alo1 w7 (duo (.bool nq) (.slice aq lq cq))
 rw [hV4] at b4 sz4
 have DQ : Hid (Duo V4 w7.heap.size (.bool nq) (.slice aq lq cq)) := by unfold Hid; rw [← hV4]; exact Duo.new w7 _ _
 replace ZM := hid (ZM.out.now b4)
 replace G := hid (below_step (below_step G.out b) b4)
 have cd0 := DQ.out.c0
 have cd1 := DQ.out.c1
 have EV := hid hV4
 clear HD m b b4 sz4 hV4 hlq
 go_upto_region 3 with fail
 rw [EV.out]
 clear EV
 have KB : Hid (∀ w', Below V4.heap.size V4 w' → w'.cell? ⟨w7.heap.size, 0, none⟩ = some (.bool nq) ∧ w'.cell? ⟨w7.heap.size, 1, none⟩ = some (.slice aq lq cq)) := fun w' h => ⟨cnow h cd0, cnow h cd1⟩
 refine wp_region_tail (fun w' => w'.cell? ⟨w7.heap.size, 0, none⟩ = some (.bool nq) ∧ w'.cell? ⟨w7.heap.size, 1, none⟩ = some (.slice aq lq cq)) 7 (by kernel_rfl) ?_
 obtain ⟨D61, hD⟩ : ∃ D61, V4.drew = D61 := ⟨_, rfl⟩
 have GB : Hid (Below V4.heap.size V4 D61) := by unfold Hid; rw [← hD]; exact (Below.refl _ _).drew
 rw [hD]
 clear hD
 refine wpAnyT_take (i := 0) (oi := { dst := some 19, op := Op.move (Operand.tmp 3), type := 26, pos := "law.go:27", after := #[], guard := none }) (v := (.int .i64 0)) rfl (by kernel_rfl) (fun _ _ _ h => h) (Or.inl ⟨by rfl, ?_⟩) (KB.out _ GB.out) ?_
 ·intro w hSw
  (try dsimp only at hSw)
  go_simp
 simp only [Act.put, List.setIfInBounds_toArray, List.set_cons_zero, List.set_cons_succ]
 refine wpAnyT_take (i := 1) (oi := { dst := some 20, op := Op.binOp BinOp.eql 26 (Operand.tmp 19) (Operand.const (Value.int IntKind.i64 0)) 26, type := 4, pos := "law.go:27", after := #[{ on := 0, ground := Ground.data }], guard := none }) (v := (.bool true)) rfl (by kernel_rfl) (fun _ _ _ h => h) (Or.inl ⟨by rfl, ?_⟩) (KB.out _ GB.out) ?_
 ·intro w hSw
  (try dsimp only at hSw)
  go_simp
 simp only [Act.put, List.setIfInBounds_toArray, List.set_cons_zero, List.set_cons_succ]
 refine wpAnyT_take (i := 2) (oi := { dst := some 21, op := Op.move (Operand.tmp 20), type := 4, pos := "law.go:27", after := #[{ on := 1, ground := Ground.data }], guard := none }) (v := (.bool true)) rfl (by kernel_rfl) (fun _ _ _ h => h) (Or.inl ⟨by rfl, ?_⟩) (KB.out _ GB.out) ?_
 ·intro w hSw
  (try dsimp only at hSw)
  go_simp
 simp only [Act.put, List.setIfInBounds_toArray, List.set_cons_zero, List.set_cons_succ]
 refine wpAnyT_take (i := 3) (oi := { dst := some 22, op := Op.load 37 (Operand.tmp 2), type := 37, pos := "law.go:27", after := #[{ on := 2, ground := Ground.guard }], guard := some (2, true) }) (v := (.agg #[.bool nq, .slice aq lq cq])) rfl (by kernel_rfl) (fun _ _ _ h => h) (Or.inl ⟨by rfl, ?_⟩) (KB.out _ GB.out) ?_
 ·intro w hSw
  (try dsimp only at hSw)
  go_simp
 simp only [Act.put, List.setIfInBounds_toArray, List.set_cons_zero, List.set_cons_succ]
 refine wpAnyT_one (i := 4) (o := { dst := some 23, op := Op.call { callee := Callee.value (Operand.func 22), args := #[Operand.const (Value.int IntKind.i64 (-6))], argTypes := #[2] }, type := 37, pos := "law.go:27", after := #[{ on := 2, ground := Ground.chain }, { on := 2, ground := Ground.guard }], guard := some (2, true) }) (by kernel_rfl) rfl (fun K hK => ?_)
 go_simp
 go_at_call 22
 refine (num14_m6).mono ?_
 rintro e w62 ⟨am, lm, cm, rfl, z1, b⟩
 have lz62 := (show Below _ _ _ from b).size
 replace GB := hid (below_step GB.out b)
 have MO := hid z1
 clear z1
 clear b
 refine hK.out _ _ (fun _ => KB.out _ GB.out) ?_
 clear hK
 refine wpAnyT_one (i := 5) (o := { dst := some 24, op := Op.call { callee := Callee.value (Operand.func 12), args := #[Operand.tmp 22, Operand.tmp 23], argTypes := #[37, 37] }, type := 4, pos := "law.go:27", after := #[{ on := 3, ground := Ground.data }, { on := 4, ground := Ground.data }, { on := 4, ground := Ground.chain }, { on := 2, ground := Ground.guard }], guard := some (2, true) }) (by kernel_rfl) rfl (fun K hK => ?_)
 go_simp
 go_at_call 12
 refine (like_yes (ZM.out.now GB.out).zc MO.out rfl).mono ?_
 rintro e w63 ⟨rfl, b⟩
 have lz63 := (show Below _ _ _ from b).size
 replace GB := hid (below_step GB.out b)
 clear b
 refine hK.out _ _ (fun _ => KB.out _ GB.out) ?_
 clear hK
 refine wpAnyT_take (i := 6) (oi := { dst := some 25, op := Op.pick (Operand.tmp 21) (Operand.tmp 24) (Operand.const (Value.bool false)), type := 4, pos := "law.go:27", after := #[{ on := 2, ground := Ground.data }, { on := 5, ground := Ground.data }], guard := none }) (v := (.bool true)) rfl (by kernel_rfl) (fun _ _ _ h => h) (Or.inl ⟨by rfl, ?_⟩) (KB.out _ GB.out) ?_
 ·intro w hSw
  (try dsimp only at hSw)
  go_simp
 simp only [Act.put, List.setIfInBounds_toArray, List.set_cons_zero, List.set_cons_succ]
 refine wpAnyT_one (i := 7) (o := { dst := some 0, op := Op.assign (Operand.tmp 25), type := 4, pos := "law.go:27", after := #[{ on := 6, ground := Ground.data }, { on := 5, ground := Ground.chain }, { on := 0, ground := Ground.phase }, { on := 1, ground := Ground.phase }, { on := 2, ground := Ground.phase }, { on := 3, ground := Ground.phase }, { on := 4, ground := Ground.phase }, { on := 5, ground := Ground.phase }, { on := 6, ground := Ground.phase }], guard := none }) (by kernel_rfl) rfl (fun K hK => ?_)
 go_simp
 refine hK.out _ _ (fun h => absurd h (by decide)) ?_
 clear hK
 try simp only [Act.put]
 refine wpAnyT_done (by kernel_rfl) ?_ _
 have FIN : Hid (Below w.heap.size w w63) := below_step G.out GB.out
 clear GB KB
 go_wp2
 go_ret
 exact ⟨rfl, FIN.out⟩

theorem canon_top : ∀ (xs : List Int), wid xs = xs.length → ∀ h : xs.length - 1 < xs.length, xs[xs.length - 1] ≠ 0
 | [x], hw, _ => by
  intro e
  have e' : x = 0 := by simpa using e
  subst e'
  simp [wid] at hw
 | x :: y :: r, hw, _ => by
  have h1 : wid (y :: r) = (y :: r).length := by
   have := wid_le (y :: r)
   rw [wid] at hw
   have e : (x :: y :: r).length = (y :: r).length + 1 := rfl
   rw [e] at hw
   by_cases q : wid (y :: r) = 0
   ·rw [if_pos q] at hw
    have e2 : (y :: r).length = r.length + 1 := rfl
    by_cases q2 : x = 0
    ·rw [if_pos q2] at hw; omega
    ·rw [if_neg q2] at hw; omega
   ·rw [if_neg q] at hw; omega
  have := canon_top (y :: r) h1 (by simp)
  simpa using this
theorem leastInt_yes {w : World} {v : Value} {z : Int} {k : Nat} (h : Zc w v z k) : Calls Tryz.prog 26 #[v] w fun e w' => e = .returned (.bool true) ∧ Below w.heap.size w w' := by
 obtain ⟨n, xs, a, c, rfl, hs, hc, hn, -, -⟩ := h
 obtain ⟨W0, hW⟩ : ∃ W0, w.alloc (duo (.bool n) (.slice a xs.length c)) = W0 := ⟨_, rfl⟩
 obtain ⟨b0, sz0⟩ := alo1 w (duo (.bool n) (.slice a xs.length c))
 rw [hW] at b0 sz0
 have P1 : Duo W0 w.heap.size (.bool n) (.slice a xs.length c) := by rw [← hW]; exact Duo.new w _ _
 have x0 := P1.c0
 have x1 := P1.c1
 have G := hid b0
 have EW := hid hW
 by_cases hx : xs = []
 ·obtain rfl := hn hx
  subst hx
  rw [← hW] at x0 x1
  clear hs hc hn b0 sz0 hW P1
  simp only [List.length_nil] at x1 EW ⊢
  go_enter Tryz.func26, Tryz.ntmps26
  go_wp2_with fail
  rw [EW.out]
  go_ret
  exact ⟨rfl, G.out⟩
 ·obtain ⟨hwf, a', cap, he, hcap, hlen, hq⟩ := hs
  simp only [Value.slice.injEq] at he
  obtain ⟨rfl, -, rfl⟩ := he
  rcases hq with hq | ⟨b, off, rfl, hb, hq⟩
  ·exact absurd hq hx
  ·have hpos : 0 < xs.length := List.length_pos_iff.2 hx
   have htop := canon_top xs hc.2 (by omega)
   have y0 := cnow b0 (hq (xs.length - 1) (by omega))
   obtain ⟨m, hm⟩ : ∃ m, xs.length = m + 1 := ⟨xs.length - 1, by omega⟩
   have hwm : IntKind.i64.wrap (((m + 1 : Nat) : Int) - 1) = (m : Int) := by rw [wrap_is] <;> omega
   obtain ⟨t, ht⟩ : ∃ t, xs[xs.length - 1]'(by omega) = t := ⟨_, rfl⟩
   rw [ht] at htop y0
   have hoff : xs.length - 1 = m := by omega
   rw [hoff] at y0
   rw [hm] at x1 EW ⊢
   have hne : (t != 0) = true := by simpa using htop
   have hlt : (m : Int) < ((m + 1 : Nat) : Int) := by omega
   have hz : (((m + 1 : Nat) : Int) == 0) = false := by simp; omega
   have hz2 : ¬ ((m + 1 : Nat) : Int) = 0 := by omega
   rw [hm] at hW hlen hcap
   rw [← hW] at x0 x1 y0
   obtain ⟨l1, hl1⟩ : ∃ l1, m + 1 = l1 := ⟨_, rfl⟩
   rw [hl1] at hwm x0 x1 y0 EW hlt hz hz2 hcap ⊢
   clear hc hn b0 sz0 hW P1 hq ht htop hoff hpos hx hm hwf
   go_enter Tryz.func26, Tryz.ntmps26
   go_wp2_with fail
   rw [EW.out]
   go_ret
   exact ⟨rfl, G.out⟩
def LmH (w : World) (n gk : Nat) (s : Value) (wx : World) : Prop := ∃ i : Nat, s = .int .i64 (i : Int) ∧ i ≤ n ∧ gk = n - i ∧ Below w.heap.size w wx
theorem leastMat_yes {w : World} {va : Value} {r c k : Nat} {zs : List Int} (ha : Mc w va r c zs k) :
  Calls Tryz.prog 9 #[va] w fun e w' => e = .returned (.bool true) ∧ Below w.heap.size w w' := by
 obtain ⟨ata, ps, rfl, pa1, pa2, hzl, hr, hc⟩ := ha
 obtain ⟨aa, ca, rfl, hca, hna, -, hfa⟩ := pa1.form
 obtain ⟨n, hn⟩ : ∃ n, ps.length = n := ⟨_, rfl⟩
 have hrc : r * c = n := by rw [← hzl, ← pa2.1, hn]
 rw [hn] at hca hna ⊢
 have A0 := hid pa1
 have ZA := hid pa2
 rw [hn] at A0
 have hzn : zs.length = n := by rw [hzl, hrc]
 have HN := hid hzn
 have FA : Hid (n ≠ 0 → ∃ b off, aa = some ⟨b, off, none⟩) := fun h => by
  obtain ⟨b, off, e, -⟩ := hfa (fun e => h (by rw [← hn, e]; rfl))
  exact ⟨b, off, e⟩
 obtain ⟨W0, hW⟩ : ∃ W0, w.alloc (matO r c (.slice aa n ca)) = W0 := ⟨_, rfl⟩
 obtain ⟨b0, sz0⟩ := alo1 w (matO r c (.slice aa n ca))
 rw [hW] at b0 sz0
 have PA : Hid (Cel W0 w.heap.size 24 (matc r c (.slice aa n ca))) := by unfold Hid; rw [← hW]; exact Cel.new w _ _
 have hm0 := wrapM9 (i := r) (c := c) hr hc
 rw [hrc] at hm0
 have q1 : ¬ (r : Int) < 0 := by omega
 have q2 : ¬ (c : Int) < 0 := by omega
 have q3 : ¬ (64 : Int) < (r : Int) := by omega
 have q4 : ¬ (64 : Int) < (c : Int) := by omega
 have q1d : decide ((r : Int) < 0) = false := decide_eq_false q1
 have q2d : decide ((c : Int) < 0) = false := decide_eq_false q2
 have q3d : decide ((64 : Int) < (r : Int)) = false := decide_eq_false q3
 have q4d : decide ((64 : Int) < (c : Int)) = false := decide_eq_false q4
 have q5 : ((n : Int) != (n : Int)) = false := by simp
 have x0 := PA.out.at (i := 0) rfl
 have x1 := PA.out.at (i := 1) rfl
 have x2 := PA.out.at (i := 2) rfl
 rw [← hW] at x0 x1 x2
 have H0 : Hid (LmH W0 n n (.int .i64 0) W0) := ⟨0, rfl, Nat.zero_le _, by omega, Below.refl _ _⟩
 have A1 := hid (A0.out.now b0)
 have ZA1 := hid (ZA.out.now b0)
 have G := hid b0
 have EW := hid hW
 clear pa1 pa2 hfa hn hzl hrc A0 ZA b0 sz0 hW hzn
 go_enter Tryz.func9, Tryz.ntmps9
 go_wp2_with fail
 rw [EW.out]
 clear EW x0 x1 x2 q1 q2 q3 q4 q1d q2d q3d q4d q5 hm0
 go_loopg [3] n (fun gk s3 wx => LmH W0 n gk s3 wx)
 case atStart => exact H0.out
 case round =>
  clear H0
  obtain ⟨i, rfl, hin, hg, hG⟩ := hrel
  have B := hid hG
  have HG := hid hg
  have x2 := (PA.out.step hG).at (i := 2) rfl
  clear hG hg
  by_cases hlt : i < n
  ·have hlt' : (i : Int) < (n : Int) := by omega
   obtain ⟨b1, o1, rfl⟩ := FA.out (by omega)
   obtain ⟨nf, xf, adf, qf, k0, k1, zf⟩ := Zcs.at9 (A1.out.now B.out) (ZA1.out.now B.out) (i := i) (by rw [HN.out]; exact hlt)
   have HS := hid (leastInt_yes zf)
   have hw := wrapI9 (i := i) (by omega)
   have HMM : Hid (n - (i + 1) < gk) := by unfold Hid; rw [HG.out]; omega
   clear zf HG
   go_wp2_with fail
   refine HS.out.mono ?_
   rintro e w1 ⟨rfl, b⟩
   have HN1 : Hid (LmH W0 n (n - (i + 1)) (.int .i64 ((i + 1 : Nat) : Int)) w1) := ⟨i + 1, rfl, by omega, rfl, below_step B.out b⟩
   clear HS b B x2 k0 k1
   go_wp2_with fail
   go_roundg (n - (i + 1))
   case rel => exact HN1.out
   case measure => exact HMM.out
  ·have hlt' : ¬ (i : Int) < (n : Int) := by omega
   have FIN := hid (below_step G.out B.out)
   clear HG
   go_wp2
   go_ret
   exact ⟨rfl, FIN.out⟩
end Go.Proofs.YtplldfnldaehiaaGreat
