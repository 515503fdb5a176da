/-
  QZe17ToOn17: Ze17, On17, joined.
-/
import Derived.Test.YtcceoildbnoliaaGreatQFa17ToFb17
import Derived.Test.YtcceoildbnoliaaGreatQNu17ToTk17
import Derived.Test.YtcceoildbnoliaaGreatQDu12ToTailL

/- Ze17 -/
namespace Go.Proofs.YtcceoildbnoliaaGreat
open Go.RowKit
set_option linter.unusedVariables false
set_option linter.unusedSimpArgs false

set_option maxHeartbeats 1600000 in
theorem zero17 {w : World} {n1 n2 : Bool} {a1 a2 : Option Addr} {l1 c1 l2 c2 k : Nat} {N : Int} (h : Zi w (.agg #[.bool n1, .slice a1 l1 c1]) N k) : Calls Tryz.prog 36 #[.agg #[.bool n1, .slice a1 l1 c1, .bool n2, .slice a2 l2 c2]] w (SaysP w (N = 0)) := by
  obtain ⟨V1, hV⟩ : ∃ V1, w.alloc (.cells #[.bool n1, .slice a1 l1 c1, .bool n2, .slice a2 l2 c2] 47) = V1 := ⟨_, rfl⟩
  obtain ⟨b, sz1⟩ := alo1 w (.cells #[.bool n1, .slice a1 l1 c1, .bool n2, .slice a2 l2 c2] 47)
  rw [hV] at b sz1
  have C : Cel V1 w.heap.size 47 [.bool n1, .slice a1 l1 c1, .bool n2, .slice a2 l2 c2] := by rw [← hV]; exact Cel.new w _ _
  have HS := hid (sign_z (h.now b))
  have B1 := hid b
  have EV := hid hV
  have m0 := C.at (i := 0) rfl
  have m1 := C.at (i := 1) rfl
  rw [← hV] at m0 m1
  clear h b sz1 hV C
  go_enter Tryz.func36, Tryz.ntmps36
  go_wp2_with fail
  rw [EV.out]
  refine HS.out.mono ?_
  rintro e w1 ⟨rfl, b⟩
  have FF : Hid (SaysP w (N = 0) (.returned (.bool (decide (cmpI N 0 = 0)))) w1) := by
    unfold Hid; rw [cmpI_zero17]; exact ⟨_, rfl, decide_eq_true_iff, below_step B1.out b⟩
  clear HS EV B1 b m0 m1
  go_wp2
  go_ret
  exact FF.out
set_option maxHeartbeats 1600000 in
set_option maxRecDepth 100000 in
theorem blank17 {w : World} {r c : Int} {a : Option Addr} {l cap k : Nat} {P Q : Nat → Int} (hv : Qs w (.slice a l cap) l P Q k) (hz : ∀ t, t < l → P t = 0) : Calls Tryz.prog 19 #[.agg #[.int .i64 r, .int .i64 c, .slice a l cap]] w fun e w' => e = .returned (.bool true) ∧ Below w.heap.size w w' := by
  obtain ⟨W0, hW⟩ : ∃ W0, w.alloc (.cells #[.int .i64 r, .int .i64 c, .slice a l cap] 24) = W0 := ⟨_, rfl⟩
  obtain ⟨b0, sz0⟩ := alo1 w (.cells #[.int .i64 r, .int .i64 c, .slice a l cap] 24)
  rw [hW] at b0 sz0
  have CQ : Hid (Cel W0 w.heap.size 24 [.int .i64 r, .int .i64 c, .slice a l cap]) := by unfold Hid; rw [← hW]; exact Cel.new w _ _
  have HV := hid (hv.now b0)
  obtain ⟨a0, c0, e0, hc0, hn, hf0⟩ := hv.form
  simp only [Value.slice.injEq, true_and] at e0
  obtain ⟨rfl, rfl⟩ := e0
  have F0 := hid hf0
  have HZ : Hid (∀ t, t < l → P t = 0) := hz
  have G := hid b0
  have EW := hid hW
  have H0 : Hid (LkH W0 l l (.int .i64 0) W0) := ⟨0, rfl, Nat.zero_le _, rfl, Below.refl _ _⟩
  clear b0 sz0 hW hv hz hf0
  go_enter Tryz.func19, Tryz.ntmps19
  go_wp2_with fail
  rw [EW.out]
  go_loopg [3] l (fun gk s3 wx => LkH W0 l gk s3 wx)
  case atStart => exact H0.out
  case round =>
    clear H0
    obtain ⟨i, rfl, hi, hg, hb⟩ := hrel
    have GB := hid hb
    have HG := hid hg
    clear hb hg
    have x2 := (CQ.out.step GB.out).at (i := 2) rfl
    by_cases hlt : i < l
    · have hlt' : (i : Int) < (l : Int) := by omega
      have hwi := wrapI9 (i := i) (by omega)
      obtain ⟨bv, ov, rfl⟩ := F0.out (by omega)
      obtain ⟨n1, a1, l1, c1, n2, a2, l2, c2, e1, e2, e3, e4, zp, zq⟩ := (HV.out.now GB.out).at hlt
      rw [HZ.out i hlt] at zp
      have HS := hid (zero17 (n2 := n2) (a2 := a2) (l2 := l2) (c2 := c2) zp)
      clear zp zq
      go_wp2_with fail
      refine HS.out.mono ?_
      rintro e w1 ⟨bq, rfl, hbq, b⟩
      obtain rfl : bq = true := hbq.2 (by first | trivial | rfl)
      have HN : Hid (LkH W0 l (l - (i + 1)) (.int .i64 ((i + 1 : Nat) : Int)) w1) := ⟨i + 1, rfl, by omega, rfl, below_step GB.out b⟩
      have HMM : Hid (l - (i + 1) < gk) := by unfold Hid; rw [HG.out]; omega
      clear hbq b HS GB HG e1 e2 e3 e4 x2
      go_wp2_with fail
      go_roundg (l - (i + 1))
      case rel => exact HN.out
      case measure => exact HMM.out
    · have hlt' : ¬ (i : Int) < (l : Int) := by omega
      have FF := hid (below_step G.out GB.out)
      clear HG GB
      go_wp2
      go_ret
      exact ⟨rfl, FF.out⟩
/-- A fraction of a matrix. -/
def Atd (w : World) (P Q : Int) (k : Nat) (e : Ending) (w' : World) : Prop := ∃ n1 a1 l1 c1 n2 a2 l2 c2, e = .returned (.agg #[.bool n1, .slice a1 l1 c1, .bool n2, .slice a2 l2 c2]) ∧ Zi w' (.agg #[.bool n1, .slice a1 l1 c1]) P k ∧ Zi w' (.agg #[.bool n2, .slice a2 l2 c2]) Q k ∧ Below w.heap.size w w'
set_option maxHeartbeats 1600000 in
set_option maxRecDepth 100000 in
theorem at17 {w : World} {r : Int} {c i j : Nat} {a : Option Addr} {l cap k : Nat} {P Q : Nat → Int} (hv : Qs w (.slice a l cap) l P Q k) (hi : i ≤ 64) (hc : c ≤ 64) (hj : i * c + j < l) (hj2 : j ≤ 64) : Calls Tryz.prog 37 #[.agg #[.int .i64 r, .int .i64 (c : Int), .slice a l cap], .int .i64 (i : Int), .int .i64 (j : Int)] w (Atd w (P (i * c + j)) (Q (i * c + j)) k) := by
  obtain ⟨W0, hW⟩ : ∃ W0, (w.alloc (.cells #[.int .i64 r, .int .i64 (c : Int), .slice a l cap] 24)) = W0 := ⟨_, rfl⟩
  obtain ⟨b0, sz0⟩ := alo1 w (.cells #[.int .i64 r, .int .i64 (c : Int), .slice a l cap] 24)
  rw [hW] at b0 sz0
  have CQ : Cel W0 w.heap.size 24 [.int .i64 r, .int .i64 (c : Int), .slice a l cap] := by rw [← hW]; exact Cel.new w _ _
  obtain ⟨a0, c0, e0, hc0, hn, hf0⟩ := hv.form
  simp only [Value.slice.injEq, true_and] at e0
  obtain ⟨rfl, rfl⟩ := e0
  obtain ⟨bv, ov, rfl⟩ := hf0 (by omega)
  obtain ⟨n1, a1, l1, c1, n2, a2, l2, c2, e1, e2, e3, e4, zp, zq⟩ := (hv.now b0).at hj
  have hm := wrapM9 (i := i) (c := c) hi hc
  obtain ⟨m, hM⟩ : ∃ m, i * c = m := ⟨_, rfl⟩
  have hml : m ≤ 4096 := by rw [← hM]; exact Nat.mul_le_mul hi hc
  rw [hM] at hm hj e1 e2 e3 e4 zp zq ⊢
  have hs : IntKind.i64.wrap ((m : Int) + (j : Int)) = ((m + j : Nat) : Int) := by rw [wrap_is] <;> omega
  obtain ⟨t, ht⟩ : ∃ t, m + j = t := ⟨_, rfl⟩
  rw [ht] at hs hj e1 e2 e3 e4 zp zq ⊢
  have hlt : (t : Int) < (l : Int) := by omega
  obtain ⟨V, hV⟩ : ∃ V, W0.alloc (.cells #[.bool n1, .slice a1 l1 c1, .bool n2, .slice a2 l2 c2] 47) = V := ⟨_, rfl⟩
  obtain ⟨bV, szV⟩ := alo1 W0 (.cells #[.bool n1, .slice a1 l1 c1, .bool n2, .slice a2 l2 c2] 47)
  rw [hV] at bV szV
  obtain ⟨U, hU⟩ : ∃ U, W0.alloc (.cells #[.bool false, .slice none 0 0, .bool false, .slice none 0 0] 47) = U := ⟨_, rfl⟩
  obtain ⟨bU, szU⟩ := alo1 W0 (.cells #[.bool false, .slice none 0 0, .bool false, .slice none 0 0] 47)
  rw [hU] at bU szU
  have x1 := (CQ.step bU).at (i := 1) rfl
  have x2 := (CQ.step bU).at (i := 2) rfl
  replace e1 := cnow bU e1
  replace e2 := cnow bU e2
  replace e3 := cnow bU e3
  replace e4 := cnow bU e4
  have DR : Hid (Cel V (w.heap.size + 1) 47 [.bool n1, .slice a1 l1 c1, .bool n2, .slice a2 l2 c2]) := by unfold Hid; rw [← hV, ← sz0]; exact Cel.new W0 _ _
  have FF : Hid (Atd w (P t) (Q t) k (.returned (.agg #[.bool n1, .slice a1 l1 c1, .bool n2, .slice a2 l2 c2])) V) :=
    ⟨_, _, _, _, _, _, _, _, rfl, zp.now bV, zq.now bV, below_step b0 bV⟩
  have EV := hid hV
  have EU := hid hU
  have EW := hid hW
  rw [← hU, ← hW] at x1 x2 e1 e2 e3 e4
  clear hV hU hW CQ zp zq b0 bU bV szU szV sz0 hv hf0 hM ht hi hc hj2
  go_enter Tryz.func37, Tryz.ntmps37
  go_wp2
  rw [EW.out, EV.out]
  exact bodyPost_ret (fback17 Tryz.results37 DR.out _ (by rfl)) rfl FF.out
end Go.Proofs.YtcceoildbnoliaaGreat

/- On17 -/
namespace Go.Proofs.YtcceoildbnoliaaGreat
open Go.RowKit
set_option linter.unusedVariables false
set_option linter.unusedSimpArgs false

set_option maxHeartbeats 3200000 in
set_option maxRecDepth 100000 in
theorem one17 {w : World} {n1 n2 : Bool} {a1 a2 : Option Addr} {l1 c1 l2 c2 k : Nat} (h1 : Zi w (.agg #[.bool n1, .slice a1 l1 c1]) 1 k) (h2 : Zi w (.agg #[.bool n2, .slice a2 l2 c2]) 1 k) : Calls Tryz.prog 38 #[.agg #[.bool n1, .slice a1 l1 c1, .bool n2, .slice a2 l2 c2]] w fun e w' => e = .returned (.bool true) ∧ Below w.heap.size w w' := by
  obtain ⟨V1, hV⟩ : ∃ V1, w.alloc (.cells #[.bool n1, .slice a1 l1 c1, .bool n2, .slice a2 l2 c2] 47) = V1 := ⟨_, rfl⟩
  obtain ⟨b, sz1⟩ := alo1 w (.cells #[.bool n1, .slice a1 l1 c1, .bool n2, .slice a2 l2 c2] 47)
  rw [hV] at b sz1
  have C : Cel V1 w.heap.size 47 [.bool n1, .slice a1 l1 c1, .bool n2, .slice a2 l2 c2] := by rw [← hV]; exact Cel.new w _ _
  have y0 := C.at (i := 0) rfl
  have y1 := C.at (i := 1) rfl
  have y2 := C.at (i := 2) rfl
  have y3 := C.at (i := 3) rfl
  have Z1 := hid (h1.now b)
  have Z2 := hid (h2.now b)
  have G := hid b
  have EV := hid hV
  have hc1 : cmpI 1 1 = 0 := by decide
  clear h1 h2 b sz1 hV C
  go_enter Tryz.func38, Tryz.ntmps38
  go_wp2_with fail
  rw [EV.out]
  clear EV
  have KB : Hid (∀ w', Below V1.heap.size V1 w' → w'.cell? ⟨w.heap.size, 0, none⟩ = some (.bool n1) ∧ w'.cell? ⟨w.heap.size, 1, none⟩ = some (.slice a1 l1 c1) ∧ w'.cell? ⟨w.heap.size, 2, none⟩ = some (.bool n2) ∧ w'.cell? ⟨w.heap.size, 3, none⟩ = some (.slice a2 l2 c2)) := fun w' h => ⟨cnow h y0, cnow h y1, cnow h y2, cnow h y3⟩
  refine wp_region_tail (fun w' => w'.cell? ⟨w.heap.size, 0, none⟩ = some (.bool n1) ∧ w'.cell? ⟨w.heap.size, 1, none⟩ = some (.slice a1 l1 c1) ∧ w'.cell? ⟨w.heap.size, 2, none⟩ = some (.bool n2) ∧ w'.cell? ⟨w.heap.size, 3, none⟩ = some (.slice a2 l2 c2)) 12 (by kernel_rfl) ?_
  obtain ⟨D21, hD⟩ : ∃ D21, V1.drew = D21 := ⟨_, rfl⟩
  have GB : Hid (Below V1.heap.size V1 D21) := by unfold Hid; rw [← hD]; exact (Below.refl _ _).drew
  rw [hD]
  clear hD
  refine wpAnyT_list [(0, (.pointer (some ⟨w.heap.size, 0, none⟩))), (1, (.agg #[.bool n1, .slice a1 l1 c1]))] 2 ?_ (KB.out _ GB.out) ?_
  · simp only [TakesV, gA9, g09, g19, Act.put, sI9, s09, s19]
    (repeat' (first | exact trivial | refine And.intro (Or.inl ⟨by rfl, ?_⟩) ?_)) <;> (intro w hSw; (try dsimp only at hSw); go_simp)
  simp only [actV, gA9, g09, g19, Act.put, sI9, s09, s19]
  refine wpAnyT_one (i := 2) (o := { dst := some 5, op := Op.call { callee := Callee.value (Operand.func 60), args := #[Operand.const (Value.int IntKind.i64 1)], argTypes := #[2] }, type := 45, pos := "outright.go:27", after := #[], guard := none }) (by kernel_rfl) rfl (fun K hK => ?_)
  go_simp
  go_at_call 60
  refine (of_z (n := 1) (by omega) (by omega) _).mono ?_
  rintro e w22 ⟨rr, rfl, zz, b⟩
  have lz22 := (show Below _ _ _ from b).size
  replace GB := hid (below_step GB.out b)
  obtain ⟨mp, xp, bp, dp, rfl⟩ := zz.parts
  have Mp := hid zz.zi
  clear zz
  clear b
  refine hK.out _ _ (fun _ => KB.out _ GB.out) ?_
  clear hK
  refine wpAnyT_one (i := 3) (o := { dst := some 6, op := Op.call { callee := Callee.value (Operand.func 71), args := #[Operand.tmp 4, Operand.tmp 5], argTypes := #[45, 45] }, type := 3, pos := "outright.go:27", after := #[{ on := 1, ground := Ground.data }, { on := 2, ground := Ground.data }, { on := 2, ground := Ground.chain }], guard := none }) (by kernel_rfl) rfl (fun K hK => ?_)
  go_simp
  go_at_call 71
  refine (cmp_z (Z1.out.now GB.out) Mp.out).mono ?_
  rintro e w23 ⟨rfl, b⟩
  have lz23 := (show Below _ _ _ from b).size
  replace GB := hid (below_step GB.out b)
  clear Mp
  clear b
  refine hK.out _ _ (fun _ => KB.out _ GB.out) ?_
  clear hK
  refine wpAnyT_list [(4, (.bool true)), (5, (.bool true)), (6, (.pointer (some ⟨w.heap.size, 2, none⟩))), (7, (.agg #[.bool n2, .slice a2 l2 c2]))] 4 ?_ (KB.out _ GB.out) ?_
  · simp only [TakesV, gA9, g09, g19, Act.put, sI9, s09, s19]
    (repeat' (first | exact trivial | refine And.intro (Or.inl ⟨by rfl, ?_⟩) ?_)) <;> (intro w hSw; (try dsimp only at hSw); go_simp)
  simp only [actV, gA9, g09, g19, Act.put, sI9, s09, s19]
  refine wpAnyT_one (i := 8) (o := { dst := some 11, op := Op.call { callee := Callee.value (Operand.func 60), args := #[Operand.const (Value.int IntKind.i64 1)], argTypes := #[2] }, type := 45, pos := "outright.go:27", after := #[{ on := 5, ground := Ground.chain }, { on := 5, ground := Ground.guard }], guard := some (5, true) }) (by kernel_rfl) rfl (fun K hK => ?_)
  go_simp
  go_at_call 60
  refine (of_z (n := 1) (by omega) (by omega) _).mono ?_
  rintro e w24 ⟨rr, rfl, zz, b⟩
  have lz24 := (show Below _ _ _ from b).size
  replace GB := hid (below_step GB.out b)
  obtain ⟨mq, xq, bq, dq, rfl⟩ := zz.parts
  have Mq := hid zz.zi
  clear zz
  clear b
  refine hK.out _ _ (fun _ => KB.out _ GB.out) ?_
  clear hK
  refine wpAnyT_one (i := 9) (o := { dst := some 12, op := Op.call { callee := Callee.value (Operand.func 71), args := #[Operand.tmp 10, Operand.tmp 11], argTypes := #[45, 45] }, type := 3, pos := "outright.go:27", after := #[{ on := 7, ground := Ground.data }, { on := 8, ground := Ground.data }, { on := 8, ground := Ground.chain }, { on := 5, ground := Ground.guard }], guard := some (5, true) }) (by kernel_rfl) rfl (fun K hK => ?_)
  go_simp
  go_at_call 71
  refine (cmp_z (Z2.out.now GB.out) Mq.out).mono ?_
  rintro e w25 ⟨rfl, b⟩
  have lz25 := (show Below _ _ _ from b).size
  replace GB := hid (below_step GB.out b)
  clear Mq
  clear b
  refine hK.out _ _ (fun _ => KB.out _ GB.out) ?_
  clear hK
  refine wpAnyT_list [(10, (.bool true)), (11, (.bool true))] 2 ?_ (KB.out _ GB.out) ?_
  · simp only [TakesV, gA9, g09, g19, Act.put, sI9, s09, s19]
    (repeat' (first | exact trivial | refine And.intro (Or.inl ⟨by rfl, ?_⟩) ?_)) <;> (intro w hSw; (try dsimp only at hSw); go_simp)
  simp only [actV, gA9, g09, g19, Act.put, sI9, s09, s19]
  refine wpAnyT_one (i := 12) (o := { dst := some 2, op := Op.assign (Operand.tmp 14), type := 4, pos := "outright.go:27", after := #[{ on := 11, ground := Ground.data }, { on := 9, ground := Ground.chain }, { on := 0, ground := Ground.phase }, { on := 1, ground := Ground.phase }, { on := 2, ground := Ground.phase }, { on := 3, ground := Ground.phase }, { on := 4, ground := Ground.phase }, { on := 5, ground := Ground.phase }, { on := 6, ground := Ground.phase }, { on := 7, ground := Ground.phase }, { on := 8, ground := Ground.phase }, { on := 9, ground := Ground.phase }, { on := 10, ground := Ground.phase }, { on := 11, ground := Ground.phase }], guard := none }) (by kernel_rfl) rfl (fun K hK => ?_)
  go_simp
  refine hK.out _ _ (fun h => absurd h (by decide)) ?_
  clear hK
  try simp only [Act.put]
  refine wpAnyT_done (by kernel_rfl) ?_ _
  have FIN := hid (below_step G.out GB.out)
  clear GB KB Z1 Z2 G y0 y1 y2 y3
  go_wp2
  go_ret
  exact ⟨rfl, FIN.out⟩
end Go.Proofs.YtcceoildbnoliaaGreat
