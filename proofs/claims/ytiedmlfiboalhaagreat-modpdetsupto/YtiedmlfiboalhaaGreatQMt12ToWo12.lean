/-
  QMt12ToWo12: Mt12, Ca12, Wo12, joined.
-/
import Derived.Test.YtiedmlfiboalhaaGreatQCw12ToTy9
import Derived.Test.YtiedmlfiboalhaaGreatQDot9ToDotsA9
import Derived.Test.YtiedmlfiboalhaaGreatQPure9ToDt12
import Derived.Test.YtiedmlfiboalhaaGreatQSb12ToLin12
import Derived.Test.YtiedmlfiboalhaaGreatQDim12ToBr12

/- Mt12 -/
namespace Go.Proofs.YtiedmlfiboalhaaGreat
open Go.RowKit
set_option linter.unusedVariables false

/-- A list of words that may be read. -/
def Rw (w : World) (v : Value) (xs : List Int) : Prop := ∃ a cap, v = .slice a xs.length cap ∧ xs.length ≤ cap ∧ (0 < xs.length → ∃ b off, a = some ⟨b, off, none⟩ ∧ b < w.heap.size ∧ ∀ j (h : j < xs.length), w.cell? ⟨b, off + j, none⟩ = some (.int .u64 xs[j]))
theorem Rw.now {w w' : World} {v : Value} {xs : List Int} (h : Rw w v xs) (hb : Below w.heap.size w w') : Rw w' v xs := by
  obtain ⟨a, cap, h1, h2, h3⟩ := h
  refine ⟨a, cap, h1, h2, fun hp => ?_⟩
  obtain ⟨b, off, q1, q2, q3⟩ := h3 hp
  exact ⟨b, off, q1, Nat.lt_of_lt_of_le q2 hb.size, fun j hj => (hb.cell (p := ⟨b, off + j, none⟩) q2).trans (q3 j hj)⟩
theorem OwnW.rw {B : Nat} {w : World} {v : Value} {xs : List Int} (h : OwnW B w v xs) : Rw w v xs := by
  have h' := h
  obtain ⟨q1, ⟨q2, q3⟩ | ⟨g, cap, cur, q2, q3, q4, q5, q6⟩⟩ := h
  · exact ⟨none, 0, by rw [q2, q3], by omega, fun hp => by omega⟩
  · refine ⟨_, cap, q2, q5, fun _ => ⟨g, 0, rfl, (Array.getElem?_eq_some_iff.1 q4).1, fun j hj => ?_⟩⟩
    rw [q2] at h'
    have := h'.cellAt j (by omega)
    rw [Nat.zero_add, this]
    simp [ws, hj]
def IntH (w : World) (n : Nat) (F : Nat → Int) (gk : Nat) (s : Value) (wx : World) : Prop := ∃ i : Nat, s = .int .i64 (i : Int) ∧ i ≤ n ∧ gk = n - i ∧ FilM wx w.heap.size n i F 1 ∧ Below w.heap.size w wx
set_option maxHeartbeats 1600000 in
set_option maxRecDepth 100000 in
theorem integers12 {w : World} {p : Nat} {v : Value} {xs : List Int} (hv : Rw w v xs) (hr : Res p xs) (hp2 : p < 2147483648) (hl : xs.length ≤ 1048576) :
    Calls Tryz.prog 49 #[v] w (ListedM w xs 1) := by
  have HMP : Hid (xs = (List.range xs.length).map fun j => xs.getD j 0) := by
    unfold Hid
    apply List.ext_getElem
    · simp
    · intro j h1 h2
      simp [h1]
  have V0 := hid hv
  have HR := hid hr
  obtain ⟨a0, c0, rfl, hc0, -⟩ := hv
  obtain ⟨n, hn⟩ : ∃ n, xs.length = n := ⟨_, rfl⟩
  rw [hn] at V0 hc0 hl HMP ⊢
  have HN := hid hn
  clear hr hn
  go_enter Tryz.func49, Tryz.ntmps49
  go_wp2_with (at_make; refine wpList_make_pairs9 _ rfl _ _ rfl _ _ n n rfl rfl rfl rfl (Nat.le_refl _) (by omega) ?_)
  intro w1 hrow hb1 hsz1
  have H0 : Hid (IntH w n (fun j => xs.getD j 0) n (.int .i64 0) w1) := ⟨0, rfl, Nat.zero_le _, by omega, FilM.start hrow _ _, hb1⟩
  clear hrow hb1 hsz1
  go_wp2_with fail
  go_loopg [11] n (fun gk s11 wx => IntH w n (fun j => xs.getD j 0) gk s11 wx)
  case atStart => exact H0.out
  case round =>
    clear H0
    obtain ⟨i, rfl, hin, hg, hfil, hG⟩ := hrel
    have FI := hid hfil
    have G := hid hG
    have HG := hid hg
    clear hfil hG hg
    by_cases hlt : i < n
    · have hlt' : (i : Int) < (n : Int) := by omega
      have hix : i < xs.length := by rw [HN.out]; exact hlt
      obtain ⟨a1, cap1, e1, e2, e3⟩ := V0.out.now G.out
      simp only [Value.slice.injEq] at e1
      obtain ⟨rfl, -, -⟩ := e1
      obtain ⟨b, off, rfl, hbs, hcs⟩ := e3 (by omega)
      have k0 := hcs i hix
      have hx : xs.getD i 0 = xs[i] := by simp [hix]
      have rx := HR.out.at hix
      rw [← hx] at k0 rx
      obtain ⟨x, hxx⟩ : ∃ x, xs.getD i 0 = x := ⟨_, rfl⟩
      rw [hxx] at k0 rx
      have HXX := hid hxx
      have cv : IntKind.i64.wrap x = x := by unfold IsR at rx; rw [wrap_is] <;> omega
      have HS := hid (of_z (n := x) (by unfold IsR at rx; omega) (by unfold IsR at rx; omega) wr)
      have hw := wrapI9 (i := i) (by omega)
      clear e2 e3 hcs hbs hx hxx rx
      go_wp2_with fail
      refine HS.out.mono ?_
      rintro e w1 ⟨r, rfl, m1, b1⟩
      have FI1 := hid (FI.out.step b1)
      have G1 := hid (below_step G.out b1)
      have M1 : Hid (Zm 0 w1 r (xs.getD i 0) 1) := by unfold Hid; rw [HXX.out]; exact m1.mono (Nat.zero_le _)
      obtain ⟨nr, xr, ar, cr, rfl⟩ := m1.parts
      obtain ⟨m0, am, lm, cm, e0, e1, e2, e3⟩ := FI1.out.cells hlt
      have HN1 : Hid (IntH w n (fun j => xs.getD j 0) (n - (i + 1)) (.int .i64 ((i + 1 : Nat) : Int)) ((w1.setCell ⟨w.heap.size, i * 2, none⟩ (.bool nr)).setCell ⟨w.heap.size, i * 2 + 1, none⟩ (.slice ar xr.length cr))) :=
        ⟨i + 1, rfl, by omega, rfl, FI1.out.put hlt M1.out, bset (bset G1.out (Nat.le_refl _)) (Nat.le_refl _)⟩
      have HMM : Hid (n - (i + 1) < gk) := by unfold Hid; rw [HG.out]; omega
      clear HS FI G HG FI1 G1 M1 m1 b1 k0 HXX
      go_wp2_with fail
      go_roundg (n - (i + 1))
      case rel => exact HN1.out
      case measure => exact HMM.out
    · have hlt' : ¬ (i : Int) < (n : Int) := by omega
      obtain rfl : i = n := by omega
      obtain ⟨ps, p1, p2⟩ := FI.out.done hl
      rw [← HMP.out] at p2
      have FIN : Hid (ListedM w xs 1 (.returned (.slice (some ⟨w.heap.size, 0, none⟩) i i)) wr) := ⟨_, ps, rfl, p1, p2, G.out⟩
      clear FI G HG p1 p2
      go_wp2
      go_ret
      exact FIN.out
theorem flatten_res {p : Nat} {ls : List (List Int)} (h : ResM p ls) : Res p ls.flatten := fun x hx => by
  obtain ⟨l, hl, hx⟩ := List.mem_flatten.1 hx
  exact h l hl x hx
theorem flatten_len {m : Nat} {ls : List (List Int)} (h : WidE m ls) : ls.flatten.length = ls.length * m := by
  have := take_flat (pss := ls) (fun ps hp => h ps hp) ls.length (Nat.le_refl _)
  rw [List.take_length] at this
  exact this
set_option maxHeartbeats 3200000 in
set_option maxRecDepth 100000 in
theorem matrix12 {w : World} {lv : Value} {p r c : Nat} {ls : List (List Int)} (hv : Rdl w lv ls) (hw : WidE c ls) (hr : ResM p ls) (hp2 : p < 2147483648) (hl : ls.length = r) (hr2 : r ≤ 64) (hc : c ≤ 64) :
    Calls Tryz.prog 30 #[shv p c lv] w (GivesM w r c ls.flatten 1) := by
  have hrc : r * c ≤ 64 * 64 := Nat.mul_le_mul hr2 hc
  have hfl : ls.flatten.length = r * c := by rw [flatten_len hw, hl]
  obtain ⟨a, cap, rfl, hcap, -, -⟩ := hv.form
  rw [hl] at hv hcap ⊢
  obtain ⟨W0, hW⟩ : ∃ W0, (w.alloc (shO p c (.slice a r cap))).alloc mbox = W0 := ⟨_, rfl⟩
  have b0 : Below w.heap.size w W0 := by rw [← hW]; exact ((Below.refl _ _).alloc (Nat.le_refl _) _).alloc (by simp) _
  have sz0 : W0.heap.size = w.heap.size + 2 := by rw [← hW]; simp
  have P1 : Hid (Cel W0 w.heap.size 55 (shc p c (.slice a r cap))) := by unfold Hid; rw [← hW]; exact (Cel.new w _ _).step (alo12 _ _).1
  have PR : Hid (Cel W0 (w.heap.size + 1) 24 [.int .i64 0, .int .i64 0, .slice none 0 0]) := by
    unfold Hid; rw [← hW]
    have := Cel.new (w.alloc (shO p c (.slice a r cap))) 24 [.int .i64 0, .int .i64 0, .slice none 0 0]
    simpa using this
  have k1 := P1.out.at (i := 1) rfl
  have k2 := P1.out.at (i := 2) rfl
  have V0 := hid (hv.now b0)
  have HWD := hid hw
  have HRS := hid hr
  have HLN := hid hl
  obtain ⟨FT, hFT⟩ : ∃ FT, ls.flatten = FT := ⟨_, rfl⟩
  have HC : Hid (∀ w', Below W0.heap.size W0 w' → Calls Tryz.prog 50 #[.slice a r cap] w' (CattedW w' FT)) := fun w' h => by
    have := concatW_any (V0.out.now h) HWD.out (by rw [hl]; omega) (by omega)
    rw [hFT] at this
    exact this
  have HRF : Hid (Res p FT) := by unfold Hid; rw [← hFT]; exact flatten_res hr
  rw [hFT] at hfl ⊢
  have HFL := hid hfl
  have G0 := hid b0
  have EW := hid hW
  have SZ := hid sz0
  have hrc2 := hrc
  clear b0 sz0 hW hv hw hr hl hFT hfl hrc
  go_enter Tryz.func30, Tryz.ntmps30
  go_wp2_with fail
  rw [EW.out]
  clear EW
  have KB : Hid (∀ w', Below W0.heap.size W0 w' → w'.cell? ⟨w.heap.size, 1, none⟩ = some (.int .i64 (c : Int)) ∧ w'.cell? ⟨w.heap.size, 2, none⟩ = some (.slice a r cap)) := fun w' h => ⟨cnow h k1, cnow h k2⟩
  refine wp_region_tail (fun w' => w'.cell? ⟨w.heap.size, 1, none⟩ = some (.int .i64 (c : Int)) ∧ w'.cell? ⟨w.heap.size, 2, none⟩ = some (.slice a r cap)) 10 (by kernel_rfl) ?_
  obtain ⟨D1, hD⟩ : ∃ D1, W0.drew = D1 := ⟨_, rfl⟩
  have GB : Hid (Below W0.heap.size W0 D1) := by unfold Hid; rw [← hD]; exact (Below.refl _ _).drew
  rw [hD]
  clear hD
  refine wpAnyT_take (i := 0) (oi := { dst := some 3, op := Op.fieldAddr 55 (Operand.tmp 1) 2, type := 0, pos := "sheet.go:49", after := #[], guard := none }) (v := (.pointer (some ⟨w.heap.size, 2, none⟩))) rfl (by kernel_rfl) (fun _ _ _ h => h) (Or.inl ⟨by rfl, ?_⟩) (KB.out _ GB.out) ?_
  · intro w hSw
    (try dsimp only at hSw)
    go_simp
  simp only [Act.put, List.setIfInBounds_toArray, List.set_cons_zero, List.set_cons_succ]
  refine wpAnyT_take (i := 1) (oi := { dst := some 4, op := Op.load 53 (Operand.tmp 3), type := 53, pos := "sheet.go:49", after := #[{ on := 0, ground := Ground.data }], guard := none }) (v := (.slice a r cap)) rfl (by kernel_rfl) (fun _ _ _ h => h) (Or.inl ⟨by rfl, ?_⟩) (KB.out _ GB.out) ?_
  · intro w hSw
    (try dsimp only at hSw)
    go_simp
  simp only [Act.put, List.setIfInBounds_toArray, List.set_cons_zero, List.set_cons_succ]
  refine wpAnyT_take (i := 2) (oi := { dst := some 5, op := Op.call { callee := Callee.builtin Builtin.len, args := #[Operand.tmp 4], argTypes := #[53] }, type := 3, pos := "sheet.go:49", after := #[{ on := 1, ground := Ground.data }], guard := none }) (v := (.int .i64 (r : Int))) rfl (by kernel_rfl) (fun _ _ _ h => h) (Or.inl ⟨by rfl, ?_⟩) (KB.out _ GB.out) ?_
  · intro w hSw
    (try dsimp only at hSw)
    go_simp
  simp only [Act.put, List.setIfInBounds_toArray, List.set_cons_zero, List.set_cons_succ]
  refine wpAnyT_take (i := 3) (oi := { dst := some 6, op := Op.fieldAddr 55 (Operand.tmp 1) 1, type := 0, pos := "sheet.go:49", after := #[], guard := none }) (v := (.pointer (some ⟨w.heap.size, 1, none⟩))) rfl (by kernel_rfl) (fun _ _ _ h => h) (Or.inl ⟨by rfl, ?_⟩) (KB.out _ GB.out) ?_
  · intro w hSw
    (try dsimp only at hSw)
    go_simp
  simp only [Act.put, List.setIfInBounds_toArray, List.set_cons_zero, List.set_cons_succ]
  refine wpAnyT_take (i := 4) (oi := { dst := some 7, op := Op.load 3 (Operand.tmp 6), type := 3, pos := "sheet.go:49", after := #[{ on := 3, ground := Ground.data }], guard := none }) (v := (.int .i64 (c : Int))) rfl (by kernel_rfl) (fun _ _ _ h => h) (Or.inl ⟨by rfl, ?_⟩) (KB.out _ GB.out) ?_
  · intro w hSw
    (try dsimp only at hSw)
    go_simp
  simp only [Act.put, List.setIfInBounds_toArray, List.set_cons_zero, List.set_cons_succ]
  refine wpAnyT_take (i := 5) (oi := { dst := some 8, op := Op.fieldAddr 55 (Operand.tmp 1) 2, type := 0, pos := "sheet.go:49", after := #[], guard := none }) (v := (.pointer (some ⟨w.heap.size, 2, none⟩))) rfl (by kernel_rfl) (fun _ _ _ h => h) (Or.inl ⟨by rfl, ?_⟩) (KB.out _ GB.out) ?_
  · intro w hSw
    (try dsimp only at hSw)
    go_simp
  simp only [Act.put, List.setIfInBounds_toArray, List.set_cons_zero, List.set_cons_succ]
  refine wpAnyT_take (i := 6) (oi := { dst := some 9, op := Op.load 53 (Operand.tmp 8), type := 53, pos := "sheet.go:49", after := #[{ on := 5, ground := Ground.data }], guard := none }) (v := (.slice a r cap)) rfl (by kernel_rfl) (fun _ _ _ h => h) (Or.inl ⟨by rfl, ?_⟩) (KB.out _ GB.out) ?_
  · intro w hSw
    (try dsimp only at hSw)
    go_simp
  simp only [Act.put, List.setIfInBounds_toArray, List.set_cons_zero, List.set_cons_succ]
  refine wpAnyT_one (i := 7) (o := { dst := some 10, op := Op.call { callee := Callee.value (Operand.func 50), args := #[Operand.tmp 9], argTypes := #[53] }, type := 41, pos := "sheet.go:49", after := #[{ on := 6, ground := Ground.data }], guard := none }) (by kernel_rfl) rfl (fun K hK => ?_)
  go_simp
  go_at_call 50
  refine (HC.out _ GB.out).mono ?_
  rintro e w2 ⟨u, rfl, ho, b⟩
  have lz2 := (show Below _ _ _ from b).size
  replace GB := hid (below_step GB.out b)
  have PC := hid ho.rw
  obtain ⟨ac, cc, rfl, -, -⟩ := PC.out
  clear ho
  clear b
  refine hK.out _ _ (fun _ => KB.out _ GB.out) ?_
  clear hK
  refine wpAnyT_one (i := 8) (o := { dst := some 11, op := Op.call { callee := Callee.value (Operand.func 49), args := #[Operand.tmp 10], argTypes := #[41] }, type := 22, pos := "sheet.go:49", after := #[{ on := 7, ground := Ground.data }, { on := 7, ground := Ground.chain }], guard := none }) (by kernel_rfl) rfl (fun K hK => ?_)
  go_simp
  go_at_call 49
  refine (integers12 PC.out HRF.out hp2 (by rw [HFL.out]; omega)).mono ?_
  rintro e w3 ⟨u, ps, rfl, p1, p2, b⟩
  have lz3 := (show Below _ _ _ from b).size
  replace GB := hid (below_step GB.out b)
  obtain ⟨au, cu, rfl, -, -, -, -⟩ := p1.1.form
  have hql : ps.length = r * c := by rw [p2.1, HFL.out]
  obtain ⟨n, hn⟩ : ∃ n, r * c = n := ⟨_, rfl⟩
  rw [hql, hn] at p1
  rw [hql, hn]
  have HNN := hid hn
  have PP := hid p1
  have PZ := hid p2
  clear p1 p2 hql hn
  clear b
  refine hK.out _ _ (fun _ => KB.out _ GB.out) ?_
  clear hK
  refine wpAnyT_take (i := 9) (oi := { dst := some 12, op := Op.build 24 #[(0, Operand.tmp 5), (1, Operand.tmp 7), (2, Operand.tmp 11)], type := 24, pos := "sheet.go:49", after := #[{ on := 2, ground := Ground.data }, { on := 4, ground := Ground.data }, { on := 8, ground := Ground.data }], guard := none }) (v := (.agg #[.int .i64 (r : Int), .int .i64 (c : Int), .slice au n cu])) rfl (by kernel_rfl) (fun _ _ _ h => h) (Or.inl ⟨by rfl, ?_⟩) (KB.out _ GB.out) ?_
  · intro w hSw
    (try dsimp only at hSw)
    go_simp
  simp only [Act.put, List.setIfInBounds_toArray, List.set_cons_zero, List.set_cons_succ]
  refine wpAnyT_one (i := 10) (o := { dst := none, op := Op.store 24 (Operand.tmp 2) (Operand.tmp 12), type := 0, pos := "sheet.go:49", after := #[{ on := 9, ground := Ground.data }, { on := 8, ground := Ground.chain }, { on := 0, ground := Ground.phase }, { on := 1, ground := Ground.phase }, { on := 2, ground := Ground.phase }, { on := 3, ground := Ground.phase }, { on := 4, ground := Ground.phase }, { on := 5, ground := Ground.phase }, { on := 6, ground := Ground.phase }, { on := 7, ground := Ground.phase }, { on := 8, ground := Ground.phase }, { on := 9, ground := Ground.phase }], guard := none }) (by kernel_rfl) rfl (fun K hK => ?_)
  have PR2 := hid (PR.out.step GB.out)
  have y0 := PR2.out.at (i := 0) rfl
  have y1 := PR2.out.at (i := 1) rfl
  have y2 := PR2.out.at (i := 2) rfl
  have g0 := PR2.out.fz 0
  have g1 := PR2.out.fz 1
  have g2 := PR2.out.fz 2
  go_simp
  refine hK.out _ _ (fun h => absurd h (by decide)) ?_
  clear hK
  try simp only [Act.put]
  refine wpAnyT_done (by kernel_rfl) ?_ _
  have FIN : Hid (GivesM w r c FT 1 (.returned (.agg #[.int .i64 (r : Int), .int .i64 (c : Int), .slice au n cu])) (put3 w3 (w.heap.size + 1) (.int .i64 (r : Int)) (.int .i64 (c : Int)) (.slice au n cu))) := by
    refine ⟨_, rfl, ⟨_, ps, rfl, ?_, PZ.out.zcs.wk (PR2.out.wk3 _ _ _), HFL.out, hr2, hc⟩, below_put3 (below_step G0.out GB.out) (by omega) _ _ _⟩
    have t1 : Ty 24 w3 (put3 w3 (w.heap.size + 1) (.int .i64 (r : Int)) (.int .i64 (c : Int)) (.slice au n cu)) := ((Ty.set PR2.out).trans (Ty.set (PR2.out.set 0 _))).trans (Ty.set ((PR2.out.set 0 _).set 1 _))
    exact (PP.out.ty t1 (by decide)).1
  have PG := hid (PR2.out.put3 (.int .i64 (r : Int)) (.int .i64 (c : Int)) (.slice au n cu))
  clear PR PR2 PP PZ GB KB HC G0 k1 k2 y0 y1 y2 g0 g1 g2
  go_wp2
  exact bodyPost_ret (mback Tryz.results30 PG.out _ (by rfl)) rfl FIN.out
end Go.Proofs.YtiedmlfiboalhaaGreat

/- Ca12 -/
namespace Go.Proofs.YtiedmlfiboalhaaGreat
open Go.RowKit
set_option linter.unusedVariables false

theorem linesL_flat {p r c : Nat} {zs : List Int} (hl : zs.length = r * c) : (linesL p r c zs).flatten = resL p zs := by
  unfold linesL rowsL
  have key : ∀ k, k ≤ r → (((List.range k).map fun i => (zs.drop (i * c)).take c).map (resL p)).flatten = resL p (zs.take (k * c)) := by
    intro k
    induction k with
    | zero => intro _; simp [resL]
    | succ k ih =>
      intro hk
      rw [List.range_succ, List.map_append, List.map_append, List.flatten_append, ih (by omega)]
      simp only [List.map_cons, List.map_nil, List.flatten_cons, List.flatten_nil, List.append_nil]
      unfold resL
      rw [← List.map_append, Nat.add_mul, Nat.one_mul, List.take_add]
  rw [key r (Nat.le_refl _), List.take_of_length_le (by omega)]
theorem gd_parts {p : Nat} (h : gdB p = true) : IsPr p ∧ p < 2147483648 := by
  unfold gdB at h
  rw [Bool.and_eq_true, decide_eq_true_eq, prB_iff] at h
  exact ⟨h.2, h.1⟩
end Go.Proofs.YtiedmlfiboalhaaGreat

/- Wo12 -/
namespace Go.Proofs.YtiedmlfiboalhaaGreat
open Go.RowKit
set_option linter.unusedVariables false

theorem wideL_wide {c r : Nat} {ms : List (List Int)} (h : WidE c ms) (hl : ms.length = r) : WidE (c + r) (wideL r ms) := fun l hm => by
  obtain ⟨i, hi, rfl⟩ := List.mem_map.1 hm
  rw [List.length_append, uniR_len, h.at (by rw [hl]; exact List.mem_range.1 hi)]
theorem uniR_res {p : Nat} (hp : 2 ≤ p) (r i : Nat) : Res p (uniR r i) := fun x hx => by
  obtain ⟨j, _, rfl⟩ := List.mem_map.1 hx
  split <;> exact ⟨by omega, by omega⟩
theorem wideL_res {p r : Nat} {ms : List (List Int)} (hp : 2 ≤ p) (h : ResM p ms) : ResM p (wideL r ms) := fun l hm => by
  obtain ⟨i, hi, rfl⟩ := List.mem_map.1 hm
  intro x hx
  rcases List.mem_append.1 hx with q | q
  · exact h.at i x q
  · exact uniR_res hp r i x q
/-- The state behind worked. -/
def wkS (p r c : Nat) (zs : List Int) : St12 := red12 p (wideL r (linesL p r c zs)) (c + r)
def wkR (p r c : Nat) (zs : List Int) : Nat := cntB (wkS p r c zs).pv c
theorem wk_ok {p r c : Nat} {zs : List Int} (hp : 2 ≤ p) (hl : zs.length = r * c) : Ok12 p (c + r) (c + r) r (wkS p r c zs) :=
  Ok12.red hp (wideL_wide (linesL_wide hl) (linesL_len _ _ _ _)) (wideL_res hp (linesL_res (by omega))) (wideL_len _ _) (c + r)
theorem wk_sorted {p r c : Nat} {zs : List Int} (hp : IsPr p) (hl : zs.length = r * c) : (wkS p r c zs).pv.Pairwise (· < ·) := by
  have hp2 := hp.1
  haveI : NeZero p := ⟨by omega⟩
  exact (red_rref hp (wideL_wide (linesL_wide hl) (linesL_len _ _ _ _)) (wideL_res hp2 (linesL_res (by omega))) (wideL_len _ _) (c + r) (Nat.le_refl _)).1.sorted
theorem sback1 {f : Func} {s1 s3 : Nat} (hr : f.results = #[ResultVar.cell s1 55, ResultVar.tmp s3]) {W : World} {b : Nat} {x0 x1 x2 e : Value} (h : Cel W b 55 [x0, x1, x2]) (tmps : Array Value) (ht : tmps[s1]? = some (.pointer (some ⟨b, 0, none⟩))) (he : tmps[s3]? = some e) :
    (results f tmps).run Tryz.prog W = .ok (.tuple #[.agg #[x0, x1, x2], e]) W := by
  simp [results, hr, go_sem, ht, he, h.at (i := 0) rfl, h.at (i := 1) rfl, h.at (i := 2) rfl]
def Worked (w : World) (p r c : Nat) (zs : List Int) (e : Ending) (w' : World) : Prop :=
  ∃ lv gs pa pcap, e = .returned (.tuple #[shv p (c + r) lv, .slice pa (wkR p r c zs) pcap]) ∧ Lns w.heap.size w' lv (c + r) gs (wkS p r c zs).m ∧ Below w.heap.size w w'
set_option maxHeartbeats 3200000 in
set_option maxRecDepth 100000 in
theorem worked12 {w : World} {v : Value} {p r c : Nat} {zs : List Int} {K : Nat} (hp : gdB p = true) (h : Mx w v r c zs K) (hK : K ≤ 1099511627775) :
    Calls Tryz.prog 28 #[v, .int .u64 (p : Int)] w (Worked w p r c zs) := by
  obtain ⟨hpr, hp2⟩ := gd_parts hp
  have hp1 := hpr.1
  have hm0 := h
  obtain ⟨a, cap, rfl, hr, hc⟩ := h.form
  have hl : zs.length = r * c := by obtain ⟨_, _, _, _, _, q, _⟩ := hm0; exact q
  have OKS := hid (wk_ok (p := p) (c := c) (r := r) hp1 hl)
  have SRT := hid (wk_sorted (p := p) hpr hl)
  obtain ⟨n, hn⟩ : ∃ n, r * c = n := ⟨_, rfl⟩
  rw [hn] at hm0 ⊢
  obtain ⟨W0, hW⟩ : ∃ W0, (w.alloc (mrO (r : Int) (c : Int) a n cap)).alloc shz = W0 := ⟨_, rfl⟩
  have b0 : Below w.heap.size w W0 := by rw [← hW]; exact ((Below.refl _ _).alloc (Nat.le_refl _) _).alloc (by simp) _
  have sz0 : W0.heap.size = w.heap.size + 2 := by rw [← hW]; simp
  have P1 : Hid (Cel W0 w.heap.size 24 (mrC (r : Int) (c : Int) a n cap)) := by unfold Hid; rw [← hW]; exact (Cel.new w _ _).step (alo12 _ _).1
  have PR : Hid (Cel W0 (w.heap.size + 1) 55 [.int .u64 0, .int .i64 0, .slice none 0 0]) := by
    unfold Hid; rw [← hW]
    have := Cel.new (w.alloc (mrO (r : Int) (c : Int) a n cap)) 55 [.int .u64 0, .int .i64 0, .slice none 0 0]
    simpa using this
  have x0 := P1.out.at (i := 0) rfl
  have x1 := P1.out.at (i := 1) rfl
  have x2 := P1.out.at (i := 2) rfl
  rw [← hW] at x0 x1 x2
  have HSH := hid (sheetOf12 hp1 hp2 (hm0.now b0) hK)
  have G0 := hid b0
  have EW := hid hW
  have SZ := hid sz0
  obtain ⟨LL, hLL⟩ : ∃ LL, linesL p r c zs = LL := ⟨_, rfl⟩
  have HLN : Hid (LL.length = r) := by unfold Hid; rw [← hLL]; exact linesL_len _ _ _ _
  obtain ⟨ML, hML⟩ : ∃ ML, wideL r LL = ML := ⟨_, rfl⟩
  have HRS : Hid (ResM p ML) := by unfold Hid; rw [← hML, ← hLL]; exact wideL_res hp1 (linesL_res (by omega))
  have HMN : Hid (ML.length = r) := by unfold Hid; rw [← hML]; exact wideL_len _ _
  obtain ⟨N, hN⟩ : ∃ N, c + r = N := ⟨_, rfl⟩
  have HNN := hid hN
  have HS : Hid (wkS p r c zs = red12 p ML N) := by unfold Hid wkS; rw [hLL, hML, hN]
  obtain ⟨S, hS⟩ : ∃ S, wkS p r c zs = S := ⟨_, rfl⟩
  obtain ⟨rk, hrk⟩ : ∃ rk, wkR p r c zs = rk := ⟨_, rfl⟩
  have HRK : Hid (cntB S.pv c = rk) := by unfold Hid; rw [← hrk, ← hS]; rfl
  rw [hS] at OKS SRT HS
  have HPL : Hid (S.pv.length ≤ r) := OKS.out.piv
  have HRL : Hid (rk ≤ S.pv.length) := by unfold Hid; rw [← HRK.out]; exact cntB_le _ _
  have HBU := hML
  have HWK : Hid (∀ e w', (∃ lv gs pa pcap, e = .returned (.tuple #[shv p N lv, .slice pa rk pcap]) ∧ Lns w.heap.size w' lv N gs S.m ∧ Below w.heap.size w w') → Worked w p r c zs e w') := fun e w' q => by
    unfold Worked
    rw [hN, hrk, hS]
    exact q
  rw [hLL] at HSH
  clear b0 hW h hm0 hK hLL hl hn hpr hp hS hrk sz0 hN
  refine Calls.mono ?_ (fun e w' q => HWK.out e w' q)
  clear HWK
  go_enter Tryz.func28, Tryz.ntmps28
  go_wp2_with fail
  rw [EW.out]
  refine HSH.out.mono ?_
  rintro e w1 ⟨lv, gs, rfl, hln, b1⟩
  have HB := hid (besideUnit12 (p := p) hln HLN.out hr hc)
  rw [HBU, HNN.out] at HB
  obtain ⟨la, lcap, rfl, -, -⟩ := hln.form
  replace P1 := hid (P1.out.step b1)
  replace PR := hid (PR.out.step b1)
  have G1 := hid (below_step G0.out b1)
  have L1 : Hid (w.heap.size + 2 ≤ w1.heap.size) := by unfold Hid; have := SZ.out; have := b1.size; omega
  clear HSH hln b1 x0 x1 x2 EW G0 SZ HBU
  go_wp2_with fail
  refine HB.out.mono ?_
  rintro e w2 ⟨lv2, gs2, rfl, hln2, b2⟩
  obtain ⟨la2, lcap2, rfl, -, -⟩ := hln2.form
  rw [HMN.out] at hln2 ⊢
  obtain ⟨V, hV⟩ : ∃ V, w2.alloc (shO p N (.slice la2 r lcap2)) = V := ⟨_, rfl⟩
  obtain ⟨b3, sz3⟩ := alo12 w2 (shO p N (.slice la2 r lcap2))
  rw [hV] at b3 sz3
  have PV : Hid (Cel V w2.heap.size 55 (shc p N (.slice la2 r lcap2))) := by unfold Hid; rw [← hV]; exact Cel.new _ _ _
  replace P1 := hid ((P1.out.step b2).step b3)
  replace PR := hid ((PR.out.step b2).step b3)
  have G3 := hid (below_step (below_step G1.out b2) b3)
  have HRD := hid (reduce12 hp1 hp2 (hln2.now b3) HRS.out HMN.out hr (by have := HNN.out; omega) (Nat.le_trans b2.size b3.size))
  have L2 : Hid (w1.heap.size ≤ w2.heap.size) := b2.size
  have y0 := PV.out.at (i := 0) rfl
  have y1 := PV.out.at (i := 1) rfl
  have y2 := PV.out.at (i := 2) rfl
  rw [← hV] at y0 y1 y2
  have EV := hid hV
  clear HB hln2 b2 b3 sz3 hV G1
  go_wp2_with fail
  rw [EV.out]
  refine HRD.out.mono ?_
  rintro e w5 ⟨pvv, gs9, rfl, hpv, hln9, b9⟩
  rw [← HS.out] at hpv hln9 ⊢
  replace P1 := hid (b9.2 _ _ _ P1.out (by decide) (by decide))
  replace PR := hid (b9.2 _ _ _ PR.out (by decide) (by decide))
  replace PV := hid (b9.2 _ _ _ PV.out (by decide) (by decide))
  have G5 : Hid (Below w.heap.size w w5) := by
    unfold Hid
    exact G3.out.trans (b9.1.mono (by have := L1.out; omega))
  have HSE := hid (search12 (x := c) hpv SRT.out (by have := HPL.out; omega))
  rw [HRK.out] at HSE
  obtain ⟨pa, pcap, rfl, hpc⟩ := hpv.form
  have LN := hid hln9
  have z1 := P1.out.at (i := 1) rfl
  have HPA : Hid (∃ a2 cap2, ∀ wx, (Instr.slice 51 (.slice pa S.pv.length pcap) none (some (.int .i64 (rk : Int))) none).run Tryz.prog wx = .ok (.slice a2 rk cap2) wx) := by
    unfold Hid
    have h1 := HRL.out
    have i1 : (0 : Int) ≤ (rk : Int) := by omega
    have i2 : (rk : Int) ≤ (pcap : Int) := by omega
    obtain ⟨q1, ⟨q2, q3⟩ | ⟨g, cp, cur, q2, q3, q4, q5, q6⟩⟩ := hpv
    · simp only [Value.slice.injEq] at q2
      obtain ⟨rfl, -, rfl⟩ := q2
      obtain rfl : rk = 0 := by omega
      refine ⟨none, 0, fun wx => ?_⟩
      go_simp
    · simp only [Value.slice.injEq] at q2
      obtain ⟨rfl, -, rfl⟩ := q2
      refine ⟨some ⟨g, 0, none⟩, pcap, fun wx => ?_⟩
      go_simp
  obtain ⟨a2, cap2, hsl⟩ := HPA.out
  clear HRD hpv hln9 b9 G3 EV y0 y1 y2 HPA
  go_wp2_with fail
  refine HSE.out.mono ?_
  rintro e w6 ⟨fl, rfl, b6⟩
  replace PR := hid (PR.out.step b6)
  replace PV := hid (PV.out.step b6)
  have G6 := hid (below_step G5.out b6)
  have LN6 := hid (LN.out.now b6)
  have y0 := PV.out.at (i := 0) rfl
  have y1 := PV.out.at (i := 1) rfl
  have y2 := PV.out.at (i := 2) rfl
  have r0 := PR.out.at (i := 0) rfl
  have r1 := PR.out.at (i := 1) rfl
  have r2 := PR.out.at (i := 2) rfl
  have f0 := PR.out.fz 0
  have f1 := PR.out.fz 1
  have f2 := PR.out.fz 2
  obtain ⟨X, hX⟩ : ∃ X, (put3 w6 (w.heap.size + 1) (.int .u64 (p : Int)) (.int .i64 (N : Int)) (.slice la2 r lcap2)).drew = X := ⟨_, rfl⟩
  have bX : Below (put3 w6 (w.heap.size + 1) (.int .u64 (p : Int)) (.int .i64 (N : Int)) (.slice la2 r lcap2)).heap.size (put3 w6 (w.heap.size + 1) (.int .u64 (p : Int)) (.int .i64 (N : Int)) (.slice la2 r lcap2)) X := by rw [← hX]; exact (Below.refl _ _).drew
  have FIN : Hid (∃ lv gs pa pcap, Ending.returned (.tuple #[shv p N (.slice la2 r lcap2), .slice a2 rk cap2]) = .returned (.tuple #[shv p N lv, .slice pa rk pcap]) ∧ Lns w.heap.size X lv N gs S.m ∧ Below w.heap.size w X) :=
    ⟨_, gs9, _, _, rfl, ((((LN6.out.box PR.out (by decide) (by decide)).box (PR.out.set 0 _) (by decide) (by decide)).box ((PR.out.set 0 _).set 1 _) (by decide) (by decide)).now bX).mono (by have := L1.out; omega), below_step (below_put3 G6.out (by omega) _ _ _) bX⟩
  have PF := hid ((PR.out.put3 (.int .u64 (p : Int)) (.int .i64 (N : Int)) (.slice la2 r lcap2)).step bX)
  have EX := hid hX
  clear HSE LN G5 b6 z1 P1 LN6 G6 PR PV hX bX
  go_wp2_with fail
  go_region
  all_goals rw [EX.out]
  all_goals go_wp2
  all_goals exact bodyPost_ret (sback1 Tryz.results28 PF.out _ (by rfl) (by rfl)) rfl FIN.out
end Go.Proofs.YtiedmlfiboalhaaGreat
