/-
  Mt12: integers, a sheet's matrix.
-/
import Derived.Test.YtonmlmdnjjafhaaGreatQCw12ToTy9
import Derived.Test.YtonmlmdnjjafhaaGreatQCat9ToColsP9
namespace Go.Proofs.YtonmlmdnjjafhaaGreat
open Go.RowKit
set_option linter.unusedVariables false

/-- A list of words that may be read. -/
def Rw (w : World) (v : Value) (xs : List Int) : Prop := ∃ a cap, v = .slice a xs.length cap ∧ xs.length ≤ cap ∧ (0 < xs.length → ∃ b off, a = some ⟨b, off, none⟩ ∧ b < w.heap.size ∧ ∀ j (h : j < xs.length), w.cell? ⟨b, off + j, none⟩ = some (.int .u64 xs[j]))
theorem Rw.now {w w' : World} {v : Value} {xs : List Int} (h : Rw w v xs) (hb : Below w.heap.size w w') : Rw w' v xs := by
  obtain ⟨a, cap, h1, h2, h3⟩ := h
  refine ⟨a, cap, h1, h2, fun hp => ?_⟩
  obtain ⟨b, off, q1, q2, q3⟩ := h3 hp
  exact ⟨b, off, q1, Nat.lt_of_lt_of_le q2 hb.size, fun j hj => (hb.cell (p := ⟨b, off + j, none⟩) q2).trans (q3 j hj)⟩
theorem OwnW.rw {B : Nat} {w : World} {v : Value} {xs : List Int} (h : OwnW B w v xs) : Rw w v xs := by
  have h' := h
  obtain ⟨q1, ⟨q2, q3⟩ | ⟨g, cap, cur, q2, q3, q4, q5, q6⟩⟩ := h
  · exact ⟨none, 0, by rw [q2, q3], by omega, fun hp => by omega⟩
  · refine ⟨_, cap, q2, q5, fun _ => ⟨g, 0, rfl, (Array.getElem?_eq_some_iff.1 q4).1, fun j hj => ?_⟩⟩
    rw [q2] at h'
    have := h'.cellAt j (by omega)
    rw [Nat.zero_add, this]
    simp [ws, hj]
def IntH (w : World) (n : Nat) (F : Nat → Int) (gk : Nat) (s : Value) (wx : World) : Prop := ∃ i : Nat, s = .int .i64 (i : Int) ∧ i ≤ n ∧ gk = n - i ∧ FilM wx w.heap.size n i F 1 ∧ Below w.heap.size w wx
set_option maxHeartbeats 1600000 in
set_option maxRecDepth 100000 in
theorem integers12 {w : World} {p : Nat} {v : Value} {xs : List Int} (hv : Rw w v xs) (hr : Res p xs) (hp2 : p < 2147483648) (hl : xs.length ≤ 1048576) :
    Calls Tryz.prog 58 #[v] w (ListedM w xs 1) := by
  have HMP : Hid (xs = (List.range xs.length).map fun j => xs.getD j 0) := by
    unfold Hid
    apply List.ext_getElem
    · simp
    · intro j h1 h2
      simp [h1]
  have V0 := hid hv
  have HR := hid hr
  obtain ⟨a0, c0, rfl, hc0, -⟩ := hv
  obtain ⟨n, hn⟩ : ∃ n, xs.length = n := ⟨_, rfl⟩
  rw [hn] at V0 hc0 hl HMP ⊢
  have HN := hid hn
  clear hr hn
  go_enter Tryz.func58, Tryz.ntmps58
  go_wp2_with (at_make; refine wpList_make_pairs9 _ rfl _ _ rfl _ _ n n rfl rfl rfl rfl (Nat.le_refl _) (by omega) ?_)
  intro w1 hrow hb1 hsz1
  have H0 : Hid (IntH w n (fun j => xs.getD j 0) n (.int .i64 0) w1) := ⟨0, rfl, Nat.zero_le _, by omega, FilM.start hrow _ _, hb1⟩
  clear hrow hb1 hsz1
  go_wp2_with fail
  go_loopg [11] n (fun gk s11 wx => IntH w n (fun j => xs.getD j 0) gk s11 wx)
  case atStart => exact H0.out
  case round =>
    clear H0
    obtain ⟨i, rfl, hin, hg, hfil, hG⟩ := hrel
    have FI := hid hfil
    have G := hid hG
    have HG := hid hg
    clear hfil hG hg
    by_cases hlt : i < n
    · have hlt' : (i : Int) < (n : Int) := by omega
      have hix : i < xs.length := by rw [HN.out]; exact hlt
      obtain ⟨a1, cap1, e1, e2, e3⟩ := V0.out.now G.out
      simp only [Value.slice.injEq] at e1
      obtain ⟨rfl, -, -⟩ := e1
      obtain ⟨b, off, rfl, hbs, hcs⟩ := e3 (by omega)
      have k0 := hcs i hix
      have hx : xs.getD i 0 = xs[i] := by simp [hix]
      have rx := HR.out.at hix
      rw [← hx] at k0 rx
      obtain ⟨x, hxx⟩ : ∃ x, xs.getD i 0 = x := ⟨_, rfl⟩
      rw [hxx] at k0 rx
      have HXX := hid hxx
      have cv : IntKind.i64.wrap x = x := by unfold IsR at rx; rw [wrap_is] <;> omega
      have HS := hid (of_z (n := x) (by unfold IsR at rx; omega) (by unfold IsR at rx; omega) wr)
      have hw := wrapI9 (i := i) (by omega)
      clear e2 e3 hcs hbs hx hxx rx
      go_wp2_with fail
      refine HS.out.mono ?_
      rintro e w1 ⟨r, rfl, m1, b1⟩
      have FI1 := hid (FI.out.step b1)
      have G1 := hid (below_step G.out b1)
      have M1 : Hid (Zm 0 w1 r (xs.getD i 0) 1) := by unfold Hid; rw [HXX.out]; exact m1.mono (Nat.zero_le _)
      obtain ⟨nr, xr, ar, cr, rfl⟩ := m1.parts
      obtain ⟨m0, am, lm, cm, e0, e1, e2, e3⟩ := FI1.out.cells hlt
      have HN1 : Hid (IntH w n (fun j => xs.getD j 0) (n - (i + 1)) (.int .i64 ((i + 1 : Nat) : Int)) ((w1.setCell ⟨w.heap.size, i * 2, none⟩ (.bool nr)).setCell ⟨w.heap.size, i * 2 + 1, none⟩ (.slice ar xr.length cr))) :=
        ⟨i + 1, rfl, by omega, rfl, FI1.out.put hlt M1.out, bset (bset G1.out (Nat.le_refl _)) (Nat.le_refl _)⟩
      have HMM : Hid (n - (i + 1) < gk) := by unfold Hid; rw [HG.out]; omega
      clear HS FI G HG FI1 G1 M1 m1 b1 k0 HXX
      go_wp2_with fail
      go_roundg (n - (i + 1))
      case rel => exact HN1.out
      case measure => exact HMM.out
    · have hlt' : ¬ (i : Int) < (n : Int) := by omega
      obtain rfl : i = n := by omega
      obtain ⟨ps, p1, p2⟩ := FI.out.done hl
      rw [← HMP.out] at p2
      have FIN : Hid (ListedM w xs 1 (.returned (.slice (some ⟨w.heap.size, 0, none⟩) i i)) wr) := ⟨_, ps, rfl, p1, p2, G.out⟩
      clear FI G HG p1 p2
      go_wp2
      go_ret
      exact FIN.out
theorem flatten_res {p : Nat} {ls : List (List Int)} (h : ResM p ls) : Res p ls.flatten := fun x hx => by
  obtain ⟨l, hl, hx⟩ := List.mem_flatten.1 hx
  exact h l hl x hx
theorem flatten_len {m : Nat} {ls : List (List Int)} (h : WidE m ls) : ls.flatten.length = ls.length * m := by
  have := take_flat (pss := ls) (fun ps hp => h ps hp) ls.length (Nat.le_refl _)
  rw [List.take_length] at this
  exact this
set_option maxHeartbeats 3200000 in
set_option maxRecDepth 100000 in
theorem matrix12 {w : World} {lv : Value} {p r c : Nat} {ls : List (List Int)} (hv : Rdl w lv ls) (hw : WidE c ls) (hr : ResM p ls) (hp2 : p < 2147483648) (hl : ls.length = r) (hr2 : r ≤ 64) (hc : c ≤ 64) :
    Calls Tryz.prog 36 #[shv p c lv] w (GivesM w r c ls.flatten 1) := by
  have hrc : r * c ≤ 64 * 64 := Nat.mul_le_mul hr2 hc
  have hfl : ls.flatten.length = r * c := by rw [flatten_len hw, hl]
  obtain ⟨a, cap, rfl, hcap, -, -⟩ := hv.form
  rw [hl] at hv hcap ⊢
  obtain ⟨W0, hW⟩ : ∃ W0, (w.alloc (shO p c (.slice a r cap))).alloc mbox = W0 := ⟨_, rfl⟩
  have b0 : Below w.heap.size w W0 := by rw [← hW]; exact ((Below.refl _ _).alloc (Nat.le_refl _) _).alloc (by simp) _
  have sz0 : W0.heap.size = w.heap.size + 2 := by rw [← hW]; simp
  have P1 : Hid (Cel W0 w.heap.size 66 (shc p c (.slice a r cap))) := by unfold Hid; rw [← hW]; exact (Cel.new w _ _).step (alo12 _ _).1
  have PR : Hid (Cel W0 (w.heap.size + 1) 24 [.int .i64 0, .int .i64 0, .slice none 0 0]) := by
    unfold Hid; rw [← hW]
    have := Cel.new (w.alloc (shO p c (.slice a r cap))) 24 [.int .i64 0, .int .i64 0, .slice none 0 0]
    simpa using this
  have k1 := P1.out.at (i := 1) rfl
  have k2 := P1.out.at (i := 2) rfl
  have V0 := hid (hv.now b0)
  have HWD := hid hw
  have HRS := hid hr
  have HLN := hid hl
  obtain ⟨FT, hFT⟩ : ∃ FT, ls.flatten = FT := ⟨_, rfl⟩
  have HC : Hid (∀ w', Below W0.heap.size W0 w' → Calls Tryz.prog 63 #[.slice a r cap] w' (CattedW w' FT)) := fun w' h => by
    have := concatW_any (V0.out.now h) HWD.out (by rw [hl]; omega) (by omega)
    rw [hFT] at this
    exact this
  have HRF : Hid (Res p FT) := by unfold Hid; rw [← hFT]; exact flatten_res hr
  rw [hFT] at hfl ⊢
  have HFL := hid hfl
  have G0 := hid b0
  have EW := hid hW
  have SZ := hid sz0
  have hrc2 := hrc
  clear b0 sz0 hW hv hw hr hl hFT hfl hrc
  go_enter Tryz.func36, Tryz.ntmps36
  go_wp2_with fail
  rw [EW.out]
  clear EW
  have KB : Hid (∀ w', Below W0.heap.size W0 w' → w'.cell? ⟨w.heap.size, 1, none⟩ = some (.int .i64 (c : Int)) ∧ w'.cell? ⟨w.heap.size, 2, none⟩ = some (.slice a r cap)) := fun w' h => ⟨cnow h k1, cnow h k2⟩
  refine wp_region_tail (fun w' => w'.cell? ⟨w.heap.size, 1, none⟩ = some (.int .i64 (c : Int)) ∧ w'.cell? ⟨w.heap.size, 2, none⟩ = some (.slice a r cap)) 10 (by kernel_rfl) ?_
  obtain ⟨D1, hD⟩ : ∃ D1, W0.drew = D1 := ⟨_, rfl⟩
  have GB : Hid (Below W0.heap.size W0 D1) := by unfold Hid; rw [← hD]; exact (Below.refl _ _).drew
  rw [hD]
  clear hD
  refine wpAnyT_take (i := 0) (oi := { dst := some 3, op := Op.fieldAddr 66 (Operand.tmp 1) 2, type := 0, pos := "sheet.go:49", after := #[], guard := none }) (v := (.pointer (some ⟨w.heap.size, 2, none⟩))) rfl (by kernel_rfl) (fun _ _ _ h => h) (Or.inl ⟨by rfl, ?_⟩) (KB.out _ GB.out) ?_
  · intro w hSw
    (try dsimp only at hSw)
    go_simp
  simp only [Act.put, List.setIfInBounds_toArray, List.set_cons_zero, List.set_cons_succ]
  refine wpAnyT_take (i := 1) (oi := { dst := some 4, op := Op.load 64 (Operand.tmp 3), type := 64, pos := "sheet.go:49", after := #[{ on := 0, ground := Ground.data }], guard := none }) (v := (.slice a r cap)) rfl (by kernel_rfl) (fun _ _ _ h => h) (Or.inl ⟨by rfl, ?_⟩) (KB.out _ GB.out) ?_
  · intro w hSw
    (try dsimp only at hSw)
    go_simp
  simp only [Act.put, List.setIfInBounds_toArray, List.set_cons_zero, List.set_cons_succ]
  refine wpAnyT_take (i := 2) (oi := { dst := some 5, op := Op.call { callee := Callee.builtin Builtin.len, args := #[Operand.tmp 4], argTypes := #[64] }, type := 3, pos := "sheet.go:49", after := #[{ on := 1, ground := Ground.data }], guard := none }) (v := (.int .i64 (r : Int))) rfl (by kernel_rfl) (fun _ _ _ h => h) (Or.inl ⟨by rfl, ?_⟩) (KB.out _ GB.out) ?_
  · intro w hSw
    (try dsimp only at hSw)
    go_simp
  simp only [Act.put, List.setIfInBounds_toArray, List.set_cons_zero, List.set_cons_succ]
  refine wpAnyT_take (i := 3) (oi := { dst := some 6, op := Op.fieldAddr 66 (Operand.tmp 1) 1, type := 0, pos := "sheet.go:49", after := #[], guard := none }) (v := (.pointer (some ⟨w.heap.size, 1, none⟩))) rfl (by kernel_rfl) (fun _ _ _ h => h) (Or.inl ⟨by rfl, ?_⟩) (KB.out _ GB.out) ?_
  · intro w hSw
    (try dsimp only at hSw)
    go_simp
  simp only [Act.put, List.setIfInBounds_toArray, List.set_cons_zero, List.set_cons_succ]
  refine wpAnyT_take (i := 4) (oi := { dst := some 7, op := Op.load 3 (Operand.tmp 6), type := 3, pos := "sheet.go:49", after := #[{ on := 3, ground := Ground.data }], guard := none }) (v := (.int .i64 (c : Int))) rfl (by kernel_rfl) (fun _ _ _ h => h) (Or.inl ⟨by rfl, ?_⟩) (KB.out _ GB.out) ?_
  · intro w hSw
    (try dsimp only at hSw)
    go_simp
  simp only [Act.put, List.setIfInBounds_toArray, List.set_cons_zero, List.set_cons_succ]
  refine wpAnyT_take (i := 5) (oi := { dst := some 8, op := Op.fieldAddr 66 (Operand.tmp 1) 2, type := 0, pos := "sheet.go:49", after := #[], guard := none }) (v := (.pointer (some ⟨w.heap.size, 2, none⟩))) rfl (by kernel_rfl) (fun _ _ _ h => h) (Or.inl ⟨by rfl, ?_⟩) (KB.out _ GB.out) ?_
  · intro w hSw
    (try dsimp only at hSw)
    go_simp
  simp only [Act.put, List.setIfInBounds_toArray, List.set_cons_zero, List.set_cons_succ]
  refine wpAnyT_take (i := 6) (oi := { dst := some 9, op := Op.load 64 (Operand.tmp 8), type := 64, pos := "sheet.go:49", after := #[{ on := 5, ground := Ground.data }], guard := none }) (v := (.slice a r cap)) rfl (by kernel_rfl) (fun _ _ _ h => h) (Or.inl ⟨by rfl, ?_⟩) (KB.out _ GB.out) ?_
  · intro w hSw
    (try dsimp only at hSw)
    go_simp
  simp only [Act.put, List.setIfInBounds_toArray, List.set_cons_zero, List.set_cons_succ]
  refine wpAnyT_one (i := 7) (o := { dst := some 10, op := Op.call { callee := Callee.value (Operand.func 63), args := #[Operand.tmp 9], argTypes := #[64] }, type := 34, pos := "sheet.go:49", after := #[{ on := 6, ground := Ground.data }], guard := none }) (by kernel_rfl) rfl (fun K hK => ?_)
  go_simp
  go_at_call 63
  refine (HC.out _ GB.out).mono ?_
  rintro e w2 ⟨u, rfl, ho, b⟩
  have lz2 := (show Below _ _ _ from b).size
  replace GB := hid (below_step GB.out b)
  have PC := hid ho.rw
  obtain ⟨ac, cc, rfl, -, -⟩ := PC.out
  clear ho
  clear b
  refine hK.out _ _ (fun _ => KB.out _ GB.out) ?_
  clear hK
  refine wpAnyT_one (i := 8) (o := { dst := some 11, op := Op.call { callee := Callee.value (Operand.func 58), args := #[Operand.tmp 10], argTypes := #[34] }, type := 22, pos := "sheet.go:49", after := #[{ on := 7, ground := Ground.data }, { on := 7, ground := Ground.chain }], guard := none }) (by kernel_rfl) rfl (fun K hK => ?_)
  go_simp
  go_at_call 58
  refine (integers12 PC.out HRF.out hp2 (by rw [HFL.out]; omega)).mono ?_
  rintro e w3 ⟨u, ps, rfl, p1, p2, b⟩
  have lz3 := (show Below _ _ _ from b).size
  replace GB := hid (below_step GB.out b)
  obtain ⟨au, cu, rfl, -, -, -, -⟩ := p1.1.form
  have hql : ps.length = r * c := by rw [p2.1, HFL.out]
  obtain ⟨n, hn⟩ : ∃ n, r * c = n := ⟨_, rfl⟩
  rw [hql, hn] at p1
  rw [hql, hn]
  have HNN := hid hn
  have PP := hid p1
  have PZ := hid p2
  clear p1 p2 hql hn
  clear b
  refine hK.out _ _ (fun _ => KB.out _ GB.out) ?_
  clear hK
  refine wpAnyT_take (i := 9) (oi := { dst := some 12, op := Op.build 24 #[(0, Operand.tmp 5), (1, Operand.tmp 7), (2, Operand.tmp 11)], type := 24, pos := "sheet.go:49", after := #[{ on := 2, ground := Ground.data }, { on := 4, ground := Ground.data }, { on := 8, ground := Ground.data }], guard := none }) (v := (.agg #[.int .i64 (r : Int), .int .i64 (c : Int), .slice au n cu])) rfl (by kernel_rfl) (fun _ _ _ h => h) (Or.inl ⟨by rfl, ?_⟩) (KB.out _ GB.out) ?_
  · intro w hSw
    (try dsimp only at hSw)
    go_simp
  simp only [Act.put, List.setIfInBounds_toArray, List.set_cons_zero, List.set_cons_succ]
  refine wpAnyT_one (i := 10) (o := { dst := none, op := Op.store 24 (Operand.tmp 2) (Operand.tmp 12), type := 0, pos := "sheet.go:49", after := #[{ on := 9, ground := Ground.data }, { on := 8, ground := Ground.chain }, { on := 0, ground := Ground.phase }, { on := 1, ground := Ground.phase }, { on := 2, ground := Ground.phase }, { on := 3, ground := Ground.phase }, { on := 4, ground := Ground.phase }, { on := 5, ground := Ground.phase }, { on := 6, ground := Ground.phase }, { on := 7, ground := Ground.phase }, { on := 8, ground := Ground.phase }, { on := 9, ground := Ground.phase }], guard := none }) (by kernel_rfl) rfl (fun K hK => ?_)
  have PR2 := hid (PR.out.step GB.out)
  have y0 := PR2.out.at (i := 0) rfl
  have y1 := PR2.out.at (i := 1) rfl
  have y2 := PR2.out.at (i := 2) rfl
  have g0 := PR2.out.fz 0
  have g1 := PR2.out.fz 1
  have g2 := PR2.out.fz 2
  go_simp
  refine hK.out _ _ (fun h => absurd h (by decide)) ?_
  clear hK
  try simp only [Act.put]
  refine wpAnyT_done (by kernel_rfl) ?_ _
  have FIN : Hid (GivesM w r c FT 1 (.returned (.agg #[.int .i64 (r : Int), .int .i64 (c : Int), .slice au n cu])) (put3 w3 (w.heap.size + 1) (.int .i64 (r : Int)) (.int .i64 (c : Int)) (.slice au n cu))) := by
    refine ⟨_, rfl, ⟨_, ps, rfl, ?_, PZ.out.zcs.wk (PR2.out.wk3 _ _ _), HFL.out, hr2, hc⟩, below_put3 (below_step G0.out GB.out) (by omega) _ _ _⟩
    have t1 : Ty 24 w3 (put3 w3 (w.heap.size + 1) (.int .i64 (r : Int)) (.int .i64 (c : Int)) (.slice au n cu)) := ((Ty.set PR2.out).trans (Ty.set (PR2.out.set 0 _))).trans (Ty.set ((PR2.out.set 0 _).set 1 _))
    exact (PP.out.ty t1 (by decide)).1
  have PG := hid (PR2.out.put3 (.int .i64 (r : Int)) (.int .i64 (c : Int)) (.slice au n cu))
  clear PR PR2 PP PZ GB KB HC G0 k1 k2 y0 y1 y2 g0 g1 g2
  go_wp2
  exact bodyPost_ret (mback Tryz.results36 PG.out _ (by rfl)) rfl FIN.out
end Go.Proofs.YtonmlmdnjjafhaaGreat
