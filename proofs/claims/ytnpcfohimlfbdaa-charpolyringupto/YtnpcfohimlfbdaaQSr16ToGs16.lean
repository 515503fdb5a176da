/-
  QSr16ToGs16: Sr16, Gs16, joined.
-/
import Derived.Test.YtnpcfohimlfbdaaQDv16

/- Sr16 -/
namespace Go.Proofs.Ytnpcfohimlfbdaa
open Go.RowKit
set_option linter.unusedVariables false
set_option linter.unusedSimpArgs false

set_option maxHeartbeats 1600000 in
theorem sameInt16 {w : World} {v u : Value} {z y : Int} {k l : Nat} (h : Zc w v z k) (h' : Zc w u y l) (hzy : z = y) : Calls Try.prog 11 #[v, u] w (SaysB w true) := by
  subst hzy
  obtain ⟨n, xs, a, c, rfl, s0, q0, e0, z0, k0⟩ := h
  obtain ⟨m, ys, b, d, rfl, s1, q1, e1, z1, k1⟩ := h'
  obtain ⟨rfl, rfl⟩ := iv_one (z0.trans z1.symm) q0 q1 e0 e1
  have b0 := (alloc2 w (duo (.bool n) (.slice a xs.length c)) (duo (.bool n) (.slice b xs.length d))).1
  have HC := hid (same_yes (s0.now b0) (s1.now b0) rfl)
  have B0 := hid b0
  have hq : (n == n) = true := by simp
  clear s0 s1 z0 z1 b0 q0 q1 e0 e1
  go_enter Try.func11, Try.ntmps11
  go_wp2_with fail
  refine HC.out.mono ?_
  rintro e w1 ⟨rfl, b1⟩
  have B1 := hid (below_step B0.out b1)
  clear b1 HC
  go_wp2
  go_ret
  exact ⟨rfl, B1.out⟩
theorem Zlc.at16 {w : World} {b off l c : Nat} {zs : List Int} {k : Nat} (h : Zlc w (.slice (some ⟨b, off, none⟩) l c) zs k) {i : Nat} (hi : i < zs.length) : ∃ n, ∃ xs : List Int, ∃ a c, w.cell? ⟨b, off + i * 2, none⟩ = some (.bool n) ∧ w.cell? ⟨b, off + i * 2 + 1, none⟩ = some (.slice a xs.length c) ∧ Zc w (.agg #[.bool n, .slice a xs.length c]) (cf zs i) k := by
  obtain ⟨a', c', h1, h2, h3, h4⟩ := h
  rcases h4 with h4 | ⟨b', off', h5, h6, h7⟩
  · subst h4; simp at hi
  · simp only [Value.slice.injEq] at h1
    obtain ⟨e1, -, -⟩ := h1
    rw [h5] at e1
    simp only [Option.some.injEq, Addr.mk.injEq, and_true] at e1
    obtain ⟨rfl, rfl⟩ := e1
    obtain ⟨x, y, q1, q2, q3⟩ := h7 i hi
    have q4 := q3
    obtain ⟨n, xs, a, c, e, -⟩ := q3
    simp only [Value.agg.injEq, Array.mk.injEq, List.cons.injEq, and_true] at e
    obtain ⟨rfl, rfl⟩ := e
    rw [Nat.mul_comm] at q1 q2
    rw [cf_lt hi]
    exact ⟨n, xs, a, c, q1, q2, q4⟩
theorem Zlc.full {w : World} {v : Value} {zs : List Int} {k : Nat} (h : Zlc w v zs k) : ∃ a c, v = .slice a zs.length c ∧ (zs ≠ [] → ∃ b off, a = some ⟨b, off, none⟩) := by
  obtain ⟨a, c, h1, h2, h3, h4⟩ := h
  refine ⟨a, c, h1, fun hne => ?_⟩
  rcases h4 with h4 | ⟨b, off, h5, _⟩
  · exact absurd h4 hne
  · exact ⟨b, off, h5⟩
def SrH (w : World) (n gk : Nat) (s : Value) (wx : World) : Prop := ∃ i : Nat, s = .int .i64 (i : Int) ∧ i ≤ n ∧ gk = n - i ∧ Below w.heap.size w wx
set_option maxHeartbeats 3200000 in
set_option maxRecDepth 100000 in
theorem sameRow16 {w : World} {v u : Value} {zs ys : List Int} {k l : Nat} (h : Zlc w v zs k) (h' : Zlc w u ys l) (he : zs = ys) : Calls Try.prog 19 #[v, u] w (SaysB w true) := by
  subst he
  have Z0 := hid h
  have Z1 := hid h'
  have hn0 : zs.length ≤ 1048576 := by
    obtain ⟨_, _, -, -, q⟩ := h.form
    exact q
  obtain ⟨a0, c0, rfl, hf0⟩ := h.full
  obtain ⟨a1, c1, rfl, hf1⟩ := h'.full
  have F0 := hid hf0
  have F1 := hid hf1
  have H0 : Hid (SrH w zs.length zs.length (.int .i64 0) w) := ⟨0, rfl, Nat.zero_le _, by omega, Below.refl _ _⟩
  obtain ⟨n, hn⟩ : ∃ n, zs.length = n := ⟨_, rfl⟩
  rw [hn] at Z0 Z1 H0 hn0 ⊢
  have HN := hid hn
  have hnn : ((n : Int) != (n : Int)) = false := by simp
  clear h h' hf0 hf1 hn
  go_enter Try.func19, Try.ntmps19
  go_wp2_with fail
  go_loopg [5] n (fun gk s5 wx => SrH w n gk s5 wx)
  case atStart => exact H0.out
  case round =>
    clear H0
    obtain ⟨i, rfl, hin, hg, hB⟩ := hrel
    have B := hid hB
    have HG := hid hg
    clear hB hg
    by_cases hlt : i < n
    · have hlt' : (i : Int) < (n : Int) := by omega
      have hi : i < zs.length := by rw [HN.out]; exact hlt
      have hwi := wrapI9 (i := i) (by omega)
      obtain ⟨b1, o1, rfl⟩ := F0.out (fun e => by rw [e] at hi; simp at hi)
      obtain ⟨b2, o2, rfl⟩ := F1.out (fun e => by rw [e] at hi; simp at hi)
      obtain ⟨nf, xf, adf, qf, k0, k1, zf⟩ := (Z0.out.now B.out).at16 hi
      obtain ⟨ng, xg, adg, qg, j0, j1, zg⟩ := (Z1.out.now B.out).at16 hi
      obtain ⟨lf, hlf⟩ : ∃ lf, xf.length = lf := ⟨_, rfl⟩
      obtain ⟨lg, hlg⟩ : ∃ lg, xg.length = lg := ⟨_, rfl⟩
      rw [hlf] at k1 zf
      rw [hlg] at j1 zg
      have ZF := hid zf
      have ZG := hid zg
      have HMM : Hid (n - (i + 1) < gk) := by unfold Hid; rw [HG.out]; omega
      clear zf zg hlf hlg HG
      go_upto_region 6 with fail
      have KB : Hid (∀ w', Below wr.heap.size wr w' → w'.cell? ⟨b1, o1 + i * 2, none⟩ = some (.bool nf) ∧ w'.cell? ⟨b1, o1 + i * 2 + 1, none⟩ = some (.slice adf lf qf) ∧ w'.cell? ⟨b2, o2 + i * 2, none⟩ = some (.bool ng) ∧ w'.cell? ⟨b2, o2 + i * 2 + 1, none⟩ = some (.slice adg lg qg)) := fun w' h => ⟨cnow h k0, cnow h k1, cnow h j0, cnow h j1⟩
      refine wp_region_tail (fun w' => w'.cell? ⟨b1, o1 + i * 2, none⟩ = some (.bool nf) ∧ w'.cell? ⟨b1, o1 + i * 2 + 1, none⟩ = some (.slice adf lf qf) ∧ w'.cell? ⟨b2, o2 + i * 2, none⟩ = some (.bool ng) ∧ w'.cell? ⟨b2, o2 + i * 2 + 1, none⟩ = some (.slice adg lg qg)) 9 (by kernel_rfl) ?_
      obtain ⟨D61, hD⟩ : ∃ D61, wr.drew = D61 := ⟨_, rfl⟩
      have GB : Hid (Below wr.heap.size wr D61) := by unfold Hid; rw [← hD]; exact (Below.refl _ _).drew
      rw [hD]
      clear hD
      refine wpAnyT_list [(0, (.slice (some ⟨b1, o1, none⟩) n c0)), (1, (.int .i64 (i : Int))), (2, (.pointer (some ⟨b1, o1 + i * 2, none⟩))), (3, (.agg #[.bool nf, .slice adf lf qf])), (4, (.slice (some ⟨b2, o2, none⟩) n c1)), (5, (.int .i64 (i : Int))), (6, (.pointer (some ⟨b2, o2 + i * 2, none⟩))), (7, (.agg #[.bool ng, .slice adg lg qg]))] 8 ?_ (KB.out _ GB.out) ?_
      · simp only [TakesV, gA9, g09, g19, Act.put, sI9, s09, s19]
        (repeat' (first | exact trivial | refine And.intro (Or.inl ⟨by rfl, ?_⟩) ?_)) <;> (intro w hSw; (try dsimp only at hSw); go_simp)
      simp only [actV, gA9, g09, g19, Act.put, sI9, s09, s19]
      refine wpAnyT_one (i := 8) (o := { dst := some 25, op := Op.call { callee := Callee.value (Operand.func 11), args := #[Operand.tmp 20, Operand.tmp 24], argTypes := #[25, 25] }, type := 4, pos := "keep.go:115", after := #[{ on := 3, ground := Ground.data }, { on := 7, ground := Ground.data }], guard := none }) (by kernel_rfl) rfl (fun K hK => ?_)
      go_simp
      go_at_call 11
      refine (sameInt16 (ZF.out.now GB.out) (ZG.out.now GB.out) rfl).mono ?_
      rintro e w62 ⟨rfl, b⟩
      have lz62 := (show Below _ _ _ from b).size
      replace GB := hid (below_step GB.out b)
      clear b
      refine hK.out _ _ (fun _ => KB.out _ GB.out) ?_
      clear hK
      refine wpAnyT_one (i := 9) (o := { dst := some 26, op := Op.unOp UnOp.not 4 (Operand.tmp 25), type := 4, pos := "keep.go:115", after := #[{ on := 8, ground := Ground.data }], guard := none }) (by kernel_rfl) rfl (fun K hK => ?_)
      go_simp
      refine hK.out _ _ (fun h => absurd h (by decide)) ?_
      clear hK
      try simp only [Act.put]
      refine wpAnyT_done (by kernel_rfl) ?_ _
      have HN1 : Hid (SrH w n (n - (i + 1)) (.int .i64 ((i + 1 : Nat) : Int)) w62) := ⟨i + 1, rfl, by omega, rfl, below_step B.out GB.out⟩
      clear B GB KB ZF ZG
      go_wp2_with fail
      go_roundg (n - (i + 1))
      case rel => exact HN1.out
      case measure => exact HMM.out
    · have hlt' : ¬ (i : Int) < (n : Int) := by omega
      have FIN : Hid (SaysB w true (.returned (.bool true)) wr) := ⟨rfl, B.out⟩
      clear B HG
      go_wp2
      go_ret
      exact FIN.out
/-- The law's number. -/
theorem of16 {n : Int} (h0 : 0 < n) (h1 : n ≤ 18446744073709551615) (w : World) :
    Calls Try.prog 9 #[.int .u64 n] w fun e w' => ∃ a c, e = .returned (.agg #[.bool false, .slice a 1 c]) ∧ Zc w' (.agg #[.bool false, .slice a 1 c]) n 1 ∧ Below w.heap.size w w' := by
  obtain ⟨WX, hWX⟩ : ∃ WX, (w.alloc (duo (.bool false) (.slice (some ⟨w.heap.size + 1, 0, none⟩) 1 1))).alloc (.cells #[.int .u64 n] 37) = WX := ⟨_, rfl⟩
  obtain ⟨b0, sz0⟩ := alloc2 w (duo (.bool false) (.slice (some ⟨w.heap.size + 1, 0, none⟩) 1 1)) (.cells #[.int .u64 n] 37)
  rw [hWX] at b0 sz0
  have dX : Duo WX w.heap.size (.bool false) (.slice (some ⟨w.heap.size + 1, 0, none⟩) 1 1) := by rw [← hWX]; exact duo_late (duo_at rfl) _
  have sX : Sl WX.heap.size WX (.slice (some ⟨w.heap.size + 1, 0, none⟩) 1 1) [n] := by
    have := word_one (w.alloc (duo (.bool false) (.slice (some ⟨w.heap.size + 1, 0, none⟩) 1 1))) n ⟨by omega, h1⟩
    rw [hWX] at this
    simpa using this
  have eV : iv false [n] = n := by simp [iv, val]
  have cn : Canon [n] := ⟨sX.1, by simp [wid]; omega⟩
  have FIN : Hid (Zc WX (.agg #[.bool false, .slice (some ⟨w.heap.size + 1, 0, none⟩) 1 1]) n 1) := ⟨false, [n], _, _, rfl, sX, cn, fun e => by simp at e, eV, by simp⟩
  have EW := hid hWX
  have DX := hid dX
  have BX := hid b0
  clear sX dX eV b0 hWX cn
  go_enter Try.func9, Try.ntmps9
  go_wp2
  rw [EW.out]
  exact bodyPost_ret (zback Try.results9 DX.out _ (by rfl)) rfl ⟨_, _, rfl, FIN.out, BX.out⟩
theorem degree16 {w : World} {a : Option Addr} {l c : Nat} (hl : l ≤ 1048576) : Calls Try.prog 18 #[.slice a l c] w fun e w' => e = .returned (.int .i64 ((l : Int) - 1)) ∧ Below w.heap.size w w' := by
  have hw : IntKind.i64.wrap ((l : Int) - 1) = (l : Int) - 1 := by rw [wrap_is] <;> omega
  go_enter Try.func18, Try.ntmps18
  go_wp2
  go_ret
  exact ⟨rfl, Below.refl _ _⟩
end Go.Proofs.Ytnpcfohimlfbdaa

/- Gs16 -/
namespace Go.Proofs.Ytnpcfohimlfbdaa
open Go.RowKit
set_option linter.unusedVariables false

theorem Zl.more16 {w : World} {v : Value} {zs : List Int} {k l : Nat} (h : Zl w v zs k) (hl : k ≤ l) : Zl w v zs l := by
  obtain ⟨a, c, h1, h2, h3, h4⟩ := h
  refine ⟨a, c, h1, h2, h3, ?_⟩
  rcases h4 with h4 | ⟨b, off, h5, h6, h7⟩
  · exact .inl h4
  · refine .inr ⟨b, off, h5, h6, fun j hj => ?_⟩
    obtain ⟨x, y, q1, q2, q3⟩ := h7 j hj
    exact ⟨x, y, q1, q2, q3.more hl⟩
theorem adQ_len (P Q : List Int) : (adQ P Q).length ≤ max P.length Q.length := by
  unfold adQ
  rw [tr_length]
  have := sgl_le ((List.range (max P.length Q.length)).map fun s => cf P s + cf Q s)
  simpa using this
theorem tr_le (P : List Int) : (tr P).length ≤ P.length := by rw [tr_length]; exact sgl_le P
theorem mulQ_len (P Q : List Int) : (mulQ P Q).length ≤ P.length + Q.length := by
  by_cases h : tr P = [] ∨ tr Q = []
  · unfold mulQ
    rw [if_pos h]
    simp
  · have h1 : tr P ≠ [] := fun e => h (.inl e)
    have h2 : tr Q ≠ [] := fun e => h (.inr e)
    rw [mulQ_length h1 h2]
    have := tr_le P
    have := tr_le Q
    omega
theorem trmB_of {zs : List Int} (h : Trm zs) : trmB zs = true := by
  unfold trmB
  rw [decide_eq_true_iff]
  by_cases h0 : zs.length = 0
  · exact .inl h0
  · refine .inr fun e0 => ?_
    obtain ⟨m, hm⟩ : ∃ m, zs.length = m + 1 := ⟨zs.length - 1, by omega⟩
    rw [hm, show m + 1 - 1 = m by omega] at e0
    have : sgl zs = sgN zs m := by
      unfold sgl
      rw [hm]
      show (if zs.getD m 0 = 0 then sgN zs m else m + 1) = _
      rw [if_pos (show zs.getD m 0 = 0 from e0)]
    have q := sgN_le zs m
    unfold Trm at h
    omega
/-- What a call answers that gives a list, as a slice. -/
def GivesS (w : World) (zs : List Int) (k : Nat) (e : Ending) (w' : World) : Prop := ∃ a l c, e = .returned (.slice a l c) ∧ Hid (zs.length = l) ∧ Zlc w' (.slice a l c) zs k ∧ Below w.heap.size w w'
theorem GivesL.s {w w' : World} {zs : List Int} {k : Nat} {e : Ending} (h : GivesL w zs k e w') : GivesS w zs k e w' := by
  obtain ⟨v, rfl, hz, b⟩ := h
  obtain ⟨a, c, rfl, -⟩ := hz.full
  exact ⟨a, _, c, rfl, rfl, hz, b⟩
theorem trimS {w : World} {a : Option Addr} {l c k : Nat} {zs : List Int} (h : Zl w (.slice a l c) zs k) : Calls Try.prog 12 #[.slice a l c] w (GivesS w (tr zs) k) :=
  (trim_any h).mono fun e w' ⟨g, he, hg, hz, b⟩ => by
    have hl : (tr zs).length ≤ 1048576 := by
      obtain ⟨_, _, _, _, q, _⟩ := h.form9
      exact Nat.le_trans (tr_le zs) q
    have := hz.zlc (m := (tr zs).length) (c := (tr zs).length) (Nat.le_refl _) (Nat.le_refl _) hl
    rw [List.take_length] at this
    exact ⟨_, _, _, he, rfl, this, b⟩
theorem mulS {w : World} {a0 a1 : Option Addr} {l0 l1 c0 c1 kp kq : Nat} {ps qs : List Int} (hp : Zl w (.slice a0 l0 c0) ps kp) (hq : Zl w (.slice a1 l1 c1) qs kq) (hk : kp + kq + 1 < 35184372088831) (hl : ps.length + qs.length ≤ 1048576) :
    Calls Try.prog 13 #[.slice a0 l0 c0, .slice a1 l1 c1] w (GivesS w (mulQ ps qs) (kp + kq + 1)) :=
  (pmulL_any hp hq hk (by have := sgl_le ps; have := sgl_le qs; omega)).mono fun e w' h => h.s
theorem addS {w : World} {a0 a1 : Option Addr} {l0 l1 c0 c1 kp kq : Nat} {ps qs : List Int} (hp : Zl w (.slice a0 l0 c0) ps kp) (hq : Zl w (.slice a1 l1 c1) qs kq) {K : Nat} (h1 : kp ≤ K) (h2 : kq ≤ K) (hk : K + 1 < 35184372088831) :
    Calls Try.prog 14 #[.slice a0 l0 c0, .slice a1 l1 c1] w (GivesS w (adQ ps qs) (K + 1)) :=
  (padd_any (hp.more16 h1) (hq.more16 h2) hk).mono fun e w' h => h.s
theorem trimmedT {w : World} {a : Option Addr} {l c k : Nat} {zs : List Int} (h : Zlc w (.slice a l c) zs k) (ht : Trm zs) : Calls Try.prog 15 #[.slice a l c] w (SaysB w true) := by
  have := ltrimmed_any h.zl
  rwa [trmB_of ht] at this
theorem zlc_one {W : World} {b k : Nat} {x y : Value} {z : Int} (d : Duo W b x y) (h : Zc W (.agg #[x, y]) z k) : Zlc W (.slice (some ⟨b, 0, none⟩) 1 1) [z] k :=
  ⟨_, 1, rfl, Nat.le_refl _, by simp, .inr ⟨b, 0, rfl, d.blk, fun j hj => by
    have : j = 0 := by simp at hj; omega
    subst this
    exact ⟨x, y, d.c0, d.c1, h⟩⟩⟩
end Go.Proofs.Ytnpcfohimlfbdaa
