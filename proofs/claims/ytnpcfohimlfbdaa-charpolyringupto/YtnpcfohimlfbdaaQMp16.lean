/-
  Mp16: charpoly.Mul.
-/
import Derived.Test.YtnpcfohimlfbdaaQSig16ToMq16
import Derived.Test.YtnpcfohimlfbdaaQTy9ToTailL
namespace Go.Proofs.Ytnpcfohimlfbdaa
open Go.RowKit
set_option linter.unusedVariables false
set_option linter.unusedSimpArgs false

/-- What Mul holds between rounds, and within one. -/
def MuO (w2 : World) (P Q : List Int) (k gk : Nat) (s : Value) (wx : World) : Prop :=
  ∃ i : Nat, s = .int .i64 (i : Int) ∧ i ≤ P.length ∧ gk = P.length - i ∧ AllZ wx w2.heap.size (coL P Q i 0) k ∧ Below w2.heap.size w2 wx ∧ FarA w2.heap.size wx w2.heap.size
def MuI (w2 : World) (b7 : Nat) (x7 y7 : Value) (P Q : List Int) (i k gk : Nat) (s : Value) (wx : World) : Prop :=
  ∃ j : Nat, s = .int .i64 (j : Int) ∧ j ≤ Q.length ∧ gk = Q.length - j ∧ AllZ wx w2.heap.size (coL P Q i j) k ∧ Duo wx b7 x7 y7 ∧ Below w2.heap.size w2 wx ∧ FarA w2.heap.size wx w2.heap.size
/-- What Mul answers. -/
def Muled (w : World) (P Q : List Int) (k : Nat) (e : Ending) (w' : World) : Prop :=
  ((P = [] ∨ Q = []) ∧ e = .returned (.slice none 0 0) ∧ Below w.heap.size w w') ∨ (P ≠ [] ∧ Q ≠ [] ∧ ∃ g, e = .returned (.slice (some ⟨g, 0, none⟩) (mulP P Q).length (mulP P Q).length) ∧ w.heap.size ≤ g ∧ AllZ w' g (mulP P Q) k ∧ Below w.heap.size w w' ∧ FarA w.heap.size w' g)
theorem Zc.fit16 {w : World} {v : Value} {z : Int} {k l : Nat} (h : Zc w v z k) (hz : (z.natAbs : Int) < pw l) : Zc w v z l := by
  obtain ⟨n, xs, a, c, h1, h2, h3, h4, h5, h6⟩ := h
  have e := val_nonneg h3.1
  refine ⟨n, xs, a, c, h1, h2, h3, h4, h5, canon_len h3 ?_⟩
  cases n <;> simp [iv] at h5 <;> omega
theorem zl_lt {w : World} {v : Value} {zs : List Int} {k : Nat} (h : Zl w v zs k) : ∀ z ∈ zs, (z.natAbs : Int) < pw k := fun z hz => by
  obtain ⟨a, c, h1, h2, h3, h4⟩ := h
  obtain ⟨j, hj, e⟩ := List.getElem_of_mem hz
  rcases h4 with h4 | ⟨b, off, h5, h6, h7⟩
  · subst h4; simp at hj
  · obtain ⟨x, y, q1, q2, q3⟩ := h7 j hj
    rw [e] at q3
    exact q3.lt
set_option maxHeartbeats 6400000 in
set_option maxRecDepth 100000 in
theorem pmul_any {w : World} {ap aq : Option Addr} {lp lq cp cq kp kq : Nat} {ps qs : List Int} (hp : Zl w (.slice ap lp cp) ps kp) (hq : Zl w (.slice aq lq cq) qs kq) (hk : kp + kq + 1 < 35184372088831) (hl : sgl ps + sgl qs ≤ 1048577) :
    Calls Try.prog 13 #[.slice ap lp cp, .slice aq lq cq] w (Muled w (ps.take (sgl ps)) (qs.take (sgl qs)) (kp + kq + 1)) := by
  have HP := hid hp
  have HQ := hid hq
  have HK := hid hk
  clear hp hq hk
  go_enter Try.func13, Try.ntmps13
  go_wp2_with fail
  refine (sig_any HP.out).mono ?_
  rintro e w1 ⟨rfl, z1, b⟩
  have ZP := hid z1
  have G := hid b
  replace HQ := hid (HQ.out.now b)
  clear z1 b HP
  go_wp2_with fail
  refine (sig_any HQ.out).mono ?_
  rintro e w2 ⟨rfl, z1, b⟩
  have ZQ := hid z1
  replace ZP := hid (ZP.out.now b)
  replace G := hid (below_step G.out b)
  clear z1 b HQ
  have LP : Hid ((ps.take (sgl ps)).length = sgl ps) := by unfold Hid; rw [List.length_take]; exact Nat.min_eq_left (sgl_le _)
  have LQ : Hid ((qs.take (sgl qs)).length = sgl qs) := by unfold Hid; rw [List.length_take]; exact Nat.min_eq_left (sgl_le _)
  generalize ps.take (sgl ps) = P at *
  generalize qs.take (sgl qs) = Q at *
  generalize sgl ps = n at *
  generalize sgl qs = m at *
  obtain ⟨_, _, e1, hc0, hn0, hf0⟩ := ZP.out.form9
  simp only [Value.slice.injEq] at e1
  obtain ⟨rfl, -, rfl⟩ := e1
  obtain ⟨_, _, e1, hc1, hn1, hf1⟩ := ZQ.out.form9
  simp only [Value.slice.injEq] at e1
  obtain ⟨rfl, -, rfl⟩ := e1
  have F0 := hid hf0
  have F1 := hid hf1
  rw [LP.out] at hn0 hc0
  rw [LQ.out] at hn1 hc1
  clear hf0 hf1
  by_cases h0 : n = 0
  · subst h0
    have FIN : Hid (Muled w P Q (kp + kq + 1) (.returned (.slice none 0 0)) w2) := .inl ⟨.inl (List.eq_nil_of_length_eq_zero LP.out), rfl, G.out⟩
    clear ZP ZQ F0 F1 LP LQ G
    go_wp2
    go_ret
    exact FIN.out
  by_cases h1 : m = 0
  · subst h1
    have FIN : Hid (Muled w P Q (kp + kq + 1) (.returned (.slice none 0 0)) w2) := .inl ⟨.inr (List.eq_nil_of_length_eq_zero LQ.out), rfl, G.out⟩
    have hn : ((n : Int) == 0) = false := by simp; omega
    have hn' : ¬ (n : Int) = 0 := by omega
    clear ZP ZQ F0 F1 LP LQ G
    go_wp2
    go_ret
    exact FIN.out
  have hn : ((n : Int) == 0) = false := by simp; omega
  have hn' : ¬ (n : Int) = 0 := by omega
  have hm : ((m : Int) == 0) = false := by simp; omega
  have hm' : ¬ (m : Int) = 0 := by omega
  obtain ⟨L, hL⟩ : ∃ L, n + m - 1 = L := ⟨_, rfl⟩
  obtain ⟨S, hS⟩ : ∃ S, n + m = S := ⟨_, rfl⟩
  have hw1 : IntKind.i64.wrap ((n : Int) + (m : Int)) = (S : Int) := by rw [wrap_is] <;> omega
  have hw2 : IntKind.i64.wrap ((S : Int) - 1) = (L : Int) := by rw [wrap_is] <;> omega
  have EL : Hid (n + m - 1 = L) := hL
  have hL2 : L ≤ 2000000 := by omega
  have hnm : n ≤ L ∧ m ≤ L := by omega
  have NE : Hid (P ≠ [] ∧ Q ≠ []) := ⟨fun e => by have := LP.out; rw [e] at this; simp at this; omega, fun e => by have := LQ.out; rw [e] at this; simp at this; omega⟩
  have BP := hid (zl_lt ZP.out)
  have BQ := hid (zl_lt ZQ.out)
  obtain ⟨KK, hKK⟩ : ∃ KK, kp + kq + 1 = KK := ⟨_, rfl⟩
  have EKK := hid hKK
  rw [hKK]
  clear h0 h1 hL hKK hS
  go_wp2_with (at_make; refine wpList_make_pairs9 _ rfl _ _ rfl _ _ L L rfl rfl rfl rfl (Nat.le_refl _) hL2 ?_)
  intro w3 hrow hb1 hsz1
  have H0 : Hid (MuO w2 P Q KK n (.int .i64 0) w3) := ⟨0, rfl, Nat.zero_le _, by rw [LP.out]; omega, by
    rw [coL_start, LP.out, LQ.out, EL.out]
    exact AllZ.start hrow _, hb1, FarA.start hrow _⟩
  have CL : Hid (∀ i j, (coL P Q i j).length = L) := fun i j => by rw [coL_length, LP.out, LQ.out, EL.out]
  clear hrow hb1 hsz1 hw1 hw2
  go_wp2_with fail
  go_loopg [31] n (fun gk s31 wx => MuO w2 P Q KK gk s31 wx)
  case atStart => exact H0.out
  case round =>
    clear H0
    obtain ⟨i, rfl, hin, hg, hz, hG, hfa⟩ := hrel
    have FA := hid hfa
    have AZ := hid hz
    have B2 := hid hG
    have HG := hid hg
    rw [LP.out] at hin
    clear hz hG hg hfa
    by_cases hlt : i < n
    · have hlt' : (i : Int) < (n : Int) := by omega
      have hiP : i < P.length := by rw [LP.out]; exact hlt
      obtain ⟨b1, o1, rfl⟩ := F0.out (fun e => by rw [e] at hiP; simp at hiP)
      obtain ⟨nf, xf, adf, qf, k0, k1, zf⟩ := ZP.out.at9 (i := i) hiP
      rw [getD_at hiP] at zf
      have k0 := cnow B2.out k0
      have k1 := cnow B2.out k1
      have ZF := hid zf
      have hwi := wrapI9 (i := i) (by omega)
      obtain ⟨lf, hlf⟩ : ∃ lf, xf.length = lf := ⟨_, rfl⟩
      rw [hlf] at k1 ZF
      obtain ⟨V1, hV⟩ : ∃ V1, wr.alloc (duo (.bool nf) (.slice adf lf qf)) = V1 := ⟨_, rfl⟩
      obtain ⟨bv, szv⟩ := alo1 wr (duo (.bool nf) (.slice adf lf qf))
      rw [hV] at bv szv
      have D7 : Duo V1 wr.heap.size (.bool nf) (.slice adf lf qf) := by rw [← hV]; exact Duo.new wr _ _
      have HB7 : Hid (w2.heap.size < wr.heap.size) := AZ.out.blk
      have H1 : Hid (MuI w2 wr.heap.size (.bool nf) (.slice adf lf qf) P Q i KK m (.int .i64 0) V1) := ⟨0, rfl, Nat.zero_le _, by rw [LQ.out]; omega, AZ.out.step bv, D7, below_step B2.out bv, FA.out.step bv⟩
      have HMM : Hid (n - (i + 1) < gk) := by unfold Hid; rw [HG.out, LP.out]; omega
      have EV := hid hV
      clear zf hlf bv szv D7 AZ B2 HG hV FA
      go_wp2_with fail
      rw [EV.out]
      clear EV k0 k1
      generalize wr.heap.size = b7 at *
      go_loopg [38] m (fun gk2 s38 wx => MuI w2 b7 (.bool nf) (.slice adf lf qf) P Q i KK gk2 s38 wx)
      case atStart => exact H1.out
      case round =>
        clear H1
        obtain ⟨j, rfl, hjm, hg, hz, hd, hG, hfa⟩ := hrel
        have FA := hid hfa
        have AZ := hid hz
        have D7 := hid hd
        have B2 := hid hG
        have HG := hid hg
        rw [LQ.out] at hjm
        clear hz hd hG hg hfa
        by_cases hjt : j < m
        · have hjt' : (j : Int) < (m : Int) := by omega
          have hjQ : j < Q.length := by rw [LQ.out]; exact hjt
          obtain ⟨b2, o2, rfl⟩ := F1.out (fun e => by rw [e] at hjQ; simp at hjQ)
          obtain ⟨ng, xg, adg, qg, k0, k1, zg⟩ := ZQ.out.at9 (i := j) hjQ
          rw [getD_at hjQ] at zg
          have k0 := cnow B2.out k0
          have k1 := cnow B2.out k1
          have ZG := hid zg
          have hwj := wrapI9 (i := j) (by omega)
          obtain ⟨lg, hlg⟩ : ∃ lg, xg.length = lg := ⟨_, rfl⟩
          rw [hlg] at k1 ZG
          obtain ⟨V2, hV⟩ : ∃ V2, wr.alloc (duo (.bool ng) (.slice adg lg qg)) = V2 := ⟨_, rfl⟩
          obtain ⟨bv, szv⟩ := alo1 wr (duo (.bool ng) (.slice adg lg qg))
          rw [hV] at bv szv
          have D9 : Hid (Duo V2 wr.heap.size (.bool ng) (.slice adg lg qg)) := by unfold Hid; rw [← hV]; exact Duo.new wr _ _
          replace AZ := hid (AZ.out.step bv)
          replace FA := hid (FA.out.step bv)
          replace D7 := hid (D7.out.step bv)
          replace B2 := hid (below_step B2.out bv)
          have HM2 : Hid (m - (j + 1) < gk) := by unfold Hid; rw [HG.out, LQ.out]; omega
          obtain ⟨s, hs⟩ : ∃ s, i + j = s := ⟨_, rfl⟩
          have hws : IntKind.i64.wrap ((i : Int) + (j : Int)) = (s : Int) := by rw [wrap_is] <;> omega
          have hsL : s < L := by have := EL.out; omega
          have hsL' : (s : Int) < (L : Int) := by omega
          have ES := hid hs
          have EV := hid hV
          clear zg hlg bv szv HG hV hs
          go_upto_region 11 with fail
          rw [EV.out]
          clear EV k0 k1
          obtain ⟨nx, xx, adx, qx, c0, c1, f0, f1, zx⟩ := AZ.out.at (i := s) (by rw [CL.out]; exact hsL)
          obtain ⟨lx, hlx⟩ : ∃ lx, xx.length = lx := ⟨_, rfl⟩
          rw [hlx] at c1 zx
          have ZX := hid zx
          clear zx hlx
          have d70 := D7.out.c0
          have d71 := D7.out.c1
          have d90 := D9.out.c0
          have d91 := D9.out.c1
          generalize wr.heap.size = b9 at *
          have KB : Hid (∀ w', Below V2.heap.size V2 w' → w'.cell? ⟨b7, 0, none⟩ = some (.bool nf) ∧ w'.cell? ⟨b7, 1, none⟩ = some (.slice adf lf qf) ∧ w'.cell? ⟨b9, 0, none⟩ = some (.bool ng) ∧ w'.cell? ⟨b9, 1, none⟩ = some (.slice adg lg qg) ∧ w'.cell? ⟨w2.heap.size, s * 2, none⟩ = some (.bool nx) ∧ w'.cell? ⟨w2.heap.size, s * 2 + 1, none⟩ = some (.slice adx lx qx)) := fun w' h => ⟨cnow h d70, cnow h d71, cnow h d90, cnow h d91, cnow h c0, cnow h c1⟩
          refine wp_region_tail (fun w' => w'.cell? ⟨b7, 0, none⟩ = some (.bool nf) ∧ w'.cell? ⟨b7, 1, none⟩ = some (.slice adf lf qf) ∧ w'.cell? ⟨b9, 0, none⟩ = some (.bool ng) ∧ w'.cell? ⟨b9, 1, none⟩ = some (.slice adg lg qg) ∧ w'.cell? ⟨w2.heap.size, s * 2, none⟩ = some (.bool nx) ∧ w'.cell? ⟨w2.heap.size, s * 2 + 1, none⟩ = some (.slice adx lx qx)) 14 (by kernel_rfl) ?_
          obtain ⟨D61, hD⟩ : ∃ D61, V2.drew = D61 := ⟨_, rfl⟩
          have GB : Hid (Below V2.heap.size V2 D61) := by unfold Hid; rw [← hD]; exact (Below.refl _ _).drew
          rw [hD]
          clear hD
          refine wpAnyT_list [(0, (.slice (some ⟨w2.heap.size, 0, none⟩) L L)), (1, (.int .i64 (i : Int))), (2, (.int .i64 (j : Int))), (3, (.int .i64 (s : Int))), (4, (.agg #[.bool nf, .slice adf lf qf])), (5, (.agg #[.bool ng, .slice adg lg qg])), (6, (.slice (some ⟨w2.heap.size, 0, none⟩) L L)), (7, (.int .i64 (i : Int))), (8, (.int .i64 (j : Int))), (9, (.int .i64 (s : Int))), (10, (.pointer (some ⟨w2.heap.size, s * 2, none⟩))), (11, (.agg #[.bool nx, .slice adx lx qx]))] 12 ?_ (KB.out _ GB.out) ?_
          · simp only [TakesV, gA9, g09, g19, Act.put, sI9, s09, s19]
            (repeat' (first | exact trivial | refine And.intro (Or.inl ⟨by rfl, ?_⟩) ?_)) <;> (intro w hSw; (try dsimp only at hSw); go_simp)
          simp only [actV, gA9, g09, g19, Act.put, sI9, s09, s19]
          refine wpAnyT_one (i := 12) (o := { dst := some 55, op := Op.call { callee := Callee.value (Operand.func 26), args := #[Operand.tmp 47, Operand.tmp 48, Operand.tmp 54], argTypes := #[25, 25, 25] }, type := 25, pos := "poly.go:41", after := #[{ on := 4, ground := Ground.data }, { on := 5, ground := Ground.data }, { on := 11, ground := Ground.data }], guard := none }) (by kernel_rfl) rfl (fun K hK => ?_)
          have lzg : Hid (V2.heap.size ≤ D61.heap.size) := GB.out.size
          go_simp
          go_at_call 26
          refine (mulAdd_z ((ZF.out.now B2.out).now GB.out) ((ZG.out.now B2.out).now GB.out) (ZX.out.zi.now GB.out) (by have := HK.out; omega) (by have := HK.out; have := EKK.out; omega)).mono ?_
          rintro e w62 ⟨r1, rfl, m1, b⟩
          have lz62 := (show Below _ _ _ from b).size
          replace GB := hid (below_step GB.out b)
          have lz := GB.out.size
          have AZ1 := hid (AZ.out.step GB.out)
          have D71 := hid (D7.out.step GB.out)
          have B21 := hid (below_step B2.out GB.out)
          have FA1 := hid (FA.out.step GB.out)
          have HFS := hid (Nat.le_trans B2.out.size lzg.out)
          have M0 := hid m1.zc
          have MF := hid (m1.mono HFS.out)
          obtain ⟨nr, xr, ar, cr, rfl⟩ := m1.parts
          have FP1 := hid MF.out.farP
          have EC : Hid (P.getD i 0 * Q.getD j 0 + (coL P Q i j).getD s 0 = cfP P Q i (j + 1) s) := by
            unfold Hid
            rw [cfP_step, if_pos ES.out.symm, coL_getD (by rw [LP.out, LQ.out, EL.out]; exact hsL)]
          have M1 : Hid (Zc w62 (.agg #[.bool nr, .slice ar xr.length cr]) (P.getD i 0 * Q.getD j 0 + (coL P Q i j).getD s 0) KK) := Zc.fit16 M0.out (by rw [EC.out, ← EKK.out]; exact cfP_lt BP.out BQ.out (by omega))
          obtain ⟨lr, hlr⟩ : ∃ lr, xr.length = lr := ⟨_, rfl⟩
          rw [hlr] at M1 FP1 ⊢
          clear m1 M0 EC hlr MF
          clear b
          refine hK.out _ _ (fun _ => KB.out _ GB.out) ?_
          clear hK
          refine wpAnyT_list [(13, (.pointer (some ⟨w2.heap.size, s * 2, none⟩)))] 1 ?_ (KB.out _ GB.out) ?_
          · simp only [TakesV, gA9, g09, g19, Act.put, sI9, s09, s19]
            (repeat' (first | exact trivial | refine And.intro (Or.inl ⟨by rfl, ?_⟩) ?_)) <;> (intro w hSw; (try dsimp only at hSw); go_simp)
          simp only [actV, gA9, g09, g19, Act.put, sI9, s09, s19]
          refine wpAnyT_one (i := 14) (o := { dst := none, op := Op.store 25 (Operand.tmp 56) (Operand.tmp 55), type := 0, pos := "poly.go:41", after := #[{ on := 13, ground := Ground.data }, { on := 12, ground := Ground.data }, { on := 12, ground := Ground.chain }, { on := 0, ground := Ground.phase }, { on := 1, ground := Ground.phase }, { on := 2, ground := Ground.phase }, { on := 3, ground := Ground.phase }, { on := 4, ground := Ground.phase }, { on := 5, ground := Ground.phase }, { on := 6, ground := Ground.phase }, { on := 7, ground := Ground.phase }, { on := 8, ground := Ground.phase }, { on := 9, ground := Ground.phase }, { on := 10, ground := Ground.phase }, { on := 11, ground := Ground.phase }, { on := 12, ground := Ground.phase }], guard := none }) (by kernel_rfl) rfl (fun K hK => ?_)
          obtain ⟨ny, xy, ady, qy, e0, e1, e2, e3, -⟩ := AZ1.out.at (i := s) (by rw [CL.out]; exact hsL)
          go_simp
          clear e0 e1 e2 e3
          obtain ⟨V63, hW⟩ : ∃ V63, ((w62.setCell ⟨w2.heap.size, s * 2, none⟩ (.bool nr)).setCell ⟨w2.heap.size, s * 2 + 1, none⟩ (.slice ar lr cr)) = V63 := ⟨_, rfl⟩
          have HN1 : Hid (MuI w2 b7 (.bool nf) (.slice adf lf qf) P Q i KK (m - (j + 1)) (.int .i64 ((j + 1 : Nat) : Int)) V63) := by
            unfold Hid
            rw [← hW]
            refine ⟨j + 1, rfl, by rw [LQ.out]; omega, by rw [LQ.out], ?_, (D71.out.ne (by have := HB7.out; omega)).ne (by have := HB7.out; omega), bset (bset B21.out (Nat.le_refl _)) (Nat.le_refl _), FA1.out.put AZ1.out (by rw [CL.out]; exact hsL) M1.out.zi.isI FP1.out⟩
            rw [coL_step hiP hjQ, ES.out]
            exact AZ1.out.put (by rw [CL.out]; exact hsL) M1.out
          rw [hW]
          clear hW
          refine hK.out _ _ (fun h => absurd h (by decide)) ?_
          clear hK
          try simp only [Act.put]
          refine wpAnyT_done (by kernel_rfl) ?_ _
          clear AZ D7 D9 B2 AZ1 D71 B21 M1 GB KB ZG ZX FA FA1 FP1
          go_wp2_with fail
          go_roundg (m - (j + 1))
          case rel => exact HN1.out
          case measure => exact HM2.out
        · have hjt' : ¬ (j : Int) < (m : Int) := by omega
          obtain rfl : j = m := by omega
          have HN1 : Hid (MuO w2 P Q KK (n - (i + 1)) (.int .i64 ((i + 1 : Nat) : Int)) wr) := ⟨i + 1, rfl, by rw [LP.out]; omega, by rw [LP.out], by
            rw [← coL_next, LQ.out]
            exact AZ.out, B2.out, FA.out⟩
          clear AZ D7 B2 HG FA
          go_wp2_with fail
          go_roundg (n - (i + 1))
          case rel => exact HN1.out
          case measure => exact HMM.out
    · have hlt' : ¬ (i : Int) < (n : Int) := by omega
      obtain rfl : i = n := by omega
      have FIN : Hid (Muled w P Q (kp + kq + 1) (.returned (.slice (some ⟨w2.heap.size, 0, none⟩) L L)) wr) := by
        unfold Hid
        rw [EKK.out]
        exact .inr ⟨NE.out.1, NE.out.2, w2.heap.size, by rw [mulP_length, LP.out, LQ.out, EL.out], G.out.size, by
        unfold mulP
        rw [LP.out]
        exact AZ.out, below_step G.out B2.out, FA.out.mono G.out.size⟩
      clear AZ B2 HG FA
      go_wp2
      go_ret
      exact FIN.out
end Go.Proofs.Ytnpcfohimlfbdaa
