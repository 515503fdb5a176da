/-
  Ta16: lists in least form that may be read; charpoly.Trim, Add.
-/
import Derived.Test.YtnpcfohimlfbdaaQPz16
import Derived.Test.YtnpcfohimlfbdaaQGi10ToCx16
import Derived.Test.YtnpcfohimlfbdaaQTy9ToTailL
import Derived.Deep.Cut
namespace Go.Proofs.Ytnpcfohimlfbdaa
open Go.RowKit
set_option linter.unusedVariables false
set_option linter.unusedSimpArgs false

theorem range_getD16 (zs : List Int) : (List.range zs.length).map (fun j => zs.getD j 0) = zs := by
  apply List.ext_getElem
  · simp
  · intro j h1 h2
    simp [h2]
theorem sum_lt16 {x y : Int} {k : Nat} (hx : (x.natAbs : Int) ≤ pw k) (hy : (y.natAbs : Int) < pw k) : ((x + y).natAbs : Int) < pw (k + 1) := by
  have h2 := pw_pos k
  have h4 : pw (k + 1) = pw k * pw 1 := pw_plus _ _
  have h5 : pw 1 = 18446744073709551616 := by simp [pw, wB]
  rw [h4, h5]
  omega
/-- A list of integers in least form. -/
def Zlc (w : World) (v : Value) (zs : List Int) (k : Nat) : Prop :=
  ∃ a c, v = .slice a zs.length c ∧ zs.length ≤ c ∧ zs.length ≤ 1048576 ∧ (zs = [] ∨ ∃ b off, a = some ⟨b, off, none⟩ ∧ b < w.heap.size ∧ ∀ j (h : j < zs.length), ∃ x y, w.cell? ⟨b, off + 2 * j, none⟩ = some x ∧ w.cell? ⟨b, off + 2 * j + 1, none⟩ = some y ∧ Zc w (.agg #[x, y]) zs[j] k)
theorem Zlc.zl {w : World} {v : Value} {zs : List Int} {k : Nat} (h : Zlc w v zs k) : Zl w v zs k := by
  obtain ⟨a, c, h1, h2, h3, h4⟩ := h
  refine ⟨a, c, h1, h2, h3, ?_⟩
  rcases h4 with h4 | ⟨b, off, h5, h6, h7⟩
  · exact .inl h4
  · refine .inr ⟨b, off, h5, h6, fun j hj => ?_⟩
    obtain ⟨x, y, q1, q2, q3⟩ := h7 j hj
    exact ⟨x, y, q1, q2, q3.zi⟩
theorem Zlc.now {w w' : World} {v : Value} {zs : List Int} {k : Nat} (h : Zlc w v zs k) (hb : Below w.heap.size w w') : Zlc w' v zs k := by
  obtain ⟨a, c, h1, h2, h3, h4⟩ := h
  refine ⟨a, c, h1, h2, h3, ?_⟩
  rcases h4 with h4 | ⟨b, off, h5, h6, h7⟩
  · exact .inl h4
  · refine .inr ⟨b, off, h5, Nat.lt_of_lt_of_le h6 hb.size, fun j hj => ?_⟩
    obtain ⟨x, y, q1, q2, q3⟩ := h7 j hj
    exact ⟨x, y, (hb.cell (p := ⟨b, off + 2 * j, none⟩) h6).trans q1, (hb.cell (p := ⟨b, off + 2 * j + 1, none⟩) h6).trans q2, q3.now hb⟩
theorem Zlc.nil (w : World) (k : Nat) : Zlc w (.slice none 0 0) [] k := ⟨none, 0, rfl, Nat.le_refl _, by simp, .inl rfl⟩
theorem Zlc.form {w : World} {v : Value} {zs : List Int} {k : Nat} (h : Zlc w v zs k) : ∃ a c, v = .slice a zs.length c ∧ zs.length ≤ c ∧ zs.length ≤ 1048576 := by
  obtain ⟨a, c, h1, h2, h3, _⟩ := h
  exact ⟨a, c, h1, h2, h3⟩
/-- The head of an array. -/
theorem AllZ.zlc {w : World} {g k : Nat} {zs : List Int} (h : AllZ w g zs k) {m c : Nat} (hm : m ≤ zs.length) (hc : m ≤ c) (hl : m ≤ 1048576) : Zlc w (.slice (some ⟨g, 0, none⟩) m c) (zs.take m) k := by
  obtain ⟨ps, h1, h2, h3⟩ := h
  have e : (zs.take m).length = m := by simp; omega
  refine ⟨_, c, by rw [e], by omega, by omega, .inr ⟨g, 0, rfl, h1.1.blk, fun j hj => ?_⟩⟩
  have hp : ps[j]? = some (ps[j]'(by omega)) := List.getElem?_eq_getElem (by omega)
  have q := h1.at hp
  refine ⟨_, _, by rw [Nat.zero_add, Nat.mul_comm]; exact q.1, by rw [Nat.zero_add, Nat.mul_comm]; exact q.2, ?_⟩
  have := h3 j _ (zs[j]'(by omega)) hp (List.getElem?_eq_getElem (by omega))
  simpa using this
/-- What a call answers that gives a list. -/
def GivesL (w : World) (zs : List Int) (k : Nat) (e : Ending) (w' : World) : Prop := ∃ v, e = .returned v ∧ Zlc w' v zs k ∧ Below w.heap.size w w'
def TmH (w1 : World) (n : Nat) (F : Nat → Int) (k gk : Nat) (s : Value) (wx : World) : Prop :=
  ∃ i : Nat, s = .int .i64 (i : Int) ∧ i ≤ n ∧ gk = n - i ∧ Fil wx w1.heap.size n i F k ∧ Below w1.heap.size w1 wx
set_option maxHeartbeats 3200000 in
set_option maxRecDepth 100000 in
theorem trim_any {w : World} {a : Option Addr} {l c k : Nat} {zs : List Int} (h : Zl w (.slice a l c) zs k) : Calls Try.prog 12 #[.slice a l c] w (ListN w (tr zs).length (tr zs) k) := by
  have HZ := hid h
  clear h
  go_enter Try.func12, Try.ntmps12
  go_wp2_with fail
  refine (sig_any HZ.out).mono ?_
  rintro e w1 ⟨rfl, z1, b⟩
  have ZP := hid z1
  have G := hid b
  have ETR : Hid (zs.take (sgl zs) = tr zs) := rfl
  rw [ETR.out] at ZP
  have LP : Hid ((tr zs).length = sgl zs) := tr_length zs
  have RZ := hid (range_getD16 (tr zs))
  rw [LP.out] at RZ ⊢
  clear z1 b HZ ETR
  generalize tr zs = P at *
  generalize sgl zs = n at *
  obtain ⟨_, _, e1, hc0, hn0, hf0⟩ := ZP.out.form9
  simp only [Value.slice.injEq] at e1
  obtain ⟨rfl, -, rfl⟩ := e1
  have F0 := hid hf0
  rw [LP.out] at hn0 hc0
  clear hf0
  go_wp2_with (at_make; refine wpList_make_pairs9 _ rfl _ _ rfl _ _ n n rfl rfl rfl rfl (Nat.le_refl _) (by omega) ?_)
  intro w2 hrow hb1 hsz1
  have H0 : Hid (TmH w1 n (fun j => P.getD j 0) k n (.int .i64 0) w2) := ⟨0, rfl, Nat.zero_le _, by omega, Fil.start hrow _ _, hb1⟩
  clear hrow hb1 hsz1
  go_wp2_with fail
  go_loopg [13] n (fun gk s13 wx => TmH w1 n (fun j => P.getD j 0) k gk s13 wx)
  case atStart => exact H0.out
  case round =>
    clear H0
    obtain ⟨i, rfl, hin, hg, hfil, hG⟩ := hrel
    have FI := hid hfil
    have B := hid hG
    have HG := hid hg
    clear hfil hG hg
    by_cases hlt : i < n
    · have hlt' : (i : Int) < (n : Int) := by omega
      have hiP : i < P.length := by rw [LP.out]; exact hlt
      obtain ⟨b1, o1, rfl⟩ := F0.out (fun e => by rw [e] at hiP; simp at hiP)
      obtain ⟨nf, xf, adf, qf, k0, k1, zf⟩ := (ZP.out.now B.out).at9 (i := i) hiP
      rw [getD_at hiP] at zf
      obtain ⟨lf, hlf⟩ : ∃ lf, xf.length = lf := ⟨_, rfl⟩
      rw [hlf] at k1 zf
      have hwi := wrapI9 (i := i) (by omega)
      obtain ⟨V1, hV⟩ : ∃ V1, wr.alloc (duo (.bool nf) (.slice adf lf qf)) = V1 := ⟨_, rfl⟩
      obtain ⟨bv, szv⟩ := alo1 wr (duo (.bool nf) (.slice adf lf qf))
      rw [hV] at bv szv
      have D7 : Duo V1 wr.heap.size (.bool nf) (.slice adf lf qf) := by rw [← hV]; exact Duo.new wr _ _
      have HS := hid (least_z (zf.now bv))
      replace FI := hid (FI.out.step bv)
      replace B := hid (below_step B.out bv)
      have HMM : Hid (n - (i + 1) < gk) := by unfold Hid; rw [HG.out]; omega
      have d0 := D7.c0
      have d1 := D7.c1
      rw [← hV] at d0 d1
      have EV := hid hV
      clear zf hlf bv szv HG hV D7
      go_wp2_with fail
      rw [EV.out]
      clear EV k0 k1 d0 d1
      refine HS.out.mono ?_
      rintro e w3 ⟨r, rfl, m1, b⟩
      have FI1 := hid (FI.out.step b)
      have G1 := hid (below_step B.out b)
      have M1 := hid m1.zc
      obtain ⟨nr, xr, ar, cr, rfl⟩ := m1.parts
      obtain ⟨m0, am, lm, cm, e0, e1, e2, e3⟩ := FI1.out.cells hlt
      have HN1 : Hid (TmH w1 n (fun j => P.getD j 0) k (n - (i + 1)) (.int .i64 ((i + 1 : Nat) : Int)) ((w3.setCell ⟨w1.heap.size, i * 2, none⟩ (.bool nr)).setCell ⟨w1.heap.size, i * 2 + 1, none⟩ (.slice ar xr.length cr))) :=
        ⟨i + 1, rfl, by omega, rfl, FI1.out.put hlt M1.out, bset (bset G1.out (Nat.le_refl _)) (Nat.le_refl _)⟩
      clear HS FI B FI1 G1 M1 m1 b
      go_wp2_with fail
      go_roundg (n - (i + 1))
      case rel => exact HN1.out
      case measure => exact HMM.out
    · have hlt' : ¬ (i : Int) < (n : Int) := by omega
      obtain rfl : i = n := by omega
      have FIN : Hid (ListN w P.length P k (.returned (.slice (some ⟨w1.heap.size, 0, none⟩) i i)) wr) := by
        unfold Hid
        rw [LP.out]
        exact ⟨w1.heap.size, rfl, G.out.size, by have := FI.out.doneA16; rw [RZ.out] at this; exact this, below_step G.out B.out⟩
      clear FI B HG
      go_wp2
      go_ret
      exact FIN.out
/-- The sum of the first i places. -/
def adS (P Q : List Int) (i : Nat) : List Int := (List.range P.length).map fun t => if t < i then cf P t + cf Q t else cf P t
theorem adS_length {P Q : List Int} {i : Nat} : (adS P Q i).length = P.length := by simp [adS]
theorem adS_start {P Q : List Int} : adS P Q 0 = P := by
  apply List.ext_getElem
  · simp [adS]
  · intro t h1 h2
    simp [adS, cf, h2]
theorem adS_at {P Q : List Int} {i : Nat} (hi : i < P.length) : (adS P Q i).getD i 0 = cf P i := by simp [adS, hi]
theorem adS_step {P Q : List Int} {i : Nat} (hi : i < P.length) : adS P Q (i + 1) = (adS P Q i).set i (cf P i + cf Q i) := by
  apply List.ext_getElem
  · simp [adS]
  · intro t h1 h2
    have ht : t < P.length := by simpa [adS] using h1
    by_cases h : t = i
    · subst h
      simp [adS]
    · rw [List.getElem_set_ne (by omega)]
      simp only [adS, List.getElem_map, List.getElem_range]
      by_cases q : t < i
      · rw [if_pos q, if_pos (by omega)]
      · rw [if_neg q, if_neg (by omega)]
theorem adS_done {P Q : List Int} (h : Q.length ≤ P.length) : tr (adS P Q Q.length) = adQ P Q := by
  refine trm_ext (trm_tr _) (trm_adQ _ _) fun s => ?_
  rw [cf_tr, cf_adQ]
  by_cases q : s < P.length
  · have e : cf (adS P Q Q.length) s = if s < Q.length then cf P s + cf Q s else cf P s := by simp [cf, adS, q]
    rw [e]
    by_cases q2 : s < Q.length
    · rw [if_pos q2]
    · rw [if_neg q2, cf_ge (P := Q) (by omega), Int.add_zero]
  · rw [cf_ge (P := adS P Q Q.length) (by rw [adS_length]; omega), cf_ge (P := P) (by omega), cf_ge (P := Q) (by omega)]; rfl
theorem adQ_tr (P Q : List Int) : adQ (tr P) (tr Q) = adQ P Q := trm_ext (trm_adQ _ _) (trm_adQ _ _) fun s => by rw [cf_adQ, cf_adQ, cf_tr, cf_tr]
def AdH (wB : World) (g n : Nat) (P Q : List Int) (k gk : Nat) (s : Value) (wx : World) : Prop :=
  ∃ i : Nat, s = .int .i64 (i : Int) ∧ i ≤ n ∧ gk = n - i ∧ AllZ wx g (adS P Q i) k ∧ Below wB.heap.size wB wx
theorem add_lt16 {x y : Int} {k : Nat} (hx : (x.natAbs : Int) < pw k) (hy : (y.natAbs : Int) < pw k) : ((x + y).natAbs : Int) < pw (k + 1) := sum_lt16 (Int.le_of_lt hx) hy
/-- The longer one first. -/
def AdM (w : World) (P Q S : List Int) (k : Nat) (s0 s1 : Value) : Prop :=
  ∃ (P' Q' : List Int) (a0 a1 : Option Addr) (n m c0 c1 : Nat), s0 = .slice a0 n c0 ∧ s1 = .slice a1 m c1 ∧ Zl w (.slice a0 n c0) P' k ∧ Zl w (.slice a1 m c1) Q' k ∧ m ≤ n ∧ P'.length = n ∧ Q'.length = m ∧ Trm P' ∧ Trm Q' ∧ adQ P' Q' = S
set_option maxHeartbeats 6400000 in
set_option maxRecDepth 100000 in
theorem padd_any {w : World} {a0 a1 : Option Addr} {l0 l1 c0 c1 k : Nat} {ps qs : List Int} (hp : Zl w (.slice a0 l0 c0) ps k) (hq : Zl w (.slice a1 l1 c1) qs k) (hk : k + 1 < 35184372088831) :
    Calls Try.prog 14 #[.slice a0 l0 c0, .slice a1 l1 c1] w (GivesL w (adQ ps qs) (k + 1)) := by
  have HP := hid hp
  have HQ := hid hq
  have HK0 : Hid (k < 35184372088832) := by unfold Hid; omega
  have HK1 : Hid (k + 1 < 35184372088832) := by unfold Hid; omega
  clear hp hq hk
  go_enter Try.func14, Try.ntmps14
  go_wp2_with fail
  refine (sig_any HP.out).mono ?_
  rintro e w1 ⟨rfl, z1, b⟩
  have ZP := hid z1
  have G := hid b
  replace HQ := hid (HQ.out.now b)
  clear z1 b HP
  go_wp2_with fail
  refine (sig_any HQ.out).mono ?_
  rintro e w2 ⟨rfl, z1, b⟩
  have ZQ := hid z1
  replace ZP := hid (ZP.out.now b)
  replace G := hid (below_step G.out b)
  clear z1 b HQ
  have ETP : Hid (ps.take (sgl ps) = tr ps) := rfl
  have ETQ : Hid (qs.take (sgl qs) = tr qs) := rfl
  rw [ETP.out] at ZP
  rw [ETQ.out] at ZQ
  have LP : Hid ((tr ps).length = sgl ps) := tr_length ps
  have LQ : Hid ((tr qs).length = sgl qs) := tr_length qs
  have TP := hid (trm_tr ps)
  have TQ := hid (trm_tr qs)
  have EAD := hid (adQ_tr ps qs)
  clear ETP ETQ
  generalize adQ ps qs = S at *
  generalize tr ps = P at *
  generalize tr qs = Q at *
  generalize sgl ps = n at *
  generalize sgl qs = m at *
  go_upto_if 16 with fail
  go_cut [0, 1] from 8 (fun s0 s1 wx => wx = w2 ∧ AdM w2 P Q S k s0 s1)
  case first =>
    by_cases hnm : n < m
    · have h1 : (n : Int) < (m : Int) := by omega
      have FIN : Hid (w2 = w2 ∧ AdM w2 P Q S k (.slice a1 m c1) (.slice a0 n c0)) := ⟨rfl, Q, P, a1, a0, m, n, c1, c0, rfl, rfl, ZQ.out, ZP.out, by omega, LQ.out, LP.out, TQ.out, TP.out, by rw [adQ_comm]; exact EAD.out⟩
      clear ZP ZQ LP LQ TP TQ EAD
      go_wp2_with fail
      go_meet
      exact ⟨rfl, FIN.out.2⟩
    · have h1 : ¬ (n : Int) < (m : Int) := by omega
      have FIN : Hid (w2 = w2 ∧ AdM w2 P Q S k (.slice a0 n c0) (.slice a1 m c1)) := ⟨rfl, P, Q, a0, a1, n, m, c0, c1, rfl, rfl, ZP.out, ZQ.out, by omega, LP.out, LQ.out, TP.out, TQ.out, EAD.out⟩
      clear ZP ZQ LP LQ TP TQ EAD
      go_wp2_with fail
      go_meet
      exact ⟨rfl, FIN.out.2⟩
  case rest =>
    rename World => Wc
    obtain ⟨hwc, hm⟩ := hcut
    subst hwc
    obtain ⟨P', Q', a0', a1', n', m', c0', c1', rfl, rfl, zp, zq, hmn, lp, lq, tp, tq, ead⟩ := hm
    clear ZP ZQ LP LQ TP TQ EAD
    have ZP := hid zp
    have ZQ := hid zq
    have LP := hid lp
    have LQ := hid lq
    have EAD := hid ead
    have ETR := hid (tr_of tp)
    have BP := hid (zl_lt zp)
    have BQ := hid (zl_lt zq)
    obtain ⟨_, _, e1, hc1, hn1, hf1⟩ := zq.form9
    simp only [Value.slice.injEq] at e1
    obtain ⟨rfl, -, rfl⟩ := e1
    have F1 := hid hf1
    rw [LQ.out] at hn1 hc1
    obtain ⟨_, _, e1, hc0, hn0, -⟩ := zp.form9
    simp only [Value.slice.injEq] at e1
    obtain ⟨-, -, rfl⟩ := e1
    rw [LP.out] at hn0 hc0
    clear zp zq lp lq tp tq ead hf1
    have HT := hid (trim_any ZP.out)
    rw [ETR.out, LP.out] at HT
    go_wp2_with fail
    refine HT.out.mono ?_
    rintro e w3 ⟨g, rfl, hg, hz, b⟩
    have ZQ3 := hid (ZQ.out.now b)
    have H0 : Hid (AdH Wc g m' P' Q' (k + 1) m' (.int .i64 0) w3) := ⟨0, rfl, Nat.zero_le _, by omega, by rw [adS_start]; exact hz.more (by omega), b⟩
    have HGG := hid hg
    clear hg hz b HT ZP
    go_wp2_with fail
    go_loopg [23] m' (fun gk s23 wx => AdH Wc g m' P' Q' (k + 1) gk s23 wx)
    case atStart => exact H0.out
    case round =>
      clear H0
      obtain ⟨i, rfl, hin, hg, haz, hB⟩ := hrel
      have AZ := hid haz
      have B := hid hB
      have HG := hid hg
      clear haz hB hg
      by_cases hlt : i < m'
      · have hlt' : (i : Int) < (m' : Int) := by omega
        have hiQ : i < Q'.length := by rw [LQ.out]; exact hlt
        have hiP : i < P'.length := by rw [LP.out]; omega
        obtain ⟨b1, o1, rfl⟩ := F1.out (fun e => by rw [e] at hiQ; simp at hiQ)
        obtain ⟨nf, xf, adf, qf, k0, k1, zf⟩ := (ZQ.out.now B.out).at9 (i := i) hiQ
        rw [getD_at hiQ] at zf
        obtain ⟨lf, hlf⟩ : ∃ lf, xf.length = lf := ⟨_, rfl⟩
        rw [hlf] at k1 zf
        have hwi := wrapI9 (i := i) (by omega)
        obtain ⟨V1, hV⟩ : ∃ V1, wr.alloc (duo (.bool nf) (.slice adf lf qf)) = V1 := ⟨_, rfl⟩
        obtain ⟨bv, szv⟩ := alo1 wr (duo (.bool nf) (.slice adf lf qf))
        rw [hV] at bv szv
        have D7 : Hid (Duo V1 wr.heap.size (.bool nf) (.slice adf lf qf)) := by unfold Hid; rw [← hV]; exact Duo.new wr _ _
        have ZF := hid (zf.now bv)
        replace AZ := hid (AZ.out.step bv)
        replace B := hid (below_step B.out bv)
        have HMM : Hid (m' - (i + 1) < gk) := by unfold Hid; rw [HG.out]; omega
        have hin' : (i : Int) < (n' : Int) := by omega
        have EV := hid hV
        clear zf hlf bv szv HG hV
        go_upto_region 8 with fail
        rw [EV.out]
        clear EV k0 k1
        obtain ⟨nx, xx, adx, qx, x0, x1, -, -, zx⟩ := AZ.out.at (i := i) (by rw [adS_length]; exact hiP)
        rw [adS_at hiP] at zx
        obtain ⟨lx, hlx⟩ : ∃ lx, xx.length = lx := ⟨_, rfl⟩
        rw [hlx] at x1 zx
        have ZX := hid zx
        have d0 := D7.out.c0
        have d1 := D7.out.c1
        clear zx hlx
        generalize wr.heap.size = b9 at *
        have KB : Hid (∀ w', Below V1.heap.size V1 w' → w'.cell? ⟨g, i * 2, none⟩ = some (.bool nx) ∧ w'.cell? ⟨g, i * 2 + 1, none⟩ = some (.slice adx lx qx) ∧ w'.cell? ⟨b9, 0, none⟩ = some (.bool nf) ∧ w'.cell? ⟨b9, 1, none⟩ = some (.slice adf lf qf)) := fun w' h => ⟨cnow h x0, cnow h x1, cnow h d0, cnow h d1⟩
        refine wp_region_tail (fun w' => w'.cell? ⟨g, i * 2, none⟩ = some (.bool nx) ∧ w'.cell? ⟨g, i * 2 + 1, none⟩ = some (.slice adx lx qx) ∧ w'.cell? ⟨b9, 0, none⟩ = some (.bool nf) ∧ w'.cell? ⟨b9, 1, none⟩ = some (.slice adf lf qf)) 9 (by kernel_rfl) ?_
        obtain ⟨D61, hD⟩ : ∃ D61, V1.drew = D61 := ⟨_, rfl⟩
        have GB : Hid (Below V1.heap.size V1 D61) := by unfold Hid; rw [← hD]; exact (Below.refl _ _).drew
        rw [hD]
        clear hD
        refine wpAnyT_list [(0, (.slice (some ⟨g, 0, none⟩) n' n')), (1, (.int .i64 (i : Int))), (2, (.slice (some ⟨g, 0, none⟩) n' n')), (3, (.int .i64 (i : Int))), (4, (.pointer (some ⟨g, i * 2, none⟩))), (5, (.agg #[.bool nx, .slice adx lx qx])), (6, (.agg #[.bool nf, .slice adf lf qf]))] 7 ?_ (KB.out _ GB.out) ?_
        · simp only [TakesV, gA9, g09, g19, Act.put, sI9, s09, s19]
          (repeat' (first | exact trivial | refine And.intro (Or.inl ⟨by rfl, ?_⟩) ?_)) <;> (intro w hSw; (try dsimp only at hSw); go_simp)
        simp only [actV, gA9, g09, g19, Act.put, sI9, s09, s19]
        refine wpAnyT_one (i := 7) (o := { dst := some 35, op := Op.call { callee := Callee.value (Operand.func 24), args := #[Operand.tmp 33, Operand.tmp 34], argTypes := #[25, 25] }, type := 25, pos := "poly.go:26", after := #[{ on := 5, ground := Ground.data }, { on := 6, ground := Ground.data }], guard := none }) (by kernel_rfl) rfl (fun K hK => ?_)
        go_simp
        go_at_call 24
        refine (add_z (ZX.out.zi.now GB.out) (ZF.out.now GB.out) HK1.out HK0.out).mono ?_
        rintro e w62 ⟨r1, rfl, m1, b⟩
        have lz62 := (show Below _ _ _ from b).size
        replace GB := hid (below_step GB.out b)
        have AZ1 := hid (AZ.out.step GB.out)
        have B1 := hid (below_step B.out GB.out)
        have M0 := hid m1.zc
        obtain ⟨nr, xr, ar, cr, rfl⟩ := m1.parts
        have M1 : Hid (Zc w62 (.agg #[.bool nr, .slice ar xr.length cr]) (cf P' i + cf Q' i) (k + 1)) := Zc.fit16 M0.out (add_lt16 (lt_getD BP.out i) (lt_getD BQ.out i))
        obtain ⟨lr, hlr⟩ : ∃ lr, xr.length = lr := ⟨_, rfl⟩
        rw [hlr] at M1 ⊢
        clear m1 M0 hlr
        clear b
        refine hK.out _ _ (fun _ => KB.out _ GB.out) ?_
        clear hK
        refine wpAnyT_list [(8, (.pointer (some ⟨g, i * 2, none⟩)))] 1 ?_ (KB.out _ GB.out) ?_
        · simp only [TakesV, gA9, g09, g19, Act.put, sI9, s09, s19]
          (repeat' (first | exact trivial | refine And.intro (Or.inl ⟨by rfl, ?_⟩) ?_)) <;> (intro w hSw; (try dsimp only at hSw); go_simp)
        simp only [actV, gA9, g09, g19, Act.put, sI9, s09, s19]
        refine wpAnyT_one (i := 9) (o := { dst := none, op := Op.store 25 (Operand.tmp 36) (Operand.tmp 35), type := 0, pos := "poly.go:26", after := #[{ on := 8, ground := Ground.data }, { on := 7, ground := Ground.data }, { on := 7, ground := Ground.chain }, { on := 0, ground := Ground.phase }, { on := 1, ground := Ground.phase }, { on := 2, ground := Ground.phase }, { on := 3, ground := Ground.phase }, { on := 4, ground := Ground.phase }, { on := 5, ground := Ground.phase }, { on := 6, ground := Ground.phase }, { on := 7, ground := Ground.phase }], guard := none }) (by kernel_rfl) rfl (fun K hK => ?_)
        obtain ⟨ny, xy, ady, qy, e0, e1, e2, e3, -⟩ := AZ1.out.at (i := i) (by rw [adS_length]; exact hiP)
        go_simp
        clear e0 e1 e2 e3
        obtain ⟨V63, hW⟩ : ∃ V63, ((w62.setCell ⟨g, i * 2, none⟩ (.bool nr)).setCell ⟨g, i * 2 + 1, none⟩ (.slice ar lr cr)) = V63 := ⟨_, rfl⟩
        have HN1 : Hid (AdH Wc g m' P' Q' (k + 1) (m' - (i + 1)) (.int .i64 ((i + 1 : Nat) : Int)) V63) := by
          unfold Hid
          rw [← hW]
          refine ⟨i + 1, rfl, by omega, rfl, ?_, bset (bset B1.out HGG.out) HGG.out⟩
          rw [adS_step hiP]
          exact AZ1.out.put (by rw [adS_length]; exact hiP) M1.out
        rw [hW]
        clear hW
        refine hK.out _ _ (fun h => absurd h (by decide)) ?_
        clear hK
        try simp only [Act.put]
        refine wpAnyT_done (by kernel_rfl) ?_ _
        clear AZ B AZ1 B1 M1 GB KB ZF ZX D7
        go_wp2_with fail
        go_roundg (m' - (i + 1))
        case rel => exact HN1.out
        case measure => exact HMM.out
      · have hlt' : ¬ (i : Int) < (m' : Int) := by omega
        obtain rfl : i = m' := by omega
        have HLA : Hid ((adS P' Q' i).length = n') := by unfold Hid; rw [adS_length]; exact LP.out
        have HSG := hid (sig_any (AZ.out.zl (by rw [HLA.out]; exact hn0) HLA.out))
        have EDN : Hid (tr (adS P' Q' i) = S) := by unfold Hid; rw [← LQ.out, adS_done (by rw [LP.out, LQ.out]; exact hmn)]; exact EAD.out
        clear HG
        go_wp2_with fail
        refine HSG.out.mono ?_
        rintro e w9 ⟨rfl, -, b⟩
        have FIN : Hid (GivesL w S (k + 1) (.returned (.slice (some ⟨g, 0, none⟩) (sgl (adS P' Q' i)) n')) w9) := by
          have hsl := sgl_le (adS P' Q' i)
          rw [HLA.out] at hsl
          refine ⟨_, rfl, ?_, below_step G.out (below_step B.out b)⟩
          have := (AZ.out.step b).zlc (m := sgl (adS P' Q' i)) (c := n') (by rw [HLA.out]; exact hsl) hsl (by omega)
          rw [show (adS P' Q' i).take (sgl (adS P' Q' i)) = tr (adS P' Q' i) from rfl, EDN.out] at this
          exact this
        clear AZ B HSG b EDN HLA
        generalize sgl (adS P' Q' i) = sl at *
        go_wp2
        go_ret
        exact FIN.out
end Go.Proofs.Ytnpcfohimlfbdaa
