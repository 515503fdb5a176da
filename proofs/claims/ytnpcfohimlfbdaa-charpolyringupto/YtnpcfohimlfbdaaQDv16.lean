/-
  Dv16: charpoly.DivMonic.
-/
import Derived.Test.YtnpcfohimlfbdaaQDq16
namespace Go.Proofs.Ytnpcfohimlfbdaa
open Go.RowKit
set_option linter.unusedVariables false
set_option linter.unusedSimpArgs false

/-- What DivMonic answers. -/
def Dived (w : World) (ps Q : List Int) (K : Nat) (e : Ending) (w' : World) : Prop :=
  (monB Q = false ∧ e = .returned (.tuple #[.slice none 0 0, .slice none 0 0, .int .i64 10]) ∧ Below w.heap.size w w') ∨
  (monB Q = true ∧ ∃ U R v1 v2, e = .returned (.tuple #[v1, v2, .int .i64 0]) ∧ Zlc w' v1 U K ∧ Zlc w' v2 R K ∧ Dvd ps Q U R ∧ U.length ≤ ps.length ∧ Below w.heap.size w w')
def DvO (w2 : World) (P Q : List Int) (n m g1 g2 kp kq gk : Nat) (s : Value) (wx : World) : Prop :=
  ∃ (j : Nat) (U V : List Int) (v : Int), s = .int .i64 v ∧ v = (j : Int) - 1 ∧ j ≤ m ∧ gk = j ∧ AllZ wx g1 V (kp + (m - j) * (kq + 2)) ∧ AllZ wx g2 U (kp + (m - j) * (kq + 2)) ∧ V.length = P.length ∧ U.length = m ∧ DvS P Q n m j U V ∧ Below w2.heap.size w2 wx
def DvI (w2 : World) (V U Q : List Int) (u : Int) (i n g1 g2 K gk : Nat) (s : Value) (wx : World) : Prop :=
  ∃ t : Nat, s = .int .i64 (t : Int) ∧ t ≤ n ∧ gk = n - t ∧ AllZ wx g1 (subS V Q u i t) K ∧ AllZ wx g2 U K ∧ Below w2.heap.size w2 wx
theorem dv_next {kp kq m i : Nat} (hi : i < m) : kp + (m - (i + 1)) * (kq + 2) + kq + 2 = kp + (m - i) * (kq + 2) := by
  rw [show m - i = m - (i + 1) + 1 by omega, Nat.succ_mul]
  omega
set_option maxHeartbeats 12800000 in
set_option maxRecDepth 100000 in
theorem divMonic_any {w : World} {a0 a1 : Option Addr} {l0 l1 c0 c1 kp kq : Nat} {ps qs : List Int} (hp : Zl w (.slice a0 l0 c0) ps kp) (hq : Zl w (.slice a1 l1 c1) qs kq) {K : Nat} (hK : kp + l0 * (kq + 2) ≤ K) (hk : K + kq + 2 < 35184372088831) :
    Calls Try.prog 21 #[.slice a0 l0 c0, .slice a1 l1 c1] w (Dived w ps (tr qs) K) := by
  have HP := hid hp
  have HQ := hid hq
  have HLP0 : Hid (ps.length = l0) := by
    obtain ⟨_, _, e1, _, _, _⟩ := hp.form9
    simp only [Value.slice.injEq] at e1
    exact e1.2.1.symm
  have HL0 : Hid (l0 ≤ 1048576) := by
    obtain ⟨_, _, e1, _, h2, _⟩ := hp.form9
    rw [HLP0.out] at h2
    exact h2
  have HKK := hid hK
  have HK := hid hk
  clear hp hq hK hk
  go_enter Try.func21, Try.ntmps21
  go_wp2_with fail
  refine (sig_any HQ.out).mono ?_
  rintro e w1 ⟨rfl, z1, b⟩
  have ZQ := hid z1
  have G := hid b
  replace HP := hid (HP.out.now b)
  have ETQ : Hid (qs.take (sgl qs) = tr qs) := rfl
  rw [ETQ.out] at ZQ
  have LQ : Hid ((tr qs).length = sgl qs) := tr_length qs
  clear z1 b HQ ETQ
  generalize tr qs = Q at *
  generalize sgl qs = m1 at *
  have HMO := hid (isMonic_any ZQ.out)
  go_wp2_with fail
  refine HMO.out.mono ?_
  rintro e w2 ⟨rfl, b⟩
  replace ZQ := hid (ZQ.out.now b)
  replace G := hid (below_step G.out b)
  replace HP := hid (HP.out.now b)
  clear b HMO
  by_cases hmon : monB Q = true
  · have hq0 : 0 < Q.length ∧ cf Q (Q.length - 1) = 1 := of_decide_eq_true hmon
    obtain ⟨n, hn⟩ : ∃ n, m1 = n + 1 := ⟨m1 - 1, by have := LQ.out; omega⟩
    subst hn
    have Q1 : Hid (cf Q n = 1) := by have := hq0.2; rw [LQ.out] at this; exact this
    have HMN := hid hmon
    obtain ⟨_, _, e1, hc1, hn1, hf1⟩ := ZQ.out.form9
    simp only [Value.slice.injEq] at e1
    obtain ⟨rfl, -, rfl⟩ := e1
    obtain ⟨b1, o1, rfl⟩ := hf1 (fun e => by have := hq0.1; rw [e] at this; simp at this)
    rw [LQ.out] at hn1 hc1
    have BQ := hid (zl_lt ZQ.out)
    have hwn := wrapP16 (m := n) (by omega)
    have hwn' : IntKind.i64.wrap (n : Int) = (n : Int) := by rw [wrap_is] <;> omega
    have hnc : (n : Int) ≤ (c1 : Int) := by omega
    have HT := hid (trim_any HP.out)
    rw [hmon]
    clear hf1 hq0 hmon
    go_wp2_with fail
    refine HT.out.mono ?_
    rintro e w3 ⟨g1, rfl, hg1, hz, b⟩
    have AZ := hid hz
    have HG1 := hid hg1
    have B3 := hid b
    have TP := hid (trm_tr ps)
    have EDV : Hid (∀ U R, Dvd (tr ps) Q U R → Dvd ps Q U R) := fun U R h => dvd_tr h
    have HLP : Hid ((tr ps).length ≤ l0) := by unfold Hid; rw [tr_length, ← HLP0.out]; exact sgl_le ps
    clear hz hg1 b HT HP
    generalize tr ps = P at *
    obtain ⟨L, hL⟩ : ∃ L, P.length = L := ⟨_, rfl⟩
    have EL := hid hL
    have hL0 : L ≤ 1048576 := by have := HLP.out; have := HL0.out; omega
    rw [hL]
    obtain ⟨m, hm⟩ : ∃ m, L - n = m := ⟨_, rfl⟩
    have EM := hid hm
    have hmx1 : IntKind.i64.wrap ((L : Int) - (n : Int)) = (L : Int) - (n : Int) := by rw [wrap_is] <;> omega
    have hmx : max 0 ((L : Int) - (n : Int)) = (m : Int) := by omega
    have hm2 : m ≤ 2000000 := by omega
    clear hL hm
    go_wp2_with (at_make; refine wpList_make_pairs9 _ rfl _ _ rfl _ _ m m rfl rfl (by omega) (by omega) (Nat.le_refl _) hm2 ?_)
    intro w4 hrow hb1 hsz1
    have hmz1 : IntKind.i64.wrap ((m : Int) - 1) = (m : Int) - 1 := by rw [wrap_is] <;> omega
    have HG2 : Hid (w3.heap.size ≠ g1) := by have := AZ.out.blk; unfold Hid; omega
    have HG3 : Hid (w2.heap.size ≤ w3.heap.size) := B3.out.size
    obtain ⟨g2, hg2⟩ : ∃ g2, w3.heap.size = g2 := ⟨_, rfl⟩
    have H0 : Hid (DvO w2 P Q n m g1 g2 kp kq m (.int .i64 ((m : Int) - 1)) w4) := by
      unfold Hid
      rw [← hg2]
      refine ⟨m, List.replicate m 0, P, _, rfl, rfl, Nat.le_refl _, rfl, by rw [Nat.sub_self, Nat.zero_mul]; exact AZ.out.step hb1, by rw [Nat.sub_self, Nat.zero_mul]; exact AllZ.start hrow _, rfl, by simp, DvS.start (by rw [EL.out]; have := EM.out; omega), below_step B3.out hb1⟩
    rw [hg2] at HG2 HG3 ⊢
    clear hrow hb1 hsz1 AZ B3 hmx hmx1 hg2
    go_wp2_with fail
    go_loopg [9] m (fun gk s9 wx => DvO w2 P Q n m g1 g2 kp kq gk s9 wx)
    case atStart => exact H0.out
    case round =>
      clear H0
      obtain ⟨j, U, V, v, rfl, hs, hjm, hg, hzv, hzu, hlv, hlu, hdv, hB⟩ := hrel
      have LV := hid (hlv.trans EL.out)
      have LU := hid hlu
      have DV := hid hdv
      have B := hid hB
      have HG := hid hg
      have hmL : m ≤ L := by have := EM.out; omega
      have KB1 : kp + (m - j) * (kq + 2) ≤ K := by
        have h1 : (m - j) * (kq + 2) ≤ l0 * (kq + 2) := Nat.mul_le_mul_right _ (by have := HLP.out; rw [EL.out] at this; omega)
        have := HKK.out
        omega
      rcases Nat.eq_zero_or_pos j with hj | hj
      · subst hj
        obtain rfl : v = -1 := by omega
        have AV := hid hzv
        have AU := hid (hzu.more KB1)
        obtain ⟨r, hr⟩ : ∃ r, min n L = r := ⟨_, rfl⟩
        have ER := hid hr
        have hrl : r ≤ L := by omega
        have hrl' : (r : Int) ≤ (L : Int) := by omega
        have hmin : min (n : Int) (L : Int) = (r : Int) := by omega
        have DVD : Hid (Dvd ps Q U (tr (V.take r))) := by
          have := dvd_of DV.out LU.out (by rw [EL.out]; exact EM.out.symm) (LV.out.trans EL.out.symm) LQ.out Q1.out TP.out
          rw [EL.out, ER.out] at this
          exact EDV.out _ _ this
        have HTT := hid (trim_any ((AV.out.zl (by rw [LV.out]; exact hL0) LV.out).take16 (m := r) (by rw [LV.out]; exact hrl)))
        have KB2 := hid KB1
        clear hzv hzu hdv hB hlv hlu hg hs DV AV HG hr
        go_wp2_with fail
        refine HTT.out.mono ?_
        rintro e w5 ⟨g3, rfl, hg3, hz, b⟩
        have FIN : Hid (Dived w ps Q K (.returned (.tuple #[.slice (some ⟨g2, 0, none⟩) m m, .slice (some ⟨g3, 0, none⟩) (tr (V.take r)).length (tr (V.take r)).length, .int .i64 0])) w5) := by
          have h1 := (AU.out.step b).zlc (m := m) (c := m) (by rw [LU.out]; exact Nat.le_refl _) (Nat.le_refl _) (by omega)
          rw [← LU.out, List.take_length, LU.out] at h1
          have hle : (tr (V.take r)).length ≤ r := by
            rw [tr_length]
            have := sgl_le (V.take r)
            rw [List.length_take] at this
            omega
          have h2 := (hz.more KB2.out).zlc (m := (tr (V.take r)).length) (c := (tr (V.take r)).length) (Nat.le_refl _) (Nat.le_refl _) (by omega)
          rw [List.take_length] at h2
          exact .inr ⟨HMN.out, U, tr (V.take r), _, _, rfl, h1, h2, DVD.out, by rw [LU.out, HLP0.out]; have := HLP.out; rw [EL.out] at this; omega, below_step G.out (below_step B.out b)⟩
        generalize (tr (V.take r)).length = lr at *
        clear AU B HTT hg3 hz b DVD KB2
        go_wp2
        go_ret3
        exact FIN.out
      · obtain ⟨i, rfl⟩ : ∃ i, j = i + 1 := ⟨j - 1, by omega⟩
        obtain rfl : v = (i : Int) := by omega
        have hLmn : L = m + n := by have := EM.out; omega
        have him : i < m := hjm
        obtain ⟨s, hsn⟩ : ∃ s, i + n = s := ⟨_, rfl⟩
        have hsL : s < L := by omega
        have hsL' : (s : Int) < (L : Int) := by omega
        have him' : (i : Int) < (m : Int) := by omega
        have hge : (0 : Int) ≤ (i : Int) := by omega
        have hws : IntKind.i64.wrap ((i : Int) + (n : Int)) = (s : Int) := by rw [wrap_is] <;> omega
        have hwd : IntKind.i64.wrap ((i : Int) - 1) = (i : Int) - 1 := by rw [wrap_is] <;> omega
        have DVN : Hid (DvS P Q n m i (U.set i (cf V s)) (subS V Q (cf V s) i n)) := by
          have := DV.out.next him LU.out (by rw [LV.out]; exact hLmn) LQ.out Q1.out
          rw [hsn] at this
          exact this
        clear hLmn
        obtain ⟨K1, hK1⟩ : ∃ K1, kp + (m - (i + 1)) * (kq + 2) = K1 := ⟨_, rfl⟩
        have EK := hid (dv_next (kp := kp) (kq := kq) him)
        rw [hK1] at EK hzv hzu KB1
        have BV := hid (zl_lt (hzv.zl (by rw [LV.out]; exact hL0) LV.out))
        obtain ⟨nu, xu, adu, qu, k0, k1, -, -, zu⟩ := hzv.at (i := s) (by rw [LV.out]; exact hsL)
        obtain ⟨lu, hlu2⟩ : ∃ lu, xu.length = lu := ⟨_, rfl⟩
        rw [hlu2] at k1 zu
        obtain ⟨ny, xy, ady, qy, e0, e1, e2, e3, -⟩ := hzu.at (i := i) (by rw [LU.out]; exact him)
        have hwk := hzu.wk (i := i) (by rw [LU.out]; exact him) (.bool nu) (.slice adu lu qu)
        have H1 : Hid (DvI w2 V (U.set i (cf V s)) Q (cf V s) i n g1 g2 (K1 + kq + 2) n (.int .i64 0) ((wr.setCell ⟨g2, i * 2, none⟩ (.bool nu)).setCell ⟨g2, i * 2 + 1, none⟩ (.slice adu lu qu))) := by
          refine ⟨0, rfl, Nat.zero_le _, by omega, ?_, ?_, bset (bset B.out HG3.out) HG3.out⟩
          · rw [subS_start]
            exact (hzv.ne hwk (heap_ne2 HG2.out _ _)).more (by omega)
          · exact (hzu.put (by rw [LU.out]; exact him) zu).more (by omega)
        have HMM : Hid (i < gk) := by unfold Hid; rw [HG.out]; omega
        have LUS : Hid ((U.set i (cf V s)).length = m) := by unfold Hid; rw [List.length_set]; exact LU.out
        have LVS : Hid (∀ t, (subS V Q (cf V s) i t).length = L) := fun t => by rw [subS_length]; exact LV.out
        have HU : Hid ((U.set i (cf V s)).getD i 0 = cf V s) := by unfold Hid; simp [LU.out, him]
        have HKB1 : Hid (K1 + kq + 2 ≤ K) := by
          unfold Hid
          rw [EK.out]
          have h1 : (m - i) * (kq + 2) ≤ l0 * (kq + 2) := Nat.mul_le_mul_right _ (by have := HLP.out; rw [EL.out] at this; omega)
          have := HKK.out
          omega
        have HBU : Hid (((cf V s).natAbs : Int) < pw K1) := lt_getD BV.out s
        clear hzv hzu hdv hB hlv hlu hg hs DV HG hlu2 zu hwk B KB1 hK1
        generalize U.set i (cf V s) = U' at *
        generalize cf V s = u at *
        go_wp2_with fail
        clear k0 k1 e0 e1 e2 e3
        go_loopg [48] n (fun gk2 s48 wx => DvI w2 V U' Q u i n g1 g2 (K1 + kq + 2) gk2 s48 wx)
        case atStart => exact H1.out
        case round =>
          clear H1
          obtain ⟨t, rfl, htn, hg, hzv, hzu, hB⟩ := hrel
          have AV := hid hzv
          have AU := hid hzu
          have B := hid hB
          have HG := hid hg
          clear hzv hzu hB hg
          by_cases hlt : t < n
          · have hlt' : (t : Int) < (n : Int) := by omega
            have htQ : t < Q.length := by rw [LQ.out]; omega
            obtain ⟨ng, xg, adg, qg, k0, k1, zg⟩ := (ZQ.out.now B.out).at9 (i := t) htQ
            have ecf : Q[t] = cf Q t := (cf_lt htQ).symm
            rw [ecf] at zg
            obtain ⟨lg, hlg⟩ : ∃ lg, xg.length = lg := ⟨_, rfl⟩
            rw [hlg] at k1 zg
            have hwt := wrapI9 (i := t) (by omega)
            obtain ⟨V2, hV⟩ : ∃ V2, wr.alloc (duo (.bool ng) (.slice adg lg qg)) = V2 := ⟨_, rfl⟩
            obtain ⟨bv, szv⟩ := alo1 wr (duo (.bool ng) (.slice adg lg qg))
            rw [hV] at bv szv
            have D9 : Hid (Duo V2 wr.heap.size (.bool ng) (.slice adg lg qg)) := by unfold Hid; rw [← hV]; exact Duo.new wr _ _
            have ZG := hid (zg.now bv)
            replace AV := hid (AV.out.step bv)
            replace AU := hid (AU.out.step bv)
            replace B := hid (below_step B.out bv)
            have HM2 : Hid (n - (t + 1) < gk) := by unfold Hid; rw [HG.out]; omega
            obtain ⟨p, hpp⟩ : ∃ p, i + t = p := ⟨_, rfl⟩
            have hwp : IntKind.i64.wrap ((i : Int) + (t : Int)) = (p : Int) := by rw [wrap_is] <;> omega
            have hpL : p < L := by omega
            have hpL' : (p : Int) < (L : Int) := by omega
            have ES := hid hpp
            have EV := hid hV
            clear zg hlg bv szv HG hV hpp ecf
            go_upto_region 14 with fail
            rw [EV.out]
            clear EV k0 k1
            obtain ⟨nx, xx, adx, qx, x0, x1, -, -, zx⟩ := AV.out.at (i := p) (by rw [LVS.out]; exact hpL)
            rw [← ES.out, subS_at (by rw [LV.out, ES.out]; exact hpL), ES.out] at zx
            obtain ⟨lx, hlx⟩ : ∃ lx, xx.length = lx := ⟨_, rfl⟩
            rw [hlx] at x1 zx
            have ZX := hid zx
            obtain ⟨nq, xq, adq, qq, y0, y1, -, -, zq⟩ := AU.out.at (i := i) (by rw [LUS.out]; exact him)
            rw [HU.out] at zq
            obtain ⟨lq, hlq⟩ : ∃ lq, xq.length = lq := ⟨_, rfl⟩
            rw [hlq] at y1 zq
            have ZU := hid zq
            have d0 := D9.out.c0
            have d1 := D9.out.c1
            clear zx hlx zq hlq
            generalize wr.heap.size = b9 at *
            have KB : Hid (∀ w', Below V2.heap.size V2 w' → w'.cell? ⟨g1, p * 2, none⟩ = some (.bool nx) ∧ w'.cell? ⟨g1, p * 2 + 1, none⟩ = some (.slice adx lx qx) ∧ w'.cell? ⟨g2, i * 2, none⟩ = some (.bool nq) ∧ w'.cell? ⟨g2, i * 2 + 1, none⟩ = some (.slice adq lq qq) ∧ w'.cell? ⟨b9, 0, none⟩ = some (.bool ng) ∧ w'.cell? ⟨b9, 1, none⟩ = some (.slice adg lg qg)) := fun w' h => ⟨cnow h x0, cnow h x1, cnow h y0, cnow h y1, cnow h d0, cnow h d1⟩
            refine wp_region_tail (fun w' => w'.cell? ⟨g1, p * 2, none⟩ = some (.bool nx) ∧ w'.cell? ⟨g1, p * 2 + 1, none⟩ = some (.slice adx lx qx) ∧ w'.cell? ⟨g2, i * 2, none⟩ = some (.bool nq) ∧ w'.cell? ⟨g2, i * 2 + 1, none⟩ = some (.slice adq lq qq) ∧ w'.cell? ⟨b9, 0, none⟩ = some (.bool ng) ∧ w'.cell? ⟨b9, 1, none⟩ = some (.slice adg lg qg)) 18 (by kernel_rfl) ?_
            obtain ⟨D61, hD⟩ : ∃ D61, V2.drew = D61 := ⟨_, rfl⟩
            have GB : Hid (Below V2.heap.size V2 D61) := by unfold Hid; rw [← hD]; exact (Below.refl _ _).drew
            rw [hD]
            clear hD
            refine wpAnyT_list [(0, (.slice (some ⟨g1, 0, none⟩) L L)), (1, (.int .i64 (i : Int))), (2, (.int .i64 (t : Int))), (3, (.int .i64 (p : Int))), (4, (.slice (some ⟨g1, 0, none⟩) L L)), (5, (.int .i64 (i : Int))), (6, (.int .i64 (t : Int))), (7, (.int .i64 (p : Int))), (8, (.pointer (some ⟨g1, p * 2, none⟩))), (9, (.agg #[.bool nx, .slice adx lx qx])), (10, (.slice (some ⟨g2, 0, none⟩) m m)), (11, (.int .i64 (i : Int))), (12, (.pointer (some ⟨g2, i * 2, none⟩))), (13, (.agg #[.bool nq, .slice adq lq qq])), (14, (.agg #[.bool ng, .slice adg lg qg]))] 15 ?_ (KB.out _ GB.out) ?_
            · simp only [TakesV, gA9, g09, g19, Act.put, sI9, s09, s19]
              (repeat' (first | exact trivial | refine And.intro (Or.inl ⟨by rfl, ?_⟩) ?_)) <;> (intro w hSw; (try dsimp only at hSw); go_simp)
            simp only [actV, gA9, g09, g19, Act.put, sI9, s09, s19]
            refine wpAnyT_one (i := 15) (o := { dst := some 68, op := Op.call { callee := Callee.value (Operand.func 25), args := #[Operand.tmp 66, Operand.tmp 67], argTypes := #[25, 25] }, type := 25, pos := "poly.go:59", after := #[{ on := 13, ground := Ground.data }, { on := 14, ground := Ground.data }], guard := none }) (by kernel_rfl) rfl (fun K hK => ?_)
            go_simp
            go_at_call 25
            refine (mul_z (ZU.out.zi.now GB.out) (ZG.out.now GB.out) (by have := HKB1.out; have := HK.out; omega)).mono ?_
            rintro e w62 ⟨r1, rfl, m1, b⟩
            have lz62 := (show Below _ _ _ from b).size
            replace GB := hid (below_step GB.out b)
            have MU := hid m1.zi
            obtain ⟨nm, xm, am, cm, rfl⟩ := m1.parts
            obtain ⟨lm, hlm⟩ : ∃ lm, xm.length = lm := ⟨_, rfl⟩
            rw [hlm] at MU ⊢
            clear m1 hlm
            clear b
            refine hK.out _ _ (fun _ => KB.out _ GB.out) ?_
            clear hK
            refine wpAnyT_one (i := 16) (o := { dst := some 69, op := Op.call { callee := Callee.value (Operand.func 38), args := #[Operand.tmp 62, Operand.tmp 68], argTypes := #[25, 25] }, type := 25, pos := "poly.go:59", after := #[{ on := 9, ground := Ground.data }, { on := 15, ground := Ground.data }, { on := 15, ground := Ground.chain }], guard := none }) (by kernel_rfl) rfl (fun K hK => ?_)
            go_simp
            go_at_call 38
            refine (sub_z (ZX.out.zi.now GB.out) MU.out (by have := HKB1.out; have := HK.out; omega) (by have := HKB1.out; have := HK.out; omega)).mono ?_
            rintro e w63 ⟨r1, rfl, m1, b⟩
            have lz63 := (show Below _ _ _ from b).size
            replace GB := hid (below_step GB.out b)
            have AV1 := hid (AV.out.step GB.out)
            have AU1 := hid (AU.out.step GB.out)
            have B1 := hid (below_step B.out GB.out)
            have M0 := hid m1.zc
            obtain ⟨nr, xr, ar, cr, rfl⟩ := m1.parts
            have M1 : Hid (Zc w63 (.agg #[.bool nr, .slice ar xr.length cr]) (cf V p - u * cf Q t) (K1 + kq + 2)) := Zc.fit16 M0.out (sub_mul_lt16 (lt_getD BV.out p) HBU.out (lt_getD BQ.out t))
            obtain ⟨lr, hlr⟩ : ∃ lr, xr.length = lr := ⟨_, rfl⟩
            rw [hlr] at M1 ⊢
            clear m1 M0 hlr MU
            clear b
            refine hK.out _ _ (fun _ => KB.out _ GB.out) ?_
            clear hK
            refine wpAnyT_list [(17, (.pointer (some ⟨g1, p * 2, none⟩)))] 1 ?_ (KB.out _ GB.out) ?_
            · simp only [TakesV, gA9, g09, g19, Act.put, sI9, s09, s19]
              (repeat' (first | exact trivial | refine And.intro (Or.inl ⟨by rfl, ?_⟩) ?_)) <;> (intro w hSw; (try dsimp only at hSw); go_simp)
            simp only [actV, gA9, g09, g19, Act.put, sI9, s09, s19]
            refine wpAnyT_one (i := 18) (o := { dst := none, op := Op.store 25 (Operand.tmp 70) (Operand.tmp 69), type := 0, pos := "poly.go:59", after := #[{ on := 17, ground := Ground.data }, { on := 16, ground := Ground.data }, { on := 16, ground := Ground.chain }, { on := 0, ground := Ground.phase }, { on := 1, ground := Ground.phase }, { on := 2, ground := Ground.phase }, { on := 3, ground := Ground.phase }, { on := 4, ground := Ground.phase }, { on := 5, ground := Ground.phase }, { on := 6, ground := Ground.phase }, { on := 7, ground := Ground.phase }, { on := 8, ground := Ground.phase }, { on := 9, ground := Ground.phase }, { on := 10, ground := Ground.phase }, { on := 11, ground := Ground.phase }, { on := 12, ground := Ground.phase }, { on := 13, ground := Ground.phase }, { on := 14, ground := Ground.phase }, { on := 15, ground := Ground.phase }, { on := 16, ground := Ground.phase }], guard := none }) (by kernel_rfl) rfl (fun K hK => ?_)
            obtain ⟨ny, xy, ady, qy, e0, e1, e2, e3, -⟩ := AV1.out.at (i := p) (by rw [LVS.out]; exact hpL)
            go_simp
            clear e0 e1 e2 e3
            obtain ⟨V64, hW⟩ : ∃ V64, ((w63.setCell ⟨g1, p * 2, none⟩ (.bool nr)).setCell ⟨g1, p * 2 + 1, none⟩ (.slice ar lr cr)) = V64 := ⟨_, rfl⟩
            have HN1 : Hid (DvI w2 V U' Q u i n g1 g2 (K1 + kq + 2) (n - (t + 1)) (.int .i64 ((t + 1 : Nat) : Int)) V64) := by
              unfold Hid
              rw [← hW]
              refine ⟨t + 1, rfl, by omega, rfl, ?_, AU1.out.ne (AV1.out.wk (by rw [LVS.out]; exact hpL) _ _) (heap_ne2 (fun e => HG2.out e.symm) _ _), bset (bset B1.out HG1.out) HG1.out⟩
              rw [subS_step (by rw [LV.out, ES.out]; exact hpL), ES.out]
              exact AV1.out.put (by rw [LVS.out]; exact hpL) M1.out
            rw [hW]
            clear hW
            refine hK.out _ _ (fun h => absurd h (by decide)) ?_
            clear hK
            try simp only [Act.put]
            refine wpAnyT_done (by kernel_rfl) ?_ _
            clear AV AU B AV1 AU1 B1 M1 GB KB ZG ZX ZU D9
            go_wp2_with fail
            go_roundg (n - (t + 1))
            case rel => exact HN1.out
            case measure => exact HM2.out
          · have hlt' : ¬ (t : Int) < (n : Int) := by omega
            obtain rfl : t = n := by omega
            have HN1 : Hid (DvO w2 P Q t m g1 g2 kp kq i (.int .i64 ((i : Int) - 1)) wr) := by
              refine ⟨i, U', subS V Q u i t, _, rfl, rfl, by omega, rfl, ?_, ?_, (LVS.out t).trans EL.out.symm, LUS.out, DVN.out, B.out⟩
              · rw [← EK.out]; exact AV.out
              · rw [← EK.out]; exact AU.out
            clear AV AU B HG
            go_wp2_with fail
            go_roundg i
            case rel => exact HN1.out
            case measure => exact HMM.out
  · have hmf : monB Q = false := by simpa using hmon
    have FIN : Hid (Dived w ps Q K (.returned (.tuple #[.slice none 0 0, .slice none 0 0, .int .i64 10])) w2) := .inl ⟨hmf, rfl, G.out⟩
    rw [hmf]
    clear hmon G ZQ HP
    go_wp2
    go_ret3
    exact FIN.out
end Go.Proofs.Ytnpcfohimlfbdaa
