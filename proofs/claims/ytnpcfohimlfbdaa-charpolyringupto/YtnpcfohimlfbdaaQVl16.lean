/-
  Vl16: charpoly.Value.
-/
import Derived.Test.YtnpcfohimlfbdaaQPa16
namespace Go.Proofs.Ytnpcfohimlfbdaa
open Go.RowKit
set_option linter.unusedVariables false
set_option linter.unusedSimpArgs false

theorem vl_bnd {l kx kp K : Nat} (h : 2 < l) (h2 : kp + (2 * l - 3) * (kx + 1) ≤ K) : kp + kx + 1 + (2 * ((l + 1) / 2) - 3) * (kx + kx + 1) ≤ K ∧ kp + kx + 1 + (kx + kx) + 1 ≤ K := by
  have h3 : (2 * ((l + 1) / 2) - 3) * (kx + kx + 1) ≤ (l - 2) * (2 * (kx + 1)) := Nat.mul_le_mul (by omega) (by omega)
  have h4 : (2 * l - 3) * (kx + 1) = (l - 2) * (2 * (kx + 1)) + (kx + 1) := by
    obtain ⟨m, rfl⟩ : ∃ m, l = m + 2 := ⟨l - 2, by omega⟩
    rw [show 2 * (m + 2) - 3 = 2 * m + 1 by omega, show m + 2 - 2 = m by omega]
    grind
  have h5 : 3 * (kx + 1) ≤ (2 * l - 3) * (kx + 1) := Nat.mul_le_mul_right _ (by omega)
  omega
theorem vl_short {L : List Int} {y : Int} (h : L.length ≤ 1) : vlQ L y = zsum L := by
  match L, h with
  | [], _ => rfl
  | [a], _ => rw [vl_cons, vl_nil]; simp [zsum]
def VaH (w : World) (b3 b4 : Nat) (V : Int) (K gk : Nat) (s0 : Value) (wx : World) : Prop :=
  ∃ (P : List Int) (x : Int) (kp kx : Nat) (a : Option Addr) (l c : Nat) (nx : Bool) (ax : Option Addr) (lx cx : Nat), s0 = .slice a l c ∧ gk = l ∧ Zl wx (.slice a l c) P kp ∧ Duo wx b3 (.bool nx) (.slice ax lx cx) ∧ Zi wx (.agg #[.bool nx, .slice ax lx cx]) x kx ∧
    vlQ P x = V ∧ kp + kx + 1 ≤ K ∧ kp + (2 * l - 3) * (kx + 1) ≤ K ∧ Duo wx b4 (.bool false) (.slice none 0 0) ∧ Below w.heap.size w wx ∧ P.length = l
set_option maxHeartbeats 6400000 in
set_option maxRecDepth 100000 in
theorem value_any {w : World} {a : Option Addr} {l c k kx : Nat} {ps : List Int} {xv : Value} {x : Int} (hp : Zl w (.slice a l c) ps k) (hx : Zi w xv x kx) {K : Nat} (hK : k + (2 * l + 1) * (kx + 1) ≤ K) (hk : K + 2 < 35184372088831) :
    Calls Try.prog 23 #[.slice a l c, xv] w (GivesZ w (vlQ ps x) (K + 1)) := by
  obtain ⟨nx, xx, adx, qx, rfl⟩ := hx.parts16
  obtain ⟨lx, hlx⟩ : ∃ lx, xx.length = lx := ⟨_, rfl⟩
  rw [hlx] at hx ⊢
  obtain ⟨_, _, e1, hc0, hn0, -⟩ := hp.form9
  simp only [Value.slice.injEq] at e1
  obtain ⟨rfl, rfl, rfl⟩ := e1
  obtain ⟨W0, hW⟩ : ∃ W0, (w.alloc (duo (.bool nx) (.slice adx lx qx))).alloc zbox = W0 := ⟨_, rfl⟩
  obtain ⟨b0, sz0⟩ := alloc2 w (duo (.bool nx) (.slice adx lx qx)) zbox
  rw [hW] at b0 sz0
  obtain ⟨b3, hb3⟩ : ∃ b3, w.heap.size = b3 := ⟨_, rfl⟩
  have D3 : Hid (Duo W0 w.heap.size (.bool nx) (.slice adx lx qx)) := by unfold Hid; rw [← hW]; exact duo_late (duo_at (by simp)) _
  have D4 : Hid (Duo W0 (w.heap.size + 1) (.bool false) (.slice none 0 0)) := by unfold Hid; rw [← hW]; exact duo_at (by simp)
  have ZP := hid (hp.now b0)
  have ZX := hid (hx.now b0)
  have G := hid b0
  have EW := hid hW
  have ET := hid (vl_tr ps x)
  have HKK := hid hK
  have HK := hid hk
  have EB3 := hid hb3
  generalize vlQ ps x = V at *
  clear hp hx hlx hW b0 sz0 hK hk hb3
  go_enter Try.func23, Try.ntmps23
  go_upto_region 1 with fail
  rw [EW.out]
  go_wp2_with fail
  refine (sig_any ZP.out).mono ?_
  rintro e w1 ⟨rfl, z1, b⟩
  have hsl := sgl_le ps
  have LP : Hid ((tr ps).length = sgl ps) := tr_length ps
  have H0 : Hid (VaH w b3 (b3 + 1) V K (sgl ps) (.slice a (sgl ps) c) w1) := by
    unfold Hid
    have e3 := EB3.out
    refine ⟨tr ps, x, k, kx, a, sgl ps, c, nx, adx, lx, qx, rfl, rfl, z1, e3 ▸ D3.out.step b, ZX.out.now b, ET.out, ?_, ?_, e3 ▸ D4.out.step b, below_step G.out b, LP.out⟩
    · have h5 : 1 * (kx + 1) ≤ (2 * ps.length + 1) * (kx + 1) := Nat.mul_le_mul_right _ (by omega)
      have := HKK.out
      omega
    · have h5 : (2 * sgl ps - 3) * (kx + 1) ≤ (2 * ps.length + 1) * (kx + 1) := Nat.mul_le_mul_right _ (by omega)
      have := HKK.out
      omega
  rw [EB3.out]
  clear ZP ZX D3 D4 z1 b ET HKK EW LP G
  generalize sgl ps = n0 at *
  go_wp2_with fail
  go_loopg [0] n0 (fun gk s0 wx => VaH w b3 (b3 + 1) V K gk s0 wx)
  case atStart => exact H0.out
  case round =>
    clear H0
    obtain ⟨P, y, kp, ky, a', l', c', ny, ay, ly, cy, rfl, hg, zp, d3, zx, ev, hb1, hb2, d4, hB, lp⟩ := hrel
    have ZP := hid zp
    have D3 := hid d3
    have ZX := hid zx
    have EV := hid ev
    have D4 := hid d4
    have B := hid hB
    have LP := hid lp
    have HB1 := hid hb1
    have HB2 := hid hb2
    have HG := hid hg
    have hl20 : l' ≤ 1048576 := by
      obtain ⟨_, _, e1, _, h2, _⟩ := zp.form9
      rw [LP.out] at h2
      exact h2
    have d0 := d3.c0
    have d1 := d3.c1
    have hpr := hid (paired_any ZP.out ZX.out (by have := HB1.out; have := HK.out; omega))
    clear zp d3 zx ev d4 hB lp hg
    by_cases hlt : 2 < l'
    · have hlt' : (2 : Int) < (l' : Int) := by omega
      go_wp2_with fail
      refine hpr.out.mono ?_
      rintro e w2 ⟨g, rfl, hgw, hz, b⟩
      have AZ := hid hz
      have HGW : Hid (b3 < g) := Nat.lt_of_lt_of_le D3.out.blk hgw
      replace D3 := hid (D3.out.step b)
      replace D4 := hid (D4.out.step b)
      replace ZX := hid (ZX.out.now b)
      replace B := hid (below_step B.out b)
      have hbn := D3.out.blk
      have d0 := D3.out.c0
      have d1 := D3.out.c1
      have hmu := hid (mul_z ZX.out ZX.out (by have := vl_bnd hlt HB2.out; have := HK.out; omega))
      clear hz hgw b hpr d0 d1
      have d0 := D3.out.c0
      have d1 := D3.out.c1
      go_wp2_with fail
      refine hmu.out.mono ?_
      rintro e w3 ⟨r, rfl, m1, b⟩
      replace AZ := hid (AZ.out.step b)
      replace D3 := hid (D3.out.step b)
      replace D4 := hid (D4.out.step b)
      replace B := hid (below_step B.out b)
      have MZ := hid m1.zi
      obtain ⟨nr, xr, ar, cr, rfl⟩ := m1.parts
      obtain ⟨lr, hlr⟩ : ∃ lr, xr.length = lr := ⟨_, rfl⟩
      rw [hlr] at MZ ⊢
      have HN : Hid (VaH w b3 (b3 + 1) V K ((l' + 1) / 2) (.slice (some ⟨g, 0, none⟩) ((l' + 1) / 2) ((l' + 1) / 2)) ((w3.setCell ⟨b3, 0, none⟩ (.bool nr)).setCell ⟨b3, 1, none⟩ (.slice ar lr cr))) := by
        unfold Hid
        have hwk := D3.out.wk (.bool nr) (.slice ar lr cr)
        have hgb : b3 < g := HGW.out
        have hn2 : (prQ P y).length = (l' + 1) / 2 := by rw [prQ_length, LP.out]
        have A2 := AZ.out.ne hwk (heap_ne2 (by omega) _ _)
        refine ⟨prQ P y, y * y, _, _, _, _, _, nr, ar, lr, cr, rfl, rfl, A2.zl (by omega) hn2, D3.out.set _ _, MZ.out.wk hwk, by rw [vl_pr]; exact EV.out, ?_, ?_, D4.out.box (by omega) _ _, bset (bset B.out (by have := EB3.out; omega)) (by have := EB3.out; omega), hn2⟩
        · exact (vl_bnd hlt HB2.out).2
        · exact (vl_bnd hlt HB2.out).1
      have HMM : Hid ((l' + 1) / 2 < gk) := by unfold Hid; rw [HG.out]; omega
      have r0 := D3.out.c0
      have r1 := D3.out.c1
      have f0 := D3.out.fz 0
      have f1 := D3.out.fz 1
      clear AZ D3 D4 MZ ZX ZP B m1 b hmu hlr d0 d1 EV HB1 HB2 HGW HG
      generalize (l' + 1) / 2 = h' at *
      go_wp2_with fail
      go_roundg h'
      case rel => exact HN.out
      case measure => exact HMM.out
    · have hlt' : ¬ (2 : Int) < (l' : Int) := by omega
      go_wp2_with fail
      refine hpr.out.mono ?_
      rintro e w2 ⟨g, rfl, hgw, hz, b⟩
      have hn2 : (prQ P y).length = (l' + 1) / 2 := by rw [prQ_length, LP.out]
      have AZ := hid (hz.zl (by rw [hn2]; omega) hn2)
      have ESM : Hid (zsum (prQ P y) = V) := by unfold Hid; rw [← vl_short (y := y * y) (by rw [hn2]; omega), vl_pr]; exact EV.out
      replace D4 := hid (D4.out.step b)
      replace B := hid (below_step B.out b)
      have hsm := hid (sum_z AZ.out (by rw [hn2]; have := HB1.out; have := HK.out; omega))
      rw [ESM.out, hn2] at hsm
      have HL1 : Hid ((l' + 1) / 2 ≤ 1) := by unfold Hid; omega
      clear hz hgw b hpr d0 d1 D3 ZX ZP EV HB2 HG ESM AZ hn2
      generalize (l' + 1) / 2 = h' at *
      go_wp2_with fail
      refine hsm.out.mono ?_
      rintro e w3 ⟨r, rfl, m1, b⟩
      replace D4 := hid (D4.out.step b)
      have MZ := hid m1
      obtain ⟨nr, xr, ar, cr, rfl⟩ := m1.parts
      obtain ⟨lr, hlr⟩ : ∃ lr, xr.length = lr := ⟨_, rfl⟩
      rw [hlr] at MZ ⊢
      have FIN : Hid (GivesZ w V (K + 1) (.returned (.agg #[.bool nr, .slice ar lr cr])) ((w3.setCell ⟨b3 + 1, 0, none⟩ (.bool nr)).setCell ⟨b3 + 1, 1, none⟩ (.slice ar lr cr))) := by
        unfold Hid
        have hb4 : w.heap.size ≤ b3 + 1 := by have := EB3.out; omega
        exact ⟨_, rfl, ((MZ.out.box D4.out _ _).mono (by have := B.out.size; omega)).more (by have := HB1.out; have := HL1.out; omega), bset (bset (below_step B.out b) hb4) hb4⟩
      have r0 := D4.out.c0
      have r1 := D4.out.c1
      have f0 := D4.out.fz 0
      have f1 := D4.out.fz 1
      have DD := hid (D4.out.set (.bool nr) (.slice ar lr cr))
      clear D4 MZ B m1 b hsm hlr HB1 HL1
      go_wp2
      exact bodyPost_ret (zback Try.results23 DD.out _ (by rfl)) rfl FIN.out
end Go.Proofs.Ytnpcfohimlfbdaa
