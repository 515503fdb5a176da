/-
  CrtAll6: CrtAll.
-/
import Derived.Test.YtkikiddoiigbjaaQCrtLPureToTailX
import Derived.Deep.LoopGhost
namespace Go.Proofs.Ytkikiddoiigbjaa
open Go.RowKit
set_option linter.unusedVariables false

/-- What CrtAll answers. -/
def CrtAlled (w : World) (Rs Ms : List Int) (k : Nat) (e : Ending) (w' : World) : Prop :=
  ((∃ j, ∃ h : j < Ms.length, Ms[j] = 0) ∧ GivesZ2 4 w 0 0 k k e w') ∨ ((∀ j (h : j < Ms.length), Ms[j] ≠ 0) ∧ ((CrtN Rs Ms ∧ GivesZ2 6 w 0 0 k k e w') ∨ ∃ r m, CrtL Rs Ms r m ∧ GivesZ2 0 w r m k k e w'))
def CrtH1 (w : World) (Rs Ms : List Int) (k n : Nat) (v u : Value) (g : Nat) (s e : Value) (wx : World) : Prop :=
  ∃ i : Nat, s = .int .i64 (i : Int) ∧ e = .int .i64 0 ∧ i ≤ n ∧ g = n - i ∧ (∀ j (h : j < Ms.length), j < i → Ms[j] ≠ 0) ∧ ZlB w.heap.size wx v Rs k ∧ ZlB w.heap.size wx u Ms k ∧ Duo wx w.heap.size (.bool false) (.slice none 0 0) ∧ Duo wx (w.heap.size + 1) (.bool false) (.slice none 0 0) ∧ Below w.heap.size w wx
def CrtH2 (w : World) (Rs Ms : List Int) (k n : Nat) (v u : Value) (g : Nat) (s e : Value) (wx : World) : Prop :=
  ∃ i : Nat, ∃ r m : Int, ∃ r0 r1 m0 m1 : Value, s = .int .i64 (i : Int) ∧ e = .int .i64 0 ∧ i ≤ n ∧ g = n - i ∧ CrtL (Rs.take i) (Ms.take i) r m ∧ ZlB w.heap.size wx v Rs k ∧ ZlB w.heap.size wx u Ms k ∧ Duo wx w.heap.size r0 r1 ∧ Duo wx (w.heap.size + 1) m0 m1 ∧ Zm w.heap.size wx (.agg #[r0, r1]) r k ∧ Zm w.heap.size wx (.agg #[m0, m1]) m k ∧ Below w.heap.size w wx
theorem Zm.comp {B : Nat} {w : World} {v0 v1 : Value} {z : Int} {k : Nat} (h : Zm B w (.agg #[v0, v1]) z k) : ∃ n, ∃ xs : List Int, ∃ a c, v0 = .bool n ∧ v1 = .slice a xs.length c := h.zi.comp
/-- Two cells anywhere: an element of a list. -/
structure El (w : World) (b o : Nat) (x y : Value) : Prop where
  c0 : w.cell? ⟨b, o, none⟩ = some x
  c1 : w.cell? ⟨b, o + 1, none⟩ = some y
  lt : b < w.heap.size
theorem El.step {w w' : World} {b o : Nat} {x y : Value} (h : El w b o x y) (hb : Below w.heap.size w w') : El w' b o x y :=
  ⟨(hb.cell (p := ⟨b, o, none⟩) h.lt).trans h.c0, (hb.cell (p := ⟨b, o + 1, none⟩) h.lt).trans h.c1, Nat.lt_of_lt_of_le h.lt hb.size⟩
theorem El.box {w : World} {b b' o : Nat} {x y : Value} (h : El w b o x y) (hne : b' ≠ b) (u u' : Value) : El ((w.setCell ⟨b', 0, none⟩ u).setCell ⟨b', 1, none⟩ u') b o x y :=
  ⟨box_ne hne (box_ne hne h.c0), box_ne hne (box_ne hne h.c1), by simpa using h.lt⟩
theorem wrapI {i : Nat} (h : i ≤ 1048576) : IntKind.i64.wrap ((i : Int) + 1) = ((i + 1 : Nat) : Int) := by rw [wrap_is] <;> omega

set_option maxHeartbeats 51200000 in
set_option maxRecDepth 100000 in
theorem crtAll_any {w : World} {v u : Value} {Rs Ms : List Int} {k : Nat} (hv : Zl w v Rs k) (hu : Zl w u Ms k) (hl : Rs.length = Ms.length) (h1 : 1 ≤ k) (hk : k ≤ 17179869184) (HP : ∀ i, i ≤ Ms.length → ((lcmL (Ms.take i)).natAbs : Int) < pw k) :
    Calls Try.prog 17 #[v, u] w (CrtAlled w Rs Ms k) := by
  have hP := hid HP
  clear HP
  have zv := hid hv.zlb
  have zu := hid hu.zlb
  obtain ⟨a0, c0, rfl, hc0, hn0, hf0⟩ := zv.out.form
  obtain ⟨a1, c1, rfl, hc1, hn1, hf1⟩ := zu.out.form
  obtain ⟨n, hn⟩ : ∃ n, Ms.length = n := ⟨_, rfl⟩
  have hRn : Rs.length = n := by omega
  rw [hRn] at zv hc0 hn0
  rw [hn] at zu hc1 hn1
  rw [hRn, hn]
  have HR := hid hRn
  have HN := hid hn
  have F0 := hid hf0
  have F1 := hid hf1
  clear hv hu hl hRn hf0 hf1
  obtain ⟨W0, hW⟩ : ∃ W0, (w.alloc zbox).alloc zbox = W0 := ⟨_, rfl⟩
  obtain ⟨b0, sz0⟩ := alloc2 w zbox zbox
  rw [hW] at b0 sz0
  have LR := hid (zv.out.now b0)
  have LM := hid (zu.out.now b0)
  clear zv zu hn
  have PRR : Hid (Duo W0 (w.heap.size) (.bool false) (.slice none 0 0)) := by unfold Hid; rw [← hW]; exact duo_late (duo_at rfl) _
  have PRM : Hid (Duo W0 (w.heap.size + 1) (.bool false) (.slice none 0 0)) := by unfold Hid; rw [← hW]; exact duo_at (by simp)
  have G := hid b0
  clear b0
  have EW := hid hW
  clear hW
  have qn : ((n : Int) != (n : Int)) = false := by simp
  have H0 : Hid (CrtH1 w Rs Ms k n (.slice a0 n c0) (.slice a1 n c1) n (.int .i64 0) (.int .i64 0) W0) := ⟨0, rfl, rfl, Nat.zero_le _, rfl, fun j _ h => absurd h (Nat.not_lt_zero _), LR.out, LM.out, PRR.out, PRM.out, G.out⟩
  clear LR LM PRR PRM G
  go_enter Try.func17, Try.ntmps17
  go_wp2_with fail
  rw [EW.out]
  clear EW sz0
  go_loopg [19, 6] n (fun g s19 s6 wx => CrtH1 w Rs Ms k n (.slice a0 n c0) (.slice a1 n c1) g s19 s6 wx)
  case atStart => exact H0.out
  case round =>
    clear H0 W0
    obtain ⟨i, rfl, rfl, hin, hg, hnz, lr, lm, pr, pm, hG⟩ := hrel
    have LR := hid lr
    have LM := hid lm
    have PRR := hid pr
    have PRM := hid pm
    have G := hid hG
    have HG := hid hg
    have HNZ := hid hnz
    have lp := PRM.out.blk
    clear lr lm pr pm hG hg hnz
    by_cases hlt : i < n
    · skip
      have hlt' : (i : Int) < (n : Int) := by omega
      obtain ⟨b1, o1, rfl, -⟩ := F1.out (fun e => by have := HN.out; rw [e] at this; simp at this; omega)
      obtain ⟨nf, xf, adf, qf, k0, k1, zf⟩ := LM.out.at (i := i) (by rw [HN.out]; exact hlt)
      have Zf := hid zf
      clear zf
      have hw := wrapI (i := i) (by omega)
      obtain ⟨V1, hW⟩ : ∃ V1, wr.alloc (duo (.bool nf) (.slice adf xf.length qf)) = V1 := ⟨_, rfl⟩
      obtain ⟨kW, sz1⟩ := alloc1 wr (duo (.bool nf) (.slice adf xf.length qf))
      rw [hW] at kW sz1
      replace Zf := hid (Zf.out.now kW)
      replace PRR := hid (PRR.out.step kW)
      replace PRM := hid (PRM.out.step kW)
      replace LR := hid (LR.out.now kW)
      replace LM := hid (LM.out.now kW)
      replace G := hid (below_step G.out kW)
      have lz2 := (show Below _ _ _ from kW).size
      have Pf : Hid (Duo V1 (wr.heap.size) (.bool nf) (.slice adf xf.length qf)) := by unfold Hid; rw [← hW]; exact duo_at (by simp)
      clear kW
      have cf0 := Pf.out.c0
      have cf1 := Pf.out.c1
      rw [← hW] at cf0 cf1
      have EW := hid hW
      clear hW
      go_wp2_with fail
      rw [EW.out]
      clear EW cf0 cf1 k0 k1
      by_cases hz : Ms[i]'(by rw [HN.out]; exact hlt) = 0
      · skip
        have HZ := hid hz
        clear hz
        have q0 : ((0 : Int) == 0) = true := rfl
        refine (zi_sign_no Zf.out HZ.out).mono ?_
        rintro e w3 ⟨rfl, b⟩
        replace Zf := hid (Zf.out.now b)
        replace PRR := hid (PRR.out.step b)
        replace PRM := hid (PRM.out.step b)
        replace Pf := hid (Pf.out.step b)
        replace LR := hid (LR.out.now b)
        replace LM := hid (LM.out.now b)
        replace G := hid (below_step G.out b)
        have lz4 := (show Below _ _ _ from b).size
        clear b 
        have cRR0 := PRR.out.c0
        have cRR1 := PRR.out.c1
        have cRM0 := PRM.out.c0
        have cRM1 := PRM.out.c1
        have fRR0 := PRR.out.fz 0
        have fRR1 := PRR.out.fz 1
        have fRM0 := PRM.out.fz 0
        have fRM1 := PRM.out.fz 1
        go_wp2
        refine bodyPost_ret (zback2 Try.results17 ((PRR.out.set _ _).box (by omega) _ _) ((PRM.out.box (by omega) _ _).set _ _) _ (by rfl) (by rfl) (by rfl)) rfl ?_
        exact .inl ⟨⟨i, by rw [HN.out]; exact hlt, HZ.out⟩, _, _, rfl, zm_nil _ _ _, zm_nil _ _ _, bset (bset (bset (bset G.out (by omega)) (by omega)) (by omega)) (by omega)⟩
      · skip
        have HZ := hid hz
        have HS := hid (sign_z Zf.out)
        have q0 : (cmpI (Ms[i]'(by rw [HN.out]; exact hlt)) 0 == 0) = false := by rw [beq_eq_false_iff_ne]; exact fun e => hz (cmpI_zero e)
        generalize cmpI (Ms[i]'(by rw [HN.out]; exact hlt)) 0 = C at *
        clear hz
        refine (HS.out).mono ?_
        rintro e w3 ⟨rfl, b⟩
        replace Zf := hid (Zf.out.now b)
        replace PRR := hid (PRR.out.step b)
        replace PRM := hid (PRM.out.step b)
        replace Pf := hid (Pf.out.step b)
        replace LR := hid (LR.out.now b)
        replace LM := hid (LM.out.now b)
        replace G := hid (below_step G.out b)
        have lz4 := (show Below _ _ _ from b).size
        clear b 
        have HN1 : Hid (CrtH1 w Rs Ms k n (.slice a0 n c0) (.slice (some ⟨b1, o1, none⟩) n c1) (n - (i + 1)) (.int .i64 ((i + 1 : Nat) : Int)) (.int .i64 0) w3) := ⟨i + 1, rfl, rfl, by omega, rfl, fun j h hj => by
          by_cases q : j < i
          · exact HNZ.out j h q
          · obtain rfl : j = i := by omega
            exact HZ.out, LR.out, LM.out, PRR.out, PRM.out, G.out⟩
        have HMM : Hid (n - (i + 1) < gk) := by unfold Hid; rw [HG.out]; omega
        clear HZ HNZ LR LM PRR PRM G HG HS
        go_wp2_with fail
        go_roundg (n - (i + 1))
        case rel => exact HN1.out
        case measure => exact HMM.out
    · skip
      have hlt' : ¬ (i : Int) < (n : Int) := by omega
      have HALL : Hid (∀ j (h : j < Ms.length), Ms[j] ≠ 0) := fun j h => HNZ.out j h (by have := HN.out; omega)
      clear HNZ HG
      go_wp2_with fail
      refine (of_z (n := 0) (by decide) (by decide) _).mono ?_
      rintro e w1 ⟨r0, rfl, m0, b⟩
      obtain ⟨np, xp, adp, qp, rfl, -, -, -, -, -⟩ := id m0
      replace PRR := hid (PRR.out.step b)
      replace PRM := hid (PRM.out.step b)
      replace LR := hid (LR.out.now b)
      replace LM := hid (LM.out.now b)
      replace G := hid (below_step G.out b)
      have lz2 := (show Below _ _ _ from b).size
      have Zp := hid m0
      clear b m0
      go_wp2_with fail
      refine (of_z (n := 1) (by decide) (by decide) _).mono ?_
      rintro e w3 ⟨r0, rfl, m0, b⟩
      obtain ⟨nq, xq, adq, qq, rfl, -, -, -, -, -⟩ := id m0
      replace Zp := hid (Zp.out.now b)
      replace PRR := hid (PRR.out.step b)
      replace PRM := hid (PRM.out.step b)
      replace LR := hid (LR.out.now b)
      replace LM := hid (LM.out.now b)
      replace G := hid (below_step G.out b)
      have lz4 := (show Below _ _ _ from b).size
      have Zq := hid m0
      clear b m0
      have cRR0 := PRR.out.c0
      have cRR1 := PRR.out.c1
      have cRM0 := PRM.out.c0
      have cRM1 := PRM.out.c1
      have fRR0 := PRR.out.fz 0
      have fRR1 := PRR.out.fz 1
      have fRM0 := PRM.out.fz 0
      have fRM1 := PRM.out.fz 1
      obtain ⟨V5, hW⟩ : ∃ V5, (((w3.setCell ⟨w.heap.size, 0, none⟩ (.bool np)).setCell ⟨w.heap.size, 1, none⟩ (.slice adp xp.length qp)).setCell ⟨w.heap.size + 1, 0, none⟩ (.bool nq)).setCell ⟨w.heap.size + 1, 1, none⟩ (.slice adq xq.length qq) = V5 := ⟨_, rfl⟩
      replace Zp := hid (((Zp.out).box (PRR.out) (.bool np) (.slice adp xp.length qp)).box ((PRM.out).box (b' := w.heap.size) (by omega) (.bool np) (.slice adp xp.length qp)) (.bool nq) (.slice adq xq.length qq))
      replace Zq := hid (((Zq.out).box (PRR.out) (.bool np) (.slice adp xp.length qp)).box ((PRM.out).box (b' := w.heap.size) (by omega) (.bool np) (.slice adp xp.length qp)) (.bool nq) (.slice adq xq.length qq))
      replace LR := hid (((LR.out).box (PRR.out) (by omega) (.bool np) (.slice adp xp.length qp)).box ((PRM.out).box (b' := w.heap.size) (by omega) (.bool np) (.slice adp xp.length qp)) (by omega) (.bool nq) (.slice adq xq.length qq))
      replace LM := hid (((LM.out).box (PRR.out) (by omega) (.bool np) (.slice adp xp.length qp)).box ((PRM.out).box (b' := w.heap.size) (by omega) (.bool np) (.slice adp xp.length qp)) (by omega) (.bool nq) (.slice adq xq.length qq))
      replace PRR := hid (((PRR.out).set (.bool np) (.slice adp xp.length qp)).box (b' := w.heap.size + 1) (by omega) (.bool nq) (.slice adq xq.length qq))
      replace PRM := hid (((PRM.out).box (b' := w.heap.size) (by omega) (.bool np) (.slice adp xp.length qp)).set (.bool nq) (.slice adq xq.length qq))
      replace G : Hid (Below w.heap.size w (((((w3.setCell ⟨w.heap.size, 0, none⟩ (.bool np)).setCell ⟨w.heap.size, 1, none⟩ (.slice adp xp.length qp)).setCell ⟨w.heap.size + 1, 0, none⟩ (.bool nq)).setCell ⟨w.heap.size + 1, 1, none⟩ (.slice adq xq.length qq)))) := bset (bset (bset (bset (G.out) (by omega)) (by omega)) (by omega)) (by omega)
      have sz5 : V5.heap.size = w3.heap.size := by rw [← hW]; simp
      rw [hW] at Zp Zq LR LM PRR PRM G
      have H0 : Hid (CrtH2 w Rs Ms k n (.slice a0 n c0) (.slice a1 n c1) n (.int .i64 0) (.int .i64 0) V5) := ⟨0, 0, 1, _, _, _, _, rfl, rfl, Nat.zero_le _, rfl, by simpa using crtL_nil, LR.out, LM.out, PRR.out, PRM.out, (Zp.out.more h1).mono (by omega), (Zq.out.more h1).mono (by omega), G.out⟩
      clear LR LM PRR PRM G Zp Zq
      have EW := hid hW
      clear hW
      go_wp2_with fail
      rw [EW.out]
      clear EW cRR0 cRR1 cRM0 cRM1 fRR0 fRR1 fRM0 fRM1
      go_loopg [33, 6] n (fun g s33 s6 wx => CrtH2 w Rs Ms k n (.slice a0 n c0) (.slice a1 n c1) g s33 s6 wx)
      case atStart => exact H0.out
      case round =>
        clear H0
        obtain ⟨i2, zr, zm, r0, r1, m0, m1, rfl, rfl, hin2, hg2, hL, lr, lm, pr, pm, z1, z2, hG⟩ := hrel
        obtain ⟨np, xp, adp, cp, rfl, rfl⟩ := z1.comp
        obtain ⟨nq, xq, adq, cq, rfl, rfl⟩ := z2.comp
        have Zp := hid z1
        have Zq := hid z2
        have LR := hid lr
        have LM := hid lm
        have PRR := hid pr
        have PRM := hid pm
        have G := hid hG
        have HG := hid hg2
        have HL := hid hL
        have lp2 := PRM.out.blk
        clear lr lm pr pm hG hg2 hL z1 z2
        by_cases hlt2 : i2 < n
        · skip
          have hlt2' : (i2 : Int) < (n : Int) := by omega
          obtain ⟨b0, o0, rfl, hb0⟩ := F0.out (fun e => by have := HR.out; rw [e] at this; simp at this; omega)
          obtain ⟨b1, o1, rfl, hb1⟩ := F1.out (fun e => by have := HN.out; rw [e] at this; simp at this; omega)
          have hr2 : i2 < Rs.length := by rw [HR.out]; exact hlt2
          have hm2 : i2 < Ms.length := by rw [HN.out]; exact hlt2
          have hw := wrapI (i := i2) (by omega)
          have HX0 := hid (HALL.out i2 hm2)
          have HM0 : Hid (zm ≠ 0) := by have := HL.out.pos; unfold Hid; omega
          have LM1 : Hid ((zm.natAbs : Int) < pw k) := by unfold Hid; rw [HL.out.em]; exact hP.out i2 (by have := HN.out; omega)
          obtain ⟨ne, xe, ade, qe, ke0, ke1, ze⟩ := LR.out.at (i := i2) hr2
          have Ze := hid ze
          clear ze
          have Pe : Hid (El wr (b0) (o0 + i2 * 2) (.bool ne) (.slice ade xe.length qe)) := ⟨ke0, ke1, by omega⟩
          clear ke0 ke1
          obtain ⟨nf, xf, adf, qf, kf0, kf1, zf⟩ := LM.out.at (i := i2) hm2
          have Zf := hid zf
          clear zf
          have Pf : Hid (El wr (b1) (o1 + i2 * 2) (.bool nf) (.slice adf xf.length qf)) := ⟨kf0, kf1, by omega⟩
          clear kf0 kf1
          go_wp2_with fail
          by_cases hgd : (Int.gcd zm (Ms[i2]'hm2) : Int) ∣ Rs[i2]'hr2 - zr
          · skip
            have HD := hid hgd
            clear hgd
            have q0 : ((0 : Int) != 0) = false := rfl
            refine wp_region_X (fun w' => w'.cell? ⟨w.heap.size, 0, none⟩ = some (.bool np) ∧ w'.cell? ⟨w.heap.size, 1, none⟩ = some (.slice adp xp.length cp) ∧ w'.cell? ⟨w.heap.size + 1, 0, none⟩ = some (.bool nq) ∧ w'.cell? ⟨w.heap.size + 1, 1, none⟩ = some (.slice adq xq.length cq) ∧ w'.cell? ⟨b0, o0 + i2 * 2, none⟩ = some (.bool ne) ∧ w'.cell? ⟨b0, o0 + i2 * 2 + 1, none⟩ = some (.slice ade xe.length qe) ∧ w'.cell? ⟨b1, o1 + i2 * 2, none⟩ = some (.bool nf) ∧ w'.cell? ⟨b1, o1 + i2 * 2 + 1, none⟩ = some (.slice adf xf.length qf)) [15, 16] (by kernel_rfl) ?_
            obtain ⟨D6, hD⟩ : ∃ D6, wr.drew = D6 := ⟨_, rfl⟩
            have b : Below wr.heap.size wr D6 := by rw [← hD]; exact (Below.refl _ _).drew
            rw [hD]
            clear hD
            replace Zp := hid (Zp.out.now b)
            replace Zq := hid (Zq.out.now b)
            replace Ze := hid (Ze.out.now b)
            replace Zf := hid (Zf.out.now b)
            replace PRR := hid (PRR.out.step b)
            replace PRM := hid (PRM.out.step b)
            replace Pe := hid (Pe.out.step b)
            replace Pf := hid (Pf.out.step b)
            replace LR := hid (LR.out.now b)
            replace LM := hid (LM.out.now b)
            replace G := hid (below_step G.out b)
            have lz7 := (show Below _ _ _ from b).size
            clear b
            refine wpAnyX_take (i := 0) (oi := { dst := some 37, op := Op.load 25 (Operand.tmp 4), type := 25, pos := "modulo.go:81", after := #[], guard := none }) (v := (.agg #[(.bool np), (.slice adp xp.length cp)])) rfl (by kernel_rfl) (fun _ _ _ h => h) (Or.inl ⟨by rfl, ?_⟩) ⟨PRR.out.c0, PRR.out.c1, PRM.out.c0, PRM.out.c1, Pe.out.c0, Pe.out.c1, Pf.out.c0, Pf.out.c1⟩ ?_
            · intro w hSw
              (try dsimp only at hSw)
              go_simp
            simp only [Act.put, List.setIfInBounds_toArray, List.set_cons_zero, List.set_cons_succ]
            refine wpAnyX_take (i := 1) (oi := { dst := some 38, op := Op.load 25 (Operand.tmp 5), type := 25, pos := "modulo.go:81", after := #[], guard := none }) (v := (.agg #[(.bool nq), (.slice adq xq.length cq)])) rfl (by kernel_rfl) (fun _ _ _ h => h) (Or.inl ⟨by rfl, ?_⟩) ⟨PRR.out.c0, PRR.out.c1, PRM.out.c0, PRM.out.c1, Pe.out.c0, Pe.out.c1, Pf.out.c0, Pf.out.c1⟩ ?_
            · intro w hSw
              (try dsimp only at hSw)
              go_simp
            simp only [Act.put, List.setIfInBounds_toArray, List.set_cons_zero, List.set_cons_succ]
            refine wpAnyX_pure (i := 2) (oi := { dst := some 39, op := Op.move (Operand.tmp 0), type := 22, pos := "modulo.go:81", after := #[], guard := none }) (v := (.slice (some ⟨b0, o0, none⟩) n c0)) rfl (by kernel_rfl) (fun _ _ _ h => h) (Or.inl ⟨by rfl, ?_⟩)  ?_
            · intro w hSw
              (try dsimp only at hSw)
              go_simp
            simp only [Act.put, List.setIfInBounds_toArray, List.set_cons_zero, List.set_cons_succ]
            refine wpAnyX_pure (i := 3) (oi := { dst := some 40, op := Op.move (Operand.tmp 9), type := 3, pos := "modulo.go:81", after := #[], guard := none }) (v := (.int .i64 (i2 : Int))) rfl (by kernel_rfl) (fun _ _ _ h => h) (Or.inl ⟨by rfl, ?_⟩)  ?_
            · intro w hSw
              (try dsimp only at hSw)
              go_simp
            simp only [Act.put, List.setIfInBounds_toArray, List.set_cons_zero, List.set_cons_succ]
            refine wpAnyX_pure (i := 4) (oi := { dst := some 41, op := Op.indexAddr 22 (Operand.tmp 39) (Operand.tmp 40), type := 0, pos := "modulo.go:81", after := #[{ on := 2, ground := Ground.data }, { on := 3, ground := Ground.data }], guard := none }) (v := (.pointer (some ⟨b0, o0 + i2 * 2, none⟩))) rfl (by kernel_rfl) (fun _ _ _ h => h) (Or.inl ⟨by rfl, ?_⟩)  ?_
            · intro w hSw
              (try dsimp only at hSw)
              go_simp
            simp only [Act.put, List.setIfInBounds_toArray, List.set_cons_zero, List.set_cons_succ]
            refine wpAnyX_take (i := 5) (oi := { dst := some 42, op := Op.load 25 (Operand.tmp 41), type := 25, pos := "modulo.go:81", after := #[{ on := 4, ground := Ground.data }], guard := none }) (v := (.agg #[(.bool ne), (.slice ade xe.length qe)])) rfl (by kernel_rfl) (fun _ _ _ h => h) (Or.inl ⟨by rfl, ?_⟩) ⟨PRR.out.c0, PRR.out.c1, PRM.out.c0, PRM.out.c1, Pe.out.c0, Pe.out.c1, Pf.out.c0, Pf.out.c1⟩ ?_
            · intro w hSw
              (try dsimp only at hSw)
              go_simp
            simp only [Act.put, List.setIfInBounds_toArray, List.set_cons_zero, List.set_cons_succ]
            refine wpAnyX_pure (i := 6) (oi := { dst := some 43, op := Op.move (Operand.tmp 1), type := 22, pos := "modulo.go:81", after := #[], guard := none }) (v := (.slice (some ⟨b1, o1, none⟩) n c1)) rfl (by kernel_rfl) (fun _ _ _ h => h) (Or.inl ⟨by rfl, ?_⟩)  ?_
            · intro w hSw
              (try dsimp only at hSw)
              go_simp
            simp only [Act.put, List.setIfInBounds_toArray, List.set_cons_zero, List.set_cons_succ]
            refine wpAnyX_pure (i := 7) (oi := { dst := some 44, op := Op.move (Operand.tmp 9), type := 3, pos := "modulo.go:81", after := #[], guard := none }) (v := (.int .i64 (i2 : Int))) rfl (by kernel_rfl) (fun _ _ _ h => h) (Or.inl ⟨by rfl, ?_⟩)  ?_
            · intro w hSw
              (try dsimp only at hSw)
              go_simp
            simp only [Act.put, List.setIfInBounds_toArray, List.set_cons_zero, List.set_cons_succ]
            refine wpAnyX_pure (i := 8) (oi := { dst := some 45, op := Op.indexAddr 22 (Operand.tmp 43) (Operand.tmp 44), type := 0, pos := "modulo.go:81", after := #[{ on := 6, ground := Ground.data }, { on := 7, ground := Ground.data }], guard := none }) (v := (.pointer (some ⟨b1, o1 + i2 * 2, none⟩))) rfl (by kernel_rfl) (fun _ _ _ h => h) (Or.inl ⟨by rfl, ?_⟩)  ?_
            · intro w hSw
              (try dsimp only at hSw)
              go_simp
            simp only [Act.put, List.setIfInBounds_toArray, List.set_cons_zero, List.set_cons_succ]
            refine wpAnyX_take (i := 9) (oi := { dst := some 46, op := Op.load 25 (Operand.tmp 45), type := 25, pos := "modulo.go:81", after := #[{ on := 8, ground := Ground.data }], guard := none }) (v := (.agg #[(.bool nf), (.slice adf xf.length qf)])) rfl (by kernel_rfl) (fun _ _ _ h => h) (Or.inl ⟨by rfl, ?_⟩) ⟨PRR.out.c0, PRR.out.c1, PRM.out.c0, PRM.out.c1, Pe.out.c0, Pe.out.c1, Pf.out.c0, Pf.out.c1⟩ ?_
            · intro w hSw
              (try dsimp only at hSw)
              go_simp
            simp only [Act.put, List.setIfInBounds_toArray, List.set_cons_zero, List.set_cons_succ]
            refine wpAnyX_one (i := 10) (o := { dst := some 47, op := Op.call { callee := Callee.value (Operand.func 33), args := #[Operand.tmp 37, Operand.tmp 38, Operand.tmp 42, Operand.tmp 46], argTypes := #[25, 25, 25, 25] }, type := 39, pos := "modulo.go:81", after := #[{ on := 0, ground := Ground.data }, { on := 1, ground := Ground.data }, { on := 5, ground := Ground.data }, { on := 9, ground := Ground.data }], guard := none }) (by kernel_rfl) rfl (fun K hK => ?_)
            go_simp
            go_at_call 33
            refine (crt_some (kb := k) (kt := k) Zp.out.zi Zq.out.zi Ze.out Zf.out h1 hk HM0.out HX0.out HD.out LM1.out Zf.out.lt).mono ?_
            rintro e w8 ⟨zr2, zm2, hcv, r0, r1, rfl, m0, m1, b⟩
            obtain ⟨ng, xg, adg, qg, rfl, -, -, -, -, -⟩ := id m0
            obtain ⟨nh, xh, adh, qh, rfl, -, -, -, -, -⟩ := id m1
            have HL2 := hid (HL.out.next hr2 hm2 HX0.out hcv)
            have LM2 : Hid ((zm2.natAbs : Int) < pw k) := by unfold Hid; rw [HL2.out.em]; exact hP.out (i2 + 1) (by have := HN.out; omega)
            have LR2 : Hid ((zr2.natAbs : Int) < pw k) := by have h1 := HL2.out.lo; have h2 := HL2.out.hi; have h3 := LM2.out; unfold Hid; omega
            replace m0 := m0.fit LR2.out
            replace m1 := m1.fit LM2.out
            clear hcv
            replace Zp := hid (Zp.out.now b)
            replace Zq := hid (Zq.out.now b)
            replace Ze := hid (Ze.out.now b)
            replace Zf := hid (Zf.out.now b)
            replace PRR := hid (PRR.out.step b)
            replace PRM := hid (PRM.out.step b)
            replace Pe := hid (Pe.out.step b)
            replace Pf := hid (Pf.out.step b)
            replace LR := hid (LR.out.now b)
            replace LM := hid (LM.out.now b)
            replace G := hid (below_step G.out b)
            have lz9 := (show Below _ _ _ from b).size
            have Zg := hid m0
            have Zh := hid m1
            clear b m0 m1
            refine hK.out _ _ (fun _ _ => ⟨PRR.out.c0, PRR.out.c1, PRM.out.c0, PRM.out.c1, Pe.out.c0, Pe.out.c1, Pf.out.c0, Pf.out.c1⟩) ?_
            clear hK
            refine wpAnyX_pure (i := 11) (oi := { dst := some 36, op := Op.move (Operand.tmp 47), type := 39, pos := "modulo.go:81", after := #[{ on := 10, ground := Ground.data }], guard := none }) (v := (.tuple #[(.agg #[.bool ng, .slice adg xg.length qg]), (.agg #[.bool nh, .slice adh xh.length qh]), (.int .i64 0)])) rfl (by kernel_rfl) (fun _ _ _ h => h) (Or.inl ⟨by rfl, ?_⟩)  ?_
            · intro w hSw
              (try dsimp only at hSw)
              go_simp
            simp only [Act.put, List.setIfInBounds_toArray, List.set_cons_zero, List.set_cons_succ]
            refine wpAnyX_pure (i := 12) (oi := { dst := some 48, op := Op.extract (Operand.tmp 36) 0, type := 25, pos := "modulo.go:81", after := #[{ on := 11, ground := Ground.data }], guard := none }) (v := (.agg #[.bool ng, .slice adg xg.length qg])) rfl (by kernel_rfl) (fun _ _ _ h => h) (Or.inl ⟨by rfl, ?_⟩)  ?_
            · intro w hSw
              (try dsimp only at hSw)
              go_simp
            simp only [Act.put, List.setIfInBounds_toArray, List.set_cons_zero, List.set_cons_succ]
            refine wpAnyX_pure (i := 13) (oi := { dst := some 49, op := Op.extract (Operand.tmp 36) 1, type := 25, pos := "modulo.go:81", after := #[{ on := 11, ground := Ground.data }, { on := 15, ground := Ground.gcOnly Departure.lateStores }], guard := none }) (v := (.agg #[.bool nh, .slice adh xh.length qh])) rfl (by kernel_rfl) (fun _ _ _ h => h) (Or.inl ⟨by rfl, ?_⟩)  ?_
            · intro w hSw
              (try dsimp only at hSw)
              go_simp
            simp only [Act.put, List.setIfInBounds_toArray, List.set_cons_zero, List.set_cons_succ]
            refine wpAnyX_pure (i := 14) (oi := { dst := some 50, op := Op.extract (Operand.tmp 36) 2, type := 38, pos := "modulo.go:81", after := #[{ on := 11, ground := Ground.data }, { on := 16, ground := Ground.gcOnly Departure.lateStores }], guard := none }) (v := (.int .i64 0)) rfl (by kernel_rfl) (fun _ _ _ h => h) (Or.inl ⟨by rfl, ?_⟩)  ?_
            · intro w hSw
              (try dsimp only at hSw)
              go_simp
            simp only [Act.put, List.setIfInBounds_toArray, List.set_cons_zero, List.set_cons_succ]
            refine wpAnyX_one (i := 15) (o := { dst := none, op := Op.store 25 (Operand.tmp 4) (Operand.tmp 48), type := 0, pos := "modulo.go:81", after := #[{ on := 12, ground := Ground.data }, { on := 10, ground := Ground.chain }, { on := 0, ground := Ground.phase }, { on := 1, ground := Ground.phase }, { on := 2, ground := Ground.phase }, { on := 3, ground := Ground.phase }, { on := 4, ground := Ground.phase }, { on := 5, ground := Ground.phase }, { on := 6, ground := Ground.phase }, { on := 7, ground := Ground.phase }, { on := 8, ground := Ground.phase }, { on := 9, ground := Ground.phase }, { on := 10, ground := Ground.phase }, { on := 11, ground := Ground.phase }, { on := 12, ground := Ground.phase }, { on := 13, ground := Ground.textOnly Departure.lateStores }, { on := 14, ground := Ground.textOnly Departure.lateStores }], guard := none }) (by kernel_rfl) rfl (fun K hK => ?_)
            have cRR0 := PRR.out.c0
            have cRR1 := PRR.out.c1
            have fRR0 := PRR.out.fz 0
            have fRR1 := PRR.out.fz 1
            go_simp
            clear cRR0 cRR1 fRR0 fRR1
            obtain ⟨V10, hW⟩ : ∃ V10, (w8.setCell ⟨w.heap.size, 0, none⟩ (.bool ng)).setCell ⟨w.heap.size, 1, none⟩ (.slice adg xg.length qg) = V10 := ⟨_, rfl⟩
            replace Zp := hid ((Zp.out).box (PRR.out) (.bool ng) (.slice adg xg.length qg))
            replace Zq := hid ((Zq.out).box (PRR.out) (.bool ng) (.slice adg xg.length qg))
            replace Ze := hid ((Ze.out).wk ((PRR.out).wk (.bool ng) (.slice adg xg.length qg)))
            replace Zf := hid ((Zf.out).wk ((PRR.out).wk (.bool ng) (.slice adg xg.length qg)))
            replace Zg := hid ((Zg.out).box (PRR.out) (.bool ng) (.slice adg xg.length qg))
            replace Zh := hid ((Zh.out).box (PRR.out) (.bool ng) (.slice adg xg.length qg))
            replace LR := hid ((LR.out).box (PRR.out) (by omega) (.bool ng) (.slice adg xg.length qg))
            replace LM := hid ((LM.out).box (PRR.out) (by omega) (.bool ng) (.slice adg xg.length qg))
            replace PRR := hid ((PRR.out).set (.bool ng) (.slice adg xg.length qg))
            replace PRM := hid ((PRM.out).box (b' := w.heap.size) (by omega) (.bool ng) (.slice adg xg.length qg))
            replace Pe := hid ((Pe.out).box (b' := w.heap.size) (by omega) (.bool ng) (.slice adg xg.length qg))
            replace Pf := hid ((Pf.out).box (b' := w.heap.size) (by omega) (.bool ng) (.slice adg xg.length qg))
            replace G : Hid (Below w.heap.size w (((w8.setCell ⟨w.heap.size, 0, none⟩ (.bool ng)).setCell ⟨w.heap.size, 1, none⟩ (.slice adg xg.length qg)))) := bset (bset (G.out) (by omega)) (by omega)
            have sz10 : V10.heap.size = w8.heap.size := by rw [← hW]; simp
            rw [hW] at Zp Zq Ze Zf Zg Zh LR LM PRR PRM Pe Pf G
            rw [hW]
            clear hW
            refine hK.out _ _ (fun h => absurd h (by decide)) ?_
            clear hK
            try simp only [Act.put]
            refine wpAnyX_one (i := 16) (o := { dst := none, op := Op.store 25 (Operand.tmp 5) (Operand.tmp 49), type := 0, pos := "modulo.go:81", after := #[{ on := 13, ground := Ground.data }, { on := 15, ground := Ground.chain }, { on := 0, ground := Ground.phase }, { on := 1, ground := Ground.phase }, { on := 2, ground := Ground.phase }, { on := 3, ground := Ground.phase }, { on := 4, ground := Ground.phase }, { on := 5, ground := Ground.phase }, { on := 6, ground := Ground.phase }, { on := 7, ground := Ground.phase }, { on := 8, ground := Ground.phase }, { on := 9, ground := Ground.phase }, { on := 10, ground := Ground.phase }, { on := 11, ground := Ground.phase }, { on := 12, ground := Ground.phase }, { on := 13, ground := Ground.phase }, { on := 14, ground := Ground.textOnly Departure.lateStores }, { on := 15, ground := Ground.phase }], guard := none }) (by kernel_rfl) rfl (fun K hK => ?_)
            have cRM0 := PRM.out.c0
            have cRM1 := PRM.out.c1
            have fRM0 := PRM.out.fz 0
            have fRM1 := PRM.out.fz 1
            go_simp
            clear cRM0 cRM1 fRM0 fRM1
            obtain ⟨V11, hW⟩ : ∃ V11, (V10.setCell ⟨w.heap.size + 1, 0, none⟩ (.bool nh)).setCell ⟨w.heap.size + 1, 1, none⟩ (.slice adh xh.length qh) = V11 := ⟨_, rfl⟩
            replace Zp := hid ((Zp.out).box (PRM.out) (.bool nh) (.slice adh xh.length qh))
            replace Zq := hid ((Zq.out).box (PRM.out) (.bool nh) (.slice adh xh.length qh))
            replace Ze := hid ((Ze.out).wk ((PRM.out).wk (.bool nh) (.slice adh xh.length qh)))
            replace Zf := hid ((Zf.out).wk ((PRM.out).wk (.bool nh) (.slice adh xh.length qh)))
            replace Zg := hid ((Zg.out).box (PRM.out) (.bool nh) (.slice adh xh.length qh))
            replace Zh := hid ((Zh.out).box (PRM.out) (.bool nh) (.slice adh xh.length qh))
            replace LR := hid ((LR.out).box (PRM.out) (by omega) (.bool nh) (.slice adh xh.length qh))
            replace LM := hid ((LM.out).box (PRM.out) (by omega) (.bool nh) (.slice adh xh.length qh))
            replace PRR := hid ((PRR.out).box (b' := w.heap.size + 1) (by omega) (.bool nh) (.slice adh xh.length qh))
            replace PRM := hid ((PRM.out).set (.bool nh) (.slice adh xh.length qh))
            replace Pe := hid ((Pe.out).box (b' := w.heap.size + 1) (by omega) (.bool nh) (.slice adh xh.length qh))
            replace Pf := hid ((Pf.out).box (b' := w.heap.size + 1) (by omega) (.bool nh) (.slice adh xh.length qh))
            replace G : Hid (Below w.heap.size w (((V10.setCell ⟨w.heap.size + 1, 0, none⟩ (.bool nh)).setCell ⟨w.heap.size + 1, 1, none⟩ (.slice adh xh.length qh)))) := bset (bset (G.out) (by omega)) (by omega)
            have sz11 : V11.heap.size = V10.heap.size := by rw [← hW]; simp
            rw [hW] at Zp Zq Ze Zf Zg Zh LR LM PRR PRM Pe Pf G
            rw [hW]
            clear hW
            refine hK.out _ _ (fun h => absurd h (by decide)) ?_
            clear hK
            try simp only [Act.put]
            refine wpAnyX_pure (i := 17) (oi := { dst := some 6, op := Op.assign (Operand.tmp 50), type := 38, pos := "modulo.go:81", after := #[{ on := 14, ground := Ground.data }, { on := 16, ground := Ground.chain }, { on := 0, ground := Ground.phase }, { on := 1, ground := Ground.phase }, { on := 2, ground := Ground.phase }, { on := 3, ground := Ground.phase }, { on := 4, ground := Ground.phase }, { on := 5, ground := Ground.phase }, { on := 6, ground := Ground.phase }, { on := 7, ground := Ground.phase }, { on := 8, ground := Ground.phase }, { on := 9, ground := Ground.phase }, { on := 10, ground := Ground.phase }, { on := 11, ground := Ground.phase }, { on := 12, ground := Ground.phase }, { on := 13, ground := Ground.phase }, { on := 14, ground := Ground.phase }, { on := 15, ground := Ground.phase }, { on := 16, ground := Ground.phase }], guard := none }) (v := (.int .i64 0)) rfl (by kernel_rfl) (fun _ _ _ h => h) (Or.inl ⟨by rfl, ?_⟩)  ?_
            · intro w hSw
              (try dsimp only at hSw)
              go_simp
            simp only [Act.put, List.setIfInBounds_toArray, List.set_cons_zero, List.set_cons_succ]
            refine wpAnyX_done (by kernel_rfl) ?_ _
            have HN2 : Hid (CrtH2 w Rs Ms k n (.slice (some ⟨b0, o0, none⟩) n c0) (.slice (some ⟨b1, o1, none⟩) n c1) (n - (i2 + 1)) (.int .i64 ((i2 + 1 : Nat) : Int)) (.int .i64 0) V11) := ⟨i2 + 1, zr2, zm2, _, _, _, _, rfl, rfl, by omega, rfl, HL2.out, LR.out, LM.out, PRR.out, PRM.out, Zg.out.mono (by omega), Zh.out.mono (by omega), G.out⟩
            have HMM : Hid (n - (i2 + 1) < gk) := by unfold Hid; rw [HG.out]; omega
            go_wp2_with fail
            go_roundg (n - (i2 + 1))
            case rel => exact HN2.out
            case measure => exact HMM.out
          · skip
            have HD := hid hgd
            clear hgd
            have q6 : ((6 : Int) != 0) = true := rfl
            refine wp_region_X (fun w' => w'.cell? ⟨w.heap.size, 0, none⟩ = some (.bool np) ∧ w'.cell? ⟨w.heap.size, 1, none⟩ = some (.slice adp xp.length cp) ∧ w'.cell? ⟨w.heap.size + 1, 0, none⟩ = some (.bool nq) ∧ w'.cell? ⟨w.heap.size + 1, 1, none⟩ = some (.slice adq xq.length cq) ∧ w'.cell? ⟨b0, o0 + i2 * 2, none⟩ = some (.bool ne) ∧ w'.cell? ⟨b0, o0 + i2 * 2 + 1, none⟩ = some (.slice ade xe.length qe) ∧ w'.cell? ⟨b1, o1 + i2 * 2, none⟩ = some (.bool nf) ∧ w'.cell? ⟨b1, o1 + i2 * 2 + 1, none⟩ = some (.slice adf xf.length qf)) [15, 16] (by kernel_rfl) ?_
            obtain ⟨D6, hD⟩ : ∃ D6, wr.drew = D6 := ⟨_, rfl⟩
            have b : Below wr.heap.size wr D6 := by rw [← hD]; exact (Below.refl _ _).drew
            rw [hD]
            clear hD
            replace Zp := hid (Zp.out.now b)
            replace Zq := hid (Zq.out.now b)
            replace Ze := hid (Ze.out.now b)
            replace Zf := hid (Zf.out.now b)
            replace PRR := hid (PRR.out.step b)
            replace PRM := hid (PRM.out.step b)
            replace Pe := hid (Pe.out.step b)
            replace Pf := hid (Pf.out.step b)
            replace LR := hid (LR.out.now b)
            replace LM := hid (LM.out.now b)
            replace G := hid (below_step G.out b)
            have lz7 := (show Below _ _ _ from b).size
            clear b
            refine wpAnyX_take (i := 0) (oi := { dst := some 37, op := Op.load 25 (Operand.tmp 4), type := 25, pos := "modulo.go:81", after := #[], guard := none }) (v := (.agg #[(.bool np), (.slice adp xp.length cp)])) rfl (by kernel_rfl) (fun _ _ _ h => h) (Or.inl ⟨by rfl, ?_⟩) ⟨PRR.out.c0, PRR.out.c1, PRM.out.c0, PRM.out.c1, Pe.out.c0, Pe.out.c1, Pf.out.c0, Pf.out.c1⟩ ?_
            · intro w hSw
              (try dsimp only at hSw)
              go_simp
            simp only [Act.put, List.setIfInBounds_toArray, List.set_cons_zero, List.set_cons_succ]
            refine wpAnyX_take (i := 1) (oi := { dst := some 38, op := Op.load 25 (Operand.tmp 5), type := 25, pos := "modulo.go:81", after := #[], guard := none }) (v := (.agg #[(.bool nq), (.slice adq xq.length cq)])) rfl (by kernel_rfl) (fun _ _ _ h => h) (Or.inl ⟨by rfl, ?_⟩) ⟨PRR.out.c0, PRR.out.c1, PRM.out.c0, PRM.out.c1, Pe.out.c0, Pe.out.c1, Pf.out.c0, Pf.out.c1⟩ ?_
            · intro w hSw
              (try dsimp only at hSw)
              go_simp
            simp only [Act.put, List.setIfInBounds_toArray, List.set_cons_zero, List.set_cons_succ]
            refine wpAnyX_pure (i := 2) (oi := { dst := some 39, op := Op.move (Operand.tmp 0), type := 22, pos := "modulo.go:81", after := #[], guard := none }) (v := (.slice (some ⟨b0, o0, none⟩) n c0)) rfl (by kernel_rfl) (fun _ _ _ h => h) (Or.inl ⟨by rfl, ?_⟩)  ?_
            · intro w hSw
              (try dsimp only at hSw)
              go_simp
            simp only [Act.put, List.setIfInBounds_toArray, List.set_cons_zero, List.set_cons_succ]
            refine wpAnyX_pure (i := 3) (oi := { dst := some 40, op := Op.move (Operand.tmp 9), type := 3, pos := "modulo.go:81", after := #[], guard := none }) (v := (.int .i64 (i2 : Int))) rfl (by kernel_rfl) (fun _ _ _ h => h) (Or.inl ⟨by rfl, ?_⟩)  ?_
            · intro w hSw
              (try dsimp only at hSw)
              go_simp
            simp only [Act.put, List.setIfInBounds_toArray, List.set_cons_zero, List.set_cons_succ]
            refine wpAnyX_pure (i := 4) (oi := { dst := some 41, op := Op.indexAddr 22 (Operand.tmp 39) (Operand.tmp 40), type := 0, pos := "modulo.go:81", after := #[{ on := 2, ground := Ground.data }, { on := 3, ground := Ground.data }], guard := none }) (v := (.pointer (some ⟨b0, o0 + i2 * 2, none⟩))) rfl (by kernel_rfl) (fun _ _ _ h => h) (Or.inl ⟨by rfl, ?_⟩)  ?_
            · intro w hSw
              (try dsimp only at hSw)
              go_simp
            simp only [Act.put, List.setIfInBounds_toArray, List.set_cons_zero, List.set_cons_succ]
            refine wpAnyX_take (i := 5) (oi := { dst := some 42, op := Op.load 25 (Operand.tmp 41), type := 25, pos := "modulo.go:81", after := #[{ on := 4, ground := Ground.data }], guard := none }) (v := (.agg #[(.bool ne), (.slice ade xe.length qe)])) rfl (by kernel_rfl) (fun _ _ _ h => h) (Or.inl ⟨by rfl, ?_⟩) ⟨PRR.out.c0, PRR.out.c1, PRM.out.c0, PRM.out.c1, Pe.out.c0, Pe.out.c1, Pf.out.c0, Pf.out.c1⟩ ?_
            · intro w hSw
              (try dsimp only at hSw)
              go_simp
            simp only [Act.put, List.setIfInBounds_toArray, List.set_cons_zero, List.set_cons_succ]
            refine wpAnyX_pure (i := 6) (oi := { dst := some 43, op := Op.move (Operand.tmp 1), type := 22, pos := "modulo.go:81", after := #[], guard := none }) (v := (.slice (some ⟨b1, o1, none⟩) n c1)) rfl (by kernel_rfl) (fun _ _ _ h => h) (Or.inl ⟨by rfl, ?_⟩)  ?_
            · intro w hSw
              (try dsimp only at hSw)
              go_simp
            simp only [Act.put, List.setIfInBounds_toArray, List.set_cons_zero, List.set_cons_succ]
            refine wpAnyX_pure (i := 7) (oi := { dst := some 44, op := Op.move (Operand.tmp 9), type := 3, pos := "modulo.go:81", after := #[], guard := none }) (v := (.int .i64 (i2 : Int))) rfl (by kernel_rfl) (fun _ _ _ h => h) (Or.inl ⟨by rfl, ?_⟩)  ?_
            · intro w hSw
              (try dsimp only at hSw)
              go_simp
            simp only [Act.put, List.setIfInBounds_toArray, List.set_cons_zero, List.set_cons_succ]
            refine wpAnyX_pure (i := 8) (oi := { dst := some 45, op := Op.indexAddr 22 (Operand.tmp 43) (Operand.tmp 44), type := 0, pos := "modulo.go:81", after := #[{ on := 6, ground := Ground.data }, { on := 7, ground := Ground.data }], guard := none }) (v := (.pointer (some ⟨b1, o1 + i2 * 2, none⟩))) rfl (by kernel_rfl) (fun _ _ _ h => h) (Or.inl ⟨by rfl, ?_⟩)  ?_
            · intro w hSw
              (try dsimp only at hSw)
              go_simp
            simp only [Act.put, List.setIfInBounds_toArray, List.set_cons_zero, List.set_cons_succ]
            refine wpAnyX_take (i := 9) (oi := { dst := some 46, op := Op.load 25 (Operand.tmp 45), type := 25, pos := "modulo.go:81", after := #[{ on := 8, ground := Ground.data }], guard := none }) (v := (.agg #[(.bool nf), (.slice adf xf.length qf)])) rfl (by kernel_rfl) (fun _ _ _ h => h) (Or.inl ⟨by rfl, ?_⟩) ⟨PRR.out.c0, PRR.out.c1, PRM.out.c0, PRM.out.c1, Pe.out.c0, Pe.out.c1, Pf.out.c0, Pf.out.c1⟩ ?_
            · intro w hSw
              (try dsimp only at hSw)
              go_simp
            simp only [Act.put, List.setIfInBounds_toArray, List.set_cons_zero, List.set_cons_succ]
            refine wpAnyX_one (i := 10) (o := { dst := some 47, op := Op.call { callee := Callee.value (Operand.func 33), args := #[Operand.tmp 37, Operand.tmp 38, Operand.tmp 42, Operand.tmp 46], argTypes := #[25, 25, 25, 25] }, type := 39, pos := "modulo.go:81", after := #[{ on := 0, ground := Ground.data }, { on := 1, ground := Ground.data }, { on := 5, ground := Ground.data }, { on := 9, ground := Ground.data }], guard := none }) (by kernel_rfl) rfl (fun K hK => ?_)
            go_simp
            go_at_call 33
            refine (crt_none Zp.out.zi Zq.out.zi Ze.out Zf.out h1 hk HM0.out HX0.out HD.out).mono ?_
            rintro e w8 ⟨r0, r1, rfl, m0, m1, b⟩
            obtain ⟨ng, xg, adg, qg, rfl, -, -, -, -, -⟩ := id m0
            obtain ⟨nh, xh, adh, qh, rfl, -, -, -, -, -⟩ := id m1
            replace Zp := hid (Zp.out.now b)
            replace Zq := hid (Zq.out.now b)
            replace Ze := hid (Ze.out.now b)
            replace Zf := hid (Zf.out.now b)
            replace PRR := hid (PRR.out.step b)
            replace PRM := hid (PRM.out.step b)
            replace Pe := hid (Pe.out.step b)
            replace Pf := hid (Pf.out.step b)
            replace LR := hid (LR.out.now b)
            replace LM := hid (LM.out.now b)
            replace G := hid (below_step G.out b)
            have lz9 := (show Below _ _ _ from b).size
            have Zg := hid m0
            have Zh := hid m1
            clear b m0 m1
            refine hK.out _ _ (fun _ _ => ⟨PRR.out.c0, PRR.out.c1, PRM.out.c0, PRM.out.c1, Pe.out.c0, Pe.out.c1, Pf.out.c0, Pf.out.c1⟩) ?_
            clear hK
            refine wpAnyX_pure (i := 11) (oi := { dst := some 36, op := Op.move (Operand.tmp 47), type := 39, pos := "modulo.go:81", after := #[{ on := 10, ground := Ground.data }], guard := none }) (v := (.tuple #[(.agg #[.bool ng, .slice adg xg.length qg]), (.agg #[.bool nh, .slice adh xh.length qh]), (.int .i64 6)])) rfl (by kernel_rfl) (fun _ _ _ h => h) (Or.inl ⟨by rfl, ?_⟩)  ?_
            · intro w hSw
              (try dsimp only at hSw)
              go_simp
            simp only [Act.put, List.setIfInBounds_toArray, List.set_cons_zero, List.set_cons_succ]
            refine wpAnyX_pure (i := 12) (oi := { dst := some 48, op := Op.extract (Operand.tmp 36) 0, type := 25, pos := "modulo.go:81", after := #[{ on := 11, ground := Ground.data }], guard := none }) (v := (.agg #[.bool ng, .slice adg xg.length qg])) rfl (by kernel_rfl) (fun _ _ _ h => h) (Or.inl ⟨by rfl, ?_⟩)  ?_
            · intro w hSw
              (try dsimp only at hSw)
              go_simp
            simp only [Act.put, List.setIfInBounds_toArray, List.set_cons_zero, List.set_cons_succ]
            refine wpAnyX_pure (i := 13) (oi := { dst := some 49, op := Op.extract (Operand.tmp 36) 1, type := 25, pos := "modulo.go:81", after := #[{ on := 11, ground := Ground.data }, { on := 15, ground := Ground.gcOnly Departure.lateStores }], guard := none }) (v := (.agg #[.bool nh, .slice adh xh.length qh])) rfl (by kernel_rfl) (fun _ _ _ h => h) (Or.inl ⟨by rfl, ?_⟩)  ?_
            · intro w hSw
              (try dsimp only at hSw)
              go_simp
            simp only [Act.put, List.setIfInBounds_toArray, List.set_cons_zero, List.set_cons_succ]
            refine wpAnyX_pure (i := 14) (oi := { dst := some 50, op := Op.extract (Operand.tmp 36) 2, type := 38, pos := "modulo.go:81", after := #[{ on := 11, ground := Ground.data }, { on := 16, ground := Ground.gcOnly Departure.lateStores }], guard := none }) (v := (.int .i64 6)) rfl (by kernel_rfl) (fun _ _ _ h => h) (Or.inl ⟨by rfl, ?_⟩)  ?_
            · intro w hSw
              (try dsimp only at hSw)
              go_simp
            simp only [Act.put, List.setIfInBounds_toArray, List.set_cons_zero, List.set_cons_succ]
            refine wpAnyX_one (i := 15) (o := { dst := none, op := Op.store 25 (Operand.tmp 4) (Operand.tmp 48), type := 0, pos := "modulo.go:81", after := #[{ on := 12, ground := Ground.data }, { on := 10, ground := Ground.chain }, { on := 0, ground := Ground.phase }, { on := 1, ground := Ground.phase }, { on := 2, ground := Ground.phase }, { on := 3, ground := Ground.phase }, { on := 4, ground := Ground.phase }, { on := 5, ground := Ground.phase }, { on := 6, ground := Ground.phase }, { on := 7, ground := Ground.phase }, { on := 8, ground := Ground.phase }, { on := 9, ground := Ground.phase }, { on := 10, ground := Ground.phase }, { on := 11, ground := Ground.phase }, { on := 12, ground := Ground.phase }, { on := 13, ground := Ground.textOnly Departure.lateStores }, { on := 14, ground := Ground.textOnly Departure.lateStores }], guard := none }) (by kernel_rfl) rfl (fun K hK => ?_)
            have cRR0 := PRR.out.c0
            have cRR1 := PRR.out.c1
            have fRR0 := PRR.out.fz 0
            have fRR1 := PRR.out.fz 1
            go_simp
            clear cRR0 cRR1 fRR0 fRR1
            obtain ⟨V10, hW⟩ : ∃ V10, (w8.setCell ⟨w.heap.size, 0, none⟩ (.bool ng)).setCell ⟨w.heap.size, 1, none⟩ (.slice adg xg.length qg) = V10 := ⟨_, rfl⟩
            replace Zp := hid ((Zp.out).box (PRR.out) (.bool ng) (.slice adg xg.length qg))
            replace Zq := hid ((Zq.out).box (PRR.out) (.bool ng) (.slice adg xg.length qg))
            replace Ze := hid ((Ze.out).wk ((PRR.out).wk (.bool ng) (.slice adg xg.length qg)))
            replace Zf := hid ((Zf.out).wk ((PRR.out).wk (.bool ng) (.slice adg xg.length qg)))
            replace Zg := hid ((Zg.out).box (PRR.out) (.bool ng) (.slice adg xg.length qg))
            replace Zh := hid ((Zh.out).box (PRR.out) (.bool ng) (.slice adg xg.length qg))
            replace LR := hid ((LR.out).box (PRR.out) (by omega) (.bool ng) (.slice adg xg.length qg))
            replace LM := hid ((LM.out).box (PRR.out) (by omega) (.bool ng) (.slice adg xg.length qg))
            replace PRR := hid ((PRR.out).set (.bool ng) (.slice adg xg.length qg))
            replace PRM := hid ((PRM.out).box (b' := w.heap.size) (by omega) (.bool ng) (.slice adg xg.length qg))
            replace Pe := hid ((Pe.out).box (b' := w.heap.size) (by omega) (.bool ng) (.slice adg xg.length qg))
            replace Pf := hid ((Pf.out).box (b' := w.heap.size) (by omega) (.bool ng) (.slice adg xg.length qg))
            replace G : Hid (Below w.heap.size w (((w8.setCell ⟨w.heap.size, 0, none⟩ (.bool ng)).setCell ⟨w.heap.size, 1, none⟩ (.slice adg xg.length qg)))) := bset (bset (G.out) (by omega)) (by omega)
            have sz10 : V10.heap.size = w8.heap.size := by rw [← hW]; simp
            rw [hW] at Zp Zq Ze Zf Zg Zh LR LM PRR PRM Pe Pf G
            rw [hW]
            clear hW
            refine hK.out _ _ (fun h => absurd h (by decide)) ?_
            clear hK
            try simp only [Act.put]
            refine wpAnyX_one (i := 16) (o := { dst := none, op := Op.store 25 (Operand.tmp 5) (Operand.tmp 49), type := 0, pos := "modulo.go:81", after := #[{ on := 13, ground := Ground.data }, { on := 15, ground := Ground.chain }, { on := 0, ground := Ground.phase }, { on := 1, ground := Ground.phase }, { on := 2, ground := Ground.phase }, { on := 3, ground := Ground.phase }, { on := 4, ground := Ground.phase }, { on := 5, ground := Ground.phase }, { on := 6, ground := Ground.phase }, { on := 7, ground := Ground.phase }, { on := 8, ground := Ground.phase }, { on := 9, ground := Ground.phase }, { on := 10, ground := Ground.phase }, { on := 11, ground := Ground.phase }, { on := 12, ground := Ground.phase }, { on := 13, ground := Ground.phase }, { on := 14, ground := Ground.textOnly Departure.lateStores }, { on := 15, ground := Ground.phase }], guard := none }) (by kernel_rfl) rfl (fun K hK => ?_)
            have cRM0 := PRM.out.c0
            have cRM1 := PRM.out.c1
            have fRM0 := PRM.out.fz 0
            have fRM1 := PRM.out.fz 1
            go_simp
            clear cRM0 cRM1 fRM0 fRM1
            obtain ⟨V11, hW⟩ : ∃ V11, (V10.setCell ⟨w.heap.size + 1, 0, none⟩ (.bool nh)).setCell ⟨w.heap.size + 1, 1, none⟩ (.slice adh xh.length qh) = V11 := ⟨_, rfl⟩
            replace Zp := hid ((Zp.out).box (PRM.out) (.bool nh) (.slice adh xh.length qh))
            replace Zq := hid ((Zq.out).box (PRM.out) (.bool nh) (.slice adh xh.length qh))
            replace Ze := hid ((Ze.out).wk ((PRM.out).wk (.bool nh) (.slice adh xh.length qh)))
            replace Zf := hid ((Zf.out).wk ((PRM.out).wk (.bool nh) (.slice adh xh.length qh)))
            replace Zg := hid ((Zg.out).box (PRM.out) (.bool nh) (.slice adh xh.length qh))
            replace Zh := hid ((Zh.out).box (PRM.out) (.bool nh) (.slice adh xh.length qh))
            replace LR := hid ((LR.out).box (PRM.out) (by omega) (.bool nh) (.slice adh xh.length qh))
            replace LM := hid ((LM.out).box (PRM.out) (by omega) (.bool nh) (.slice adh xh.length qh))
            replace PRR := hid ((PRR.out).box (b' := w.heap.size + 1) (by omega) (.bool nh) (.slice adh xh.length qh))
            replace PRM := hid ((PRM.out).set (.bool nh) (.slice adh xh.length qh))
            replace Pe := hid ((Pe.out).box (b' := w.heap.size + 1) (by omega) (.bool nh) (.slice adh xh.length qh))
            replace Pf := hid ((Pf.out).box (b' := w.heap.size + 1) (by omega) (.bool nh) (.slice adh xh.length qh))
            replace G : Hid (Below w.heap.size w (((V10.setCell ⟨w.heap.size + 1, 0, none⟩ (.bool nh)).setCell ⟨w.heap.size + 1, 1, none⟩ (.slice adh xh.length qh)))) := bset (bset (G.out) (by omega)) (by omega)
            have sz11 : V11.heap.size = V10.heap.size := by rw [← hW]; simp
            rw [hW] at Zp Zq Ze Zf Zg Zh LR LM PRR PRM Pe Pf G
            rw [hW]
            clear hW
            refine hK.out _ _ (fun h => absurd h (by decide)) ?_
            clear hK
            try simp only [Act.put]
            refine wpAnyX_pure (i := 17) (oi := { dst := some 6, op := Op.assign (Operand.tmp 50), type := 38, pos := "modulo.go:81", after := #[{ on := 14, ground := Ground.data }, { on := 16, ground := Ground.chain }, { on := 0, ground := Ground.phase }, { on := 1, ground := Ground.phase }, { on := 2, ground := Ground.phase }, { on := 3, ground := Ground.phase }, { on := 4, ground := Ground.phase }, { on := 5, ground := Ground.phase }, { on := 6, ground := Ground.phase }, { on := 7, ground := Ground.phase }, { on := 8, ground := Ground.phase }, { on := 9, ground := Ground.phase }, { on := 10, ground := Ground.phase }, { on := 11, ground := Ground.phase }, { on := 12, ground := Ground.phase }, { on := 13, ground := Ground.phase }, { on := 14, ground := Ground.phase }, { on := 15, ground := Ground.phase }, { on := 16, ground := Ground.phase }], guard := none }) (v := (.int .i64 6)) rfl (by kernel_rfl) (fun _ _ _ h => h) (Or.inl ⟨by rfl, ?_⟩)  ?_
            · intro w hSw
              (try dsimp only at hSw)
              go_simp
            simp only [Act.put, List.setIfInBounds_toArray, List.set_cons_zero, List.set_cons_succ]
            refine wpAnyX_done (by kernel_rfl) ?_ _
            go_wp2_with fail
            refine wp_region_X (fun w' => w'.cell? ⟨w.heap.size, 0, none⟩ = some (.bool ng) ∧ w'.cell? ⟨w.heap.size, 1, none⟩ = some (.slice adg xg.length qg) ∧ w'.cell? ⟨w.heap.size + 1, 0, none⟩ = some (.bool nh) ∧ w'.cell? ⟨w.heap.size + 1, 1, none⟩ = some (.slice adh xh.length qh)) [] (by kernel_rfl) ?_
            obtain ⟨D12, hD⟩ : ∃ D12, V11.drew = D12 := ⟨_, rfl⟩
            have b : Below V11.heap.size V11 D12 := by rw [← hD]; exact (Below.refl _ _).drew
            rw [hD]
            clear hD
            replace Zp := hid (Zp.out.now b)
            replace Zq := hid (Zq.out.now b)
            replace Ze := hid (Ze.out.now b)
            replace Zf := hid (Zf.out.now b)
            replace Zg := hid (Zg.out.now b)
            replace Zh := hid (Zh.out.now b)
            replace PRR := hid (PRR.out.step b)
            replace PRM := hid (PRM.out.step b)
            replace Pe := hid (Pe.out.step b)
            replace Pf := hid (Pf.out.step b)
            replace LR := hid (LR.out.now b)
            replace LM := hid (LM.out.now b)
            replace G := hid (below_step G.out b)
            have lz13 := (show Below _ _ _ from b).size
            clear b
            refine wpAnyX_take (i := 0) (oi := { dst := some 54, op := Op.load 25 (Operand.tmp 4), type := 25, pos := "modulo.go:86", after := #[], guard := none }) (v := (.agg #[(.bool ng), (.slice adg xg.length qg)])) rfl (by kernel_rfl) (fun _ _ _ h => h) (Or.inl ⟨by rfl, ?_⟩) ⟨PRR.out.c0, PRR.out.c1, PRM.out.c0, PRM.out.c1⟩ ?_
            · intro w hSw
              (try dsimp only at hSw)
              go_simp
            simp only [Act.put, List.setIfInBounds_toArray, List.set_cons_zero, List.set_cons_succ]
            refine wpAnyX_take (i := 1) (oi := { dst := some 55, op := Op.load 25 (Operand.tmp 5), type := 25, pos := "modulo.go:86", after := #[{ on := 3, ground := Ground.gcOnly Departure.lateStores }], guard := none }) (v := (.agg #[(.bool nh), (.slice adh xh.length qh)])) rfl (by kernel_rfl) (fun _ _ _ h => h) (Or.inl ⟨by rfl, ?_⟩) ⟨PRR.out.c0, PRR.out.c1, PRM.out.c0, PRM.out.c1⟩ ?_
            · intro w hSw
              (try dsimp only at hSw)
              go_simp
            simp only [Act.put, List.setIfInBounds_toArray, List.set_cons_zero, List.set_cons_succ]
            refine wpAnyX_pure (i := 2) (oi := { dst := some 56, op := Op.move (Operand.tmp 6), type := 38, pos := "modulo.go:86", after := #[{ on := 4, ground := Ground.gcOnly Departure.lateStores }], guard := none }) (v := (.int .i64 6)) rfl (by kernel_rfl) (fun _ _ _ h => h) (Or.inl ⟨by rfl, ?_⟩)  ?_
            · intro w hSw
              (try dsimp only at hSw)
              go_simp
            simp only [Act.put, List.setIfInBounds_toArray, List.set_cons_zero, List.set_cons_succ]
            refine wpAnyX_one (i := 3) (o := { dst := none, op := Op.store 25 (Operand.tmp 4) (Operand.tmp 54), type := 0, pos := "modulo.go:86", after := #[{ on := 0, ground := Ground.data }, { on := 0, ground := Ground.phase }, { on := 1, ground := Ground.textOnly Departure.lateStores }, { on := 2, ground := Ground.textOnly Departure.lateStores }], guard := none }) (by kernel_rfl) rfl (fun K hK => ?_)
            have cRR0 := PRR.out.c0
            have cRR1 := PRR.out.c1
            have fRR0 := PRR.out.fz 0
            have fRR1 := PRR.out.fz 1
            go_simp
            clear cRR0 cRR1 fRR0 fRR1
            obtain ⟨V14, hW⟩ : ∃ V14, (D12.setCell ⟨w.heap.size, 0, none⟩ (.bool ng)).setCell ⟨w.heap.size, 1, none⟩ (.slice adg xg.length qg) = V14 := ⟨_, rfl⟩
            replace Zp := hid ((Zp.out).box (PRR.out) (.bool ng) (.slice adg xg.length qg))
            replace Zq := hid ((Zq.out).box (PRR.out) (.bool ng) (.slice adg xg.length qg))
            replace Ze := hid ((Ze.out).wk ((PRR.out).wk (.bool ng) (.slice adg xg.length qg)))
            replace Zf := hid ((Zf.out).wk ((PRR.out).wk (.bool ng) (.slice adg xg.length qg)))
            replace Zg := hid ((Zg.out).box (PRR.out) (.bool ng) (.slice adg xg.length qg))
            replace Zh := hid ((Zh.out).box (PRR.out) (.bool ng) (.slice adg xg.length qg))
            replace LR := hid ((LR.out).box (PRR.out) (by omega) (.bool ng) (.slice adg xg.length qg))
            replace LM := hid ((LM.out).box (PRR.out) (by omega) (.bool ng) (.slice adg xg.length qg))
            replace PRR := hid ((PRR.out).set (.bool ng) (.slice adg xg.length qg))
            replace PRM := hid ((PRM.out).box (b' := w.heap.size) (by omega) (.bool ng) (.slice adg xg.length qg))
            replace Pe := hid ((Pe.out).box (b' := w.heap.size) (by omega) (.bool ng) (.slice adg xg.length qg))
            replace Pf := hid ((Pf.out).box (b' := w.heap.size) (by omega) (.bool ng) (.slice adg xg.length qg))
            replace G : Hid (Below w.heap.size w (((D12.setCell ⟨w.heap.size, 0, none⟩ (.bool ng)).setCell ⟨w.heap.size, 1, none⟩ (.slice adg xg.length qg)))) := bset (bset (G.out) (by omega)) (by omega)
            have sz14 : V14.heap.size = D12.heap.size := by rw [← hW]; simp
            rw [hW] at Zp Zq Ze Zf Zg Zh LR LM PRR PRM Pe Pf G
            rw [hW]
            clear hW
            refine hK.out _ _ (fun _ _ => ⟨PRR.out.c0, PRR.out.c1, PRM.out.c0, PRM.out.c1⟩) ?_
            clear hK
            try simp only [Act.put]
            refine wpAnyX_one (i := 4) (o := { dst := none, op := Op.store 25 (Operand.tmp 5) (Operand.tmp 55), type := 0, pos := "modulo.go:86", after := #[{ on := 1, ground := Ground.data }, { on := 3, ground := Ground.chain }, { on := 0, ground := Ground.phase }, { on := 1, ground := Ground.phase }, { on := 2, ground := Ground.textOnly Departure.lateStores }, { on := 3, ground := Ground.phase }], guard := none }) (by kernel_rfl) rfl (fun K hK => ?_)
            have cRM0 := PRM.out.c0
            have cRM1 := PRM.out.c1
            have fRM0 := PRM.out.fz 0
            have fRM1 := PRM.out.fz 1
            go_simp
            clear cRM0 cRM1 fRM0 fRM1
            obtain ⟨V15, hW⟩ : ∃ V15, (V14.setCell ⟨w.heap.size + 1, 0, none⟩ (.bool nh)).setCell ⟨w.heap.size + 1, 1, none⟩ (.slice adh xh.length qh) = V15 := ⟨_, rfl⟩
            replace Zp := hid ((Zp.out).box (PRM.out) (.bool nh) (.slice adh xh.length qh))
            replace Zq := hid ((Zq.out).box (PRM.out) (.bool nh) (.slice adh xh.length qh))
            replace Ze := hid ((Ze.out).wk ((PRM.out).wk (.bool nh) (.slice adh xh.length qh)))
            replace Zf := hid ((Zf.out).wk ((PRM.out).wk (.bool nh) (.slice adh xh.length qh)))
            replace Zg := hid ((Zg.out).box (PRM.out) (.bool nh) (.slice adh xh.length qh))
            replace Zh := hid ((Zh.out).box (PRM.out) (.bool nh) (.slice adh xh.length qh))
            replace LR := hid ((LR.out).box (PRM.out) (by omega) (.bool nh) (.slice adh xh.length qh))
            replace LM := hid ((LM.out).box (PRM.out) (by omega) (.bool nh) (.slice adh xh.length qh))
            replace PRR := hid ((PRR.out).box (b' := w.heap.size + 1) (by omega) (.bool nh) (.slice adh xh.length qh))
            replace PRM := hid ((PRM.out).set (.bool nh) (.slice adh xh.length qh))
            replace Pe := hid ((Pe.out).box (b' := w.heap.size + 1) (by omega) (.bool nh) (.slice adh xh.length qh))
            replace Pf := hid ((Pf.out).box (b' := w.heap.size + 1) (by omega) (.bool nh) (.slice adh xh.length qh))
            replace G : Hid (Below w.heap.size w (((V14.setCell ⟨w.heap.size + 1, 0, none⟩ (.bool nh)).setCell ⟨w.heap.size + 1, 1, none⟩ (.slice adh xh.length qh)))) := bset (bset (G.out) (by omega)) (by omega)
            have sz15 : V15.heap.size = V14.heap.size := by rw [← hW]; simp
            rw [hW] at Zp Zq Ze Zf Zg Zh LR LM PRR PRM Pe Pf G
            rw [hW]
            clear hW
            refine hK.out _ _ (fun _ _ => ⟨PRR.out.c0, PRR.out.c1, PRM.out.c0, PRM.out.c1⟩) ?_
            clear hK
            try simp only [Act.put]
            refine wpAnyX_pure (i := 5) (oi := { dst := some 6, op := Op.assign (Operand.tmp 56), type := 38, pos := "modulo.go:86", after := #[{ on := 2, ground := Ground.data }, { on := 4, ground := Ground.chain }, { on := 0, ground := Ground.phase }, { on := 1, ground := Ground.phase }, { on := 2, ground := Ground.phase }, { on := 3, ground := Ground.phase }, { on := 4, ground := Ground.phase }], guard := none }) (v := (.int .i64 6)) rfl (by kernel_rfl) (fun _ _ _ h => h) (Or.inl ⟨by rfl, ?_⟩)  ?_
            · intro w hSw
              (try dsimp only at hSw)
              go_simp
            simp only [Act.put, List.setIfInBounds_toArray, List.set_cons_zero, List.set_cons_succ]
            refine wpAnyX_done (by kernel_rfl) ?_ _
            go_wp2
            refine bodyPost_ret (zback2 Try.results17 PRR.out PRM.out _ (by rfl) (by rfl) (by rfl)) rfl ?_
            exact .inr ⟨HALL.out, .inl ⟨⟨i2, hr2, hm2, zr, zm, HL.out, HD.out⟩, _, _, rfl, Zg.out.mono (by omega), Zh.out.mono (by omega), G.out⟩⟩
        · skip
          have hlt2' : ¬ (i2 : Int) < (n : Int) := by omega
          have HLF : Hid (CrtL Rs Ms zr zm) := by
            have q := HL.out
            rw [List.take_of_length_le (by have := HR.out; omega), List.take_of_length_le (by have := HN.out; omega)] at q
            exact q
          clear HL HG
          go_wp2_with fail
          refine wp_region_X (fun w' => w'.cell? ⟨w.heap.size, 0, none⟩ = some (.bool np) ∧ w'.cell? ⟨w.heap.size, 1, none⟩ = some (.slice adp xp.length cp) ∧ w'.cell? ⟨w.heap.size + 1, 0, none⟩ = some (.bool nq) ∧ w'.cell? ⟨w.heap.size + 1, 1, none⟩ = some (.slice adq xq.length cq)) [] (by kernel_rfl) ?_
          obtain ⟨D6, hD⟩ : ∃ D6, wr.drew = D6 := ⟨_, rfl⟩
          have b : Below wr.heap.size wr D6 := by rw [← hD]; exact (Below.refl _ _).drew
          rw [hD]
          clear hD
          replace Zp := hid (Zp.out.now b)
          replace Zq := hid (Zq.out.now b)
          replace PRR := hid (PRR.out.step b)
          replace PRM := hid (PRM.out.step b)
          replace LR := hid (LR.out.now b)
          replace LM := hid (LM.out.now b)
          replace G := hid (below_step G.out b)
          have lz7 := (show Below _ _ _ from b).size
          clear b
          refine wpAnyX_take (i := 0) (oi := { dst := some 54, op := Op.load 25 (Operand.tmp 4), type := 25, pos := "modulo.go:86", after := #[], guard := none }) (v := (.agg #[(.bool np), (.slice adp xp.length cp)])) rfl (by kernel_rfl) (fun _ _ _ h => h) (Or.inl ⟨by rfl, ?_⟩) ⟨PRR.out.c0, PRR.out.c1, PRM.out.c0, PRM.out.c1⟩ ?_
          · intro w hSw
            (try dsimp only at hSw)
            go_simp
          simp only [Act.put, List.setIfInBounds_toArray, List.set_cons_zero, List.set_cons_succ]
          refine wpAnyX_take (i := 1) (oi := { dst := some 55, op := Op.load 25 (Operand.tmp 5), type := 25, pos := "modulo.go:86", after := #[{ on := 3, ground := Ground.gcOnly Departure.lateStores }], guard := none }) (v := (.agg #[(.bool nq), (.slice adq xq.length cq)])) rfl (by kernel_rfl) (fun _ _ _ h => h) (Or.inl ⟨by rfl, ?_⟩) ⟨PRR.out.c0, PRR.out.c1, PRM.out.c0, PRM.out.c1⟩ ?_
          · intro w hSw
            (try dsimp only at hSw)
            go_simp
          simp only [Act.put, List.setIfInBounds_toArray, List.set_cons_zero, List.set_cons_succ]
          refine wpAnyX_pure (i := 2) (oi := { dst := some 56, op := Op.move (Operand.tmp 6), type := 38, pos := "modulo.go:86", after := #[{ on := 4, ground := Ground.gcOnly Departure.lateStores }], guard := none }) (v := (.int .i64 0)) rfl (by kernel_rfl) (fun _ _ _ h => h) (Or.inl ⟨by rfl, ?_⟩)  ?_
          · intro w hSw
            (try dsimp only at hSw)
            go_simp
          simp only [Act.put, List.setIfInBounds_toArray, List.set_cons_zero, List.set_cons_succ]
          refine wpAnyX_one (i := 3) (o := { dst := none, op := Op.store 25 (Operand.tmp 4) (Operand.tmp 54), type := 0, pos := "modulo.go:86", after := #[{ on := 0, ground := Ground.data }, { on := 0, ground := Ground.phase }, { on := 1, ground := Ground.textOnly Departure.lateStores }, { on := 2, ground := Ground.textOnly Departure.lateStores }], guard := none }) (by kernel_rfl) rfl (fun K hK => ?_)
          have cRR0 := PRR.out.c0
          have cRR1 := PRR.out.c1
          have fRR0 := PRR.out.fz 0
          have fRR1 := PRR.out.fz 1
          go_simp
          clear cRR0 cRR1 fRR0 fRR1
          obtain ⟨V8, hW⟩ : ∃ V8, (D6.setCell ⟨w.heap.size, 0, none⟩ (.bool np)).setCell ⟨w.heap.size, 1, none⟩ (.slice adp xp.length cp) = V8 := ⟨_, rfl⟩
          replace Zp := hid ((Zp.out).box (PRR.out) (.bool np) (.slice adp xp.length cp))
          replace Zq := hid ((Zq.out).box (PRR.out) (.bool np) (.slice adp xp.length cp))
          replace LR := hid ((LR.out).box (PRR.out) (by omega) (.bool np) (.slice adp xp.length cp))
          replace LM := hid ((LM.out).box (PRR.out) (by omega) (.bool np) (.slice adp xp.length cp))
          replace PRR := hid ((PRR.out).set (.bool np) (.slice adp xp.length cp))
          replace PRM := hid ((PRM.out).box (b' := w.heap.size) (by omega) (.bool np) (.slice adp xp.length cp))
          replace G : Hid (Below w.heap.size w (((D6.setCell ⟨w.heap.size, 0, none⟩ (.bool np)).setCell ⟨w.heap.size, 1, none⟩ (.slice adp xp.length cp)))) := bset (bset (G.out) (by omega)) (by omega)
          have sz8 : V8.heap.size = D6.heap.size := by rw [← hW]; simp
          rw [hW] at Zp Zq LR LM PRR PRM G
          rw [hW]
          clear hW
          refine hK.out _ _ (fun _ _ => ⟨PRR.out.c0, PRR.out.c1, PRM.out.c0, PRM.out.c1⟩) ?_
          clear hK
          try simp only [Act.put]
          refine wpAnyX_one (i := 4) (o := { dst := none, op := Op.store 25 (Operand.tmp 5) (Operand.tmp 55), type := 0, pos := "modulo.go:86", after := #[{ on := 1, ground := Ground.data }, { on := 3, ground := Ground.chain }, { on := 0, ground := Ground.phase }, { on := 1, ground := Ground.phase }, { on := 2, ground := Ground.textOnly Departure.lateStores }, { on := 3, ground := Ground.phase }], guard := none }) (by kernel_rfl) rfl (fun K hK => ?_)
          have cRM0 := PRM.out.c0
          have cRM1 := PRM.out.c1
          have fRM0 := PRM.out.fz 0
          have fRM1 := PRM.out.fz 1
          go_simp
          clear cRM0 cRM1 fRM0 fRM1
          obtain ⟨V9, hW⟩ : ∃ V9, (V8.setCell ⟨w.heap.size + 1, 0, none⟩ (.bool nq)).setCell ⟨w.heap.size + 1, 1, none⟩ (.slice adq xq.length cq) = V9 := ⟨_, rfl⟩
          replace Zp := hid ((Zp.out).box (PRM.out) (.bool nq) (.slice adq xq.length cq))
          replace Zq := hid ((Zq.out).box (PRM.out) (.bool nq) (.slice adq xq.length cq))
          replace LR := hid ((LR.out).box (PRM.out) (by omega) (.bool nq) (.slice adq xq.length cq))
          replace LM := hid ((LM.out).box (PRM.out) (by omega) (.bool nq) (.slice adq xq.length cq))
          replace PRR := hid ((PRR.out).box (b' := w.heap.size + 1) (by omega) (.bool nq) (.slice adq xq.length cq))
          replace PRM := hid ((PRM.out).set (.bool nq) (.slice adq xq.length cq))
          replace G : Hid (Below w.heap.size w (((V8.setCell ⟨w.heap.size + 1, 0, none⟩ (.bool nq)).setCell ⟨w.heap.size + 1, 1, none⟩ (.slice adq xq.length cq)))) := bset (bset (G.out) (by omega)) (by omega)
          have sz9 : V9.heap.size = V8.heap.size := by rw [← hW]; simp
          rw [hW] at Zp Zq LR LM PRR PRM G
          rw [hW]
          clear hW
          refine hK.out _ _ (fun _ _ => ⟨PRR.out.c0, PRR.out.c1, PRM.out.c0, PRM.out.c1⟩) ?_
          clear hK
          try simp only [Act.put]
          refine wpAnyX_pure (i := 5) (oi := { dst := some 6, op := Op.assign (Operand.tmp 56), type := 38, pos := "modulo.go:86", after := #[{ on := 2, ground := Ground.data }, { on := 4, ground := Ground.chain }, { on := 0, ground := Ground.phase }, { on := 1, ground := Ground.phase }, { on := 2, ground := Ground.phase }, { on := 3, ground := Ground.phase }, { on := 4, ground := Ground.phase }], guard := none }) (v := (.int .i64 0)) rfl (by kernel_rfl) (fun _ _ _ h => h) (Or.inl ⟨by rfl, ?_⟩)  ?_
          · intro w hSw
            (try dsimp only at hSw)
            go_simp
          simp only [Act.put, List.setIfInBounds_toArray, List.set_cons_zero, List.set_cons_succ]
          refine wpAnyX_done (by kernel_rfl) ?_ _
          go_wp2
          refine bodyPost_ret (zback2 Try.results17 PRR.out PRM.out _ (by rfl) (by rfl) (by rfl)) rfl ?_
          exact .inr ⟨HALL.out, .inr ⟨zr, zm, HLF.out, _, _, rfl, Zp.out, Zq.out, G.out⟩⟩
end Go.Proofs.Ytkikiddoiigbjaa
