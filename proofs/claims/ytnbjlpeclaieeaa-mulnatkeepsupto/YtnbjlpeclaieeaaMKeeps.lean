/-
  MKeeps: the walk of MulnatKeeps.
-/
import Derived.Test.YtnbjlpeclaieeaaMKeeps0
namespace Go.Proofs.Ytnbjlpeclaieeaa
open Go.RowKit
set_option linter.unusedVariables false

set_option maxRecDepth 100000 in
set_option maxHeartbeats 25600000 in
theorem mulnatKeeps_any {w : World} {d : OpD} (h : OpOk w d) :
    Calls Try.prog 3 #[.agg #[.int .i64 d.kind, d.va, d.vb, d.vc, .int .i64 d.n, d.vl]] w fun e w' => e = .returned (.bool true) ∧ Below w.heap.size w w' := by
  obtain ⟨aa, ca, hva⟩ : ∃ a c, d.va = .slice a d.xs.length c := by obtain ⟨_, a, c, e, _⟩ := h.sa; exact ⟨a, c, e⟩
  obtain ⟨ab, cb, hvb⟩ : ∃ a c, d.vb = .slice a d.ys.length c := by obtain ⟨_, a, c, e, _⟩ := h.sb; exact ⟨a, c, e⟩
  obtain ⟨ac, cc, hvc⟩ : ∃ a c, d.vc = .slice a d.zs.length c := by obtain ⟨_, a, c, e, _⟩ := h.sc; exact ⟨a, c, e⟩
  obtain ⟨al, cl, hvl⟩ : ∃ a c, d.vl = .slice a d.Xs.length c := by obtain ⟨a, c, e, _⟩ := h.sl; exact ⟨a, c, e⟩
  have HOK := hid h
  have SA : Hid (Sl w.heap.size w (.slice aa d.xs.length ca) d.xs) := by unfold Hid; rw [← hva]; exact h.sa
  have SB : Hid (Sl w.heap.size w (.slice ab d.ys.length cb) d.ys) := by unfold Hid; rw [← hvb]; exact h.sb
  have SC : Hid (Sl w.heap.size w (.slice ac d.zs.length cc) d.zs) := by unfold Hid; rw [← hvc]; exact h.sc
  have SL : Hid (Ls w.heap.size w (.slice al d.Xs.length cl) d.Xs) := by unfold Hid; rw [← hvl]; exact h.sl
  have la := h.la
  have lb := h.lb
  have lc := h.lc
  have ll := h.ll
  have lt := h.lt
  have HVA := hid hva
  have HVB := hid hvb
  have HVC := hid hvc
  have HVL := hid hvl
  have HCP0 : Hid (∀ wr, Below w.heap.size w wr → Calls Try.prog 6 #[.agg #[.int .i64 d.kind, .slice aa d.xs.length ca, .slice ab d.ys.length cb, .slice ac d.zs.length cc, .int .i64 d.n, .slice al d.Xs.length cl]] wr _) := fun wr hb => by
    have := copied_op copiedOk (HOK.out.now hb)
    rw [HVA.out, HVB.out, HVC.out, HVL.out] at this
    exact this
  have X0 := hid (Bx.start w (opBox d.kind d.va d.vb d.vc d.n d.vl))
  rw [hva, hvb, hvc, hvl]
  rw [hva, hvb, hvc, hvl] at X0
  obtain ⟨w0, ew0⟩ : ∃ w0, w0 = w.alloc (opBox d.kind (.slice aa d.xs.length ca) (.slice ab d.ys.length cb) (.slice ac d.zs.length cc) d.n (.slice al d.Xs.length cl)) := ⟨_, rfl⟩
  rw [← ew0] at X0
  rw [← hva, ← hvb, ← hvc, ← hvl] at X0
  have EW0 := hid ew0
  clear ew0 hva hvb hvc hvl h
  generalize hla : d.xs.length = na at *
  generalize hlb : d.ys.length = nb at *
  generalize hlc : d.zs.length = nc at *
  generalize hll : d.Xs.length = nl at *
  have HLA := hid hla
  have HLB := hid hlb
  have HLC := hid hlc
  have HLL := hid hll
  clear hla hlb hlc hll
  go_enter Try.func3, Try.ntmps3
  go_wp2_with fail
  rw [← EW0.out]
  refine (wake_any _).mono ?_
  rintro e w1 ⟨rfl, k1⟩
  have X1 := hid (X0.out.step k1)
  clear X0 k1 EW0
  obtain ⟨o0, o1, o2, o3, o4, o5⟩ := X1.out.six HVA.out HVB.out HVC.out HVL.out
  go_wp2_with fail
  refine (HCP0.out w1 X1.out.1).mono ?_
  rintro e w2 ⟨ba, da, bb, db, bc, dc, bl, dl, rfl, ok2, k2⟩
  have X2 := hid (X1.out.step k2)
  have HTO := hid (told_op ok2)
  clear X1 k2 ok2 o0 o1 o2 o3 o4 o5
  go_wp2_with fail
  refine HTO.out.mono ?_
  rintro e w3 ⟨W, vW, rfl, mW, cW, hW, k3⟩
  have X3 := hid (X2.out.step k3)
  have CW := hid cW
  have VW := hid hW
  have PW := hid (Pm.of mW (Nat.le_refl _))
  obtain ⟨aw, qw, rfl⟩ := mW.form
  clear X2 k3 HTO mW cW hW
  generalize w2.heap.size = B0 at *
  obtain ⟨o0, o1, o2, o3, o4, o5⟩ := X3.out.six HVA.out HVB.out HVC.out HVL.out
  have hne : w.heap.size ≠ w3.heap.size := by have := X3.out.lt; omega
  have hlt3 : w.heap.size < w3.heap.size := X3.out.lt
  go_wp2_with fail
  clear hne hlt3
  have K4 := hid (kb_alloc X3.out [.int .i64 d.kind, .slice none 0 0, .slice none 0 0, .slice none 0 0, .int .i64 d.n, .slice none 0 0])
  have ka := (Below.refl w3.heap.size w3).alloc (Nat.le_refl _) (.cells #[.int .i64 d.kind, .slice none 0 0, .slice none 0 0, .slice none 0 0, .int .i64 d.n, .slice none 0 0] 25)
  have PW4 := hid (PW.out.step ka)
  obtain ⟨w4, ew4⟩ : ∃ w4, w4 = w3.alloc (.cells #[.int .i64 d.kind, .slice none 0 0, .slice none 0 0, .slice none 0 0, .int .i64 d.n, .slice none 0 0] 25) := ⟨_, rfl⟩
  rw [← ew4] at PW4 ⊢
  rw [← ew4] at K4
  clear ew4 ka PW X3 o0 o1 o2 o3 o4 o5
  generalize w3.heap.size = bx at *
  refine (roomy_any (SA.out.now K4.out.be) (by rw [HLA.out]; omega)).mono ?_
  rintro e w5 ⟨rfl, rr, kk⟩
  rw [HLA.out]
  have RA : Hid (Rm w5 w4.heap.size d.xs) := rr
  have QA : Hid (bx < w4.heap.size) := K4.out.blt
  have K5 := hid (K4.out.step kk)
  have PW5 := hid (PW4.out.step kk)
  clear rr kk K4 PW4
  generalize w4.heap.size = ra at *
  obtain ⟨o0, o1, o2, o3, o4, o5⟩ := K5.out.bx.six HVA.out HVB.out HVC.out HVL.out
  go_wp2_with fail
  refine (roomy_any (SB.out.now K5.out.be) (by rw [HLB.out]; omega)).mono ?_
  rintro e w6 ⟨rfl, rr, kk⟩
  rw [HLB.out]
  have RB : Hid (Rm w6 w5.heap.size d.ys) := rr
  have QB : Hid (ra < w5.heap.size) := RA.out.lt
  have RA6 := hid (RA.out.step kk)
  have K6 := hid (K5.out.step kk)
  have PW6 := hid (PW5.out.step kk)
  clear rr kk K5 PW5 RA o0 o1 o2 o3 o4 o5
  generalize w5.heap.size = rb at *
  obtain ⟨o0, o1, o2, o3, o4, o5⟩ := K6.out.bx.six HVA.out HVB.out HVC.out HVL.out
  go_wp2_with fail
  refine (roomy_any (SC.out.now K6.out.be) (by rw [HLC.out]; omega)).mono ?_
  rintro e w7 ⟨rfl, rr, kk⟩
  rw [HLC.out]
  have RC : Hid (Rm w7 w6.heap.size d.zs) := rr
  have QC : Hid (rb < w6.heap.size) := RB.out.lt
  have RA7 := hid (RA6.out.step kk)
  have RB7 := hid (RB.out.step kk)
  have K7 := hid (K6.out.step kk)
  have PW7 := hid (PW6.out.step kk)
  clear rr kk K6 PW6 RA6 RB o0 o1 o2 o3 o4 o5
  generalize w6.heap.size = rc at *
  obtain ⟨o0, o1, o2, o3, o4, o5⟩ := K7.out.bx.six HVA.out HVB.out HVC.out HVL.out
  obtain ⟨x0, x1, x2, x3, x4, x5⟩ := K7.out.xsix
  have f1 := K7.out.xf 1
  have f2 := K7.out.xf 2
  have f3 := K7.out.xf 3
  have hne : w.heap.size ≠ bx := Nat.ne_of_lt K7.out.lt
  have hll2 : nl ≤ 2000000 := by omega
  go_wp2_with (at_make; refine wpList_make_lists _ rfl (.tmp 66) (.tmp 66) rfl _ _ nl nl rfl rfl rfl rfl (Nat.le_refl _) hll2 ?_)
  intro w8 hR hB hS8
  obtain ⟨w8', e8⟩ : ∃ W, W = ((w7.setCell ⟨bx, 1, none⟩ (.slice (some ⟨ra, 0, none⟩) na (na + 80))).setCell ⟨bx, 2, none⟩ (.slice (some ⟨rb, 0, none⟩) nb (nb + 80))).setCell ⟨bx, 3, none⟩ (.slice (some ⟨rc, 0, none⟩) nc (nc + 80)) := ⟨_, rfl⟩
  have hsz : w8'.heap.size = w7.heap.size := by rw [e8]; simp
  rw [← e8] at hB
  rw [← hsz] at hR hB ⊢
  have K8' := kr_start K7.out RA7.out RB7.out RC.out PW7.out QA.out QB.out QC.out e8
  have K8 := hid (K8'.step hB)
  have RG := hid hR
  have QG : Hid (rc < w8'.heap.size) := K8'.mc.lt
  clear K7 RA7 RB7 RC PW7 QA QB QC e8 K8' hsz hR hB hS8 x0 x1 x2 x3 x4 x5 f1 f2 f3 o0 o1 o2 o3 o4 o5
  generalize w8'.heap.size = g1 at *
  obtain ⟨o0, o1, o2, o3, o4, o5⟩ := K8.out.kb.bx.six HVA.out HVB.out HVC.out HVL.out
  have hll3 : nl + 2 ≤ 2000000 := by omega
  go_wp2_with (at_make; refine wpList_make_lists _ rfl (.tmp 71) (.tmp 71) rfl _ _ (nl + 2) (nl + 2) rfl rfl (by go_num) (by go_num) (Nat.le_refl _) hll3 ?_)
  intro w9 hR hB hS9
  have K9 := hid (K8.out.step hB)
  have RG2 := hid hR
  have QG2 : Hid (g1 < w8.heap.size) := RG.out.lt
  have RG9 := hid (RG.out.now hB)
  clear K8 RG hR hB hS9 o0 o1 o2 o3 o4 o5
  generalize w8.heap.size = g2 at *
  have HRL0 : Hid (RoomsL w9 g1 g2 d.Xs (fun _ => 0) (List.replicate d.Xs.length (.slice none 0 0)) (List.replicate (d.Xs.length + 2) (.slice none 0 0)) 0) := by
    unfold Hid
    refine RoomsL.start (n := 0) ?_ ?_ QG2.out _
    · rw [HLL.out]; exact RG9.out
    · rw [HLL.out]; exact RG2.out
  clear RG9 RG2
  go_wp2_with fail
  go_loopw [11] (fun i wr => ∃ (k : Nat) (R : Nat → Nat) (V1 V2 : List Value), k ≤ nl ∧ i = .int .i64 k ∧ Hid (Kr w d bx [.int .i64 d.kind, .slice (some ⟨ra, 0, none⟩) na (na + 80), .slice (some ⟨rb, 0, none⟩) nb (nb + 80), .slice (some ⟨rc, 0, none⟩) nc (nc + 80), .int .i64 d.n, .slice none 0 0] ra rb rc d.xs d.ys d.zs B0 (.slice aw W.length qw) W wr) ∧ Hid (RoomsL wr g1 g2 d.Xs R V1 V2 k)) (fun i _ => nl - (intOf i).toNat)
  case atStart => exact ⟨0, _, _, _, Nat.zero_le _, rfl, K9, HRL0⟩
  case round =>
    clear K9 HRL0
    obtain ⟨k, R, V1, V2, hk, rfl, K, HRL⟩ := hrel
    obtain ⟨o0, o1, o2, o3, o4, o5⟩ := K.out.kb.bx.six HVA.out HVB.out HVC.out HVL.out
    by_cases hlt : k < nl
    · have hk' : k < d.Xs.length := by rw [HLL.out]; exact hlt
      obtain ⟨b, off, hal, hbw, u, c1, su, fu⟩ := SL.out.get hk'
      subst hal
      obtain ⟨ua, uc, rfl⟩ : ∃ a c, u = .slice a d.Xs[k].length c := by obtain ⟨_, a, c, e, _⟩ := su; exact ⟨a, c, e⟩
      have lu : d.Xs[k].length ≤ tot d.Xs := tot_get d.Xs hk'
      have HST : Hid (∀ w1, Below wr.heap.size wr w1 → Rm w1 wr.heap.size d.Xs[k] → _) := fun w1 hb hr => HRL.out.step hk' hb hr
      have HSU := hid (su.now K.out.kb.be)
      have HC1 := hid c1
      have HBW := hid hbw
      have c2 := (K.out.kb.be.cell (p := ⟨b, off + k, none⟩) hbw).trans c1
      generalize d.Xs[k] = xk at *
      generalize hlx : xk.length = m at *
      have HLX := hid hlx
      have hm : m ≤ 1048576 := by omega
      clear su fu c1 hlx lu hbw
      go_wp2_with fail
      refine (roomy_any HSU.out (by rw [HLX.out]; omega)).mono ?_
      rintro e w1 ⟨rfl, rr, kk⟩
      rw [HLX.out]
      have K1 := hid (K.out.step kk)
      have HRL1 := hid (HRL.out.now kk)
      have HS1 := hid (HST.out w1 kk rr)
      obtain ⟨u1, hu1⟩ := HRL1.out.set1 hk'
      have hf1 := HRL1.out.frozen1 (i := k)
      clear rr kk K HRL HST c2 HSU o0 o1 o2 o3 o4 o5
      go_wp2_with fail
      obtain ⟨w2, ew2⟩ : ∃ w2, w2 = w1.setCell ⟨g1, k, none⟩ (.slice (some ⟨wr.heap.size, 0, none⟩) (m + 80) (m + 80)) := ⟨_, rfl⟩
      have K2 := hid (K1.out.set (j := k) (u := .slice (some ⟨wr.heap.size, 0, none⟩) (m + 80) (m + 80)) QG.out)
      rw [← ew2] at K2
      obtain ⟨q1, u2, q2, q3⟩ := HRL1.out.after1 (v := .slice (some ⟨wr.heap.size, 0, none⟩) (m + 80) (m + 80)) hk'
      rw [← ew2] at q1 q2 q3 HS1
      rw [← ew2]
      clear ew2
      obtain ⟨o0, o1, o2, o3, o4, o5⟩ := K2.out.kb.bx.six HVA.out HVB.out HVC.out HVL.out
      have c2 := (K2.out.kb.be.cell (p := ⟨b, off + k, none⟩) HBW.out).trans HC1.out
      have K3 := hid (K2.out.set (g := g2) (j := k) (u := .slice (some ⟨wr.heap.size, 0, none⟩) m (m + 80)) (Nat.lt_trans QG.out QG2.out))
      clear K1 K2 HRL1 hu1 hf1 u1
      generalize wr.heap.size = gk at *
      go_region
      have K4 := hid (K3.out.step (Below.refl _ _).drew)
      have HS2 := hid (HS1.out.now (Below.refl _ _).drew)
      clear K3 HS1 o0 o1 o2 o3 o4 o5 q1 q2 q3 c2
      go_wp2
      go_roundw
      case rel => exact ⟨k + 1, _, _, _, by omega, by go_num, K4, HS2⟩
      case measure => first | (simp [intOf]; done) | (simp [intOf]; omega)
    · have HRN : Hid (RoomsL wr g1 g2 d.Xs R V1 V2 d.Xs.length) := by unfold Hid; rw [HLL.out, show nl = k by omega]; exact HRL.out
      clear HRL
      obtain ⟨x0, x1, x2, x3, x4, x5⟩ := K.out.kb.xsix
      have hx5 := K.out.kb.xf 5
      obtain ⟨u1, hu1⟩ := HRN.out.set2 (i := nl) (by rw [HLL.out]; omega)
      obtain ⟨u2, hu2⟩ := HRN.out.set2 (i := nl + 1) (by rw [HLL.out]; omega)
      have hf1 := HRN.out.frozen2 (i := nl)
      have hf2 := HRN.out.frozen2 (i := nl + 1)
      have q1 := K.out.kb.lt
      have q2 : bx < g2 := by have := K.out.qa; have := K.out.qb; have := K.out.qc; have := QG.out; have := QG2.out; omega
      have q3 : g2 < wr.heap.size := HRN.out.2.1.lt
      have n1 : w.heap.size ≠ g2 := by omega
      have n2 : bx ≠ g2 := by omega
      have n3 : w.heap.size ≠ bx := by omega
      have n4 : bx < wr.heap.size := by omega
      have n5 : w.heap.size < wr.heap.size := by omega
      go_wp2_with fail
      obtain ⟨w1, e1⟩ : ∃ w1, w1 = ((((wr.setCell ⟨g2, nl, none⟩ (.slice (some ⟨wr.heap.size, 0, none⟩) 1 1)).setCell ⟨g2, nl + 1, none⟩ (.slice (some ⟨wr.heap.size + 1, 0, none⟩) 1 1)).setCell ⟨bx, 5, none⟩ (.slice (some ⟨g2, 0, none⟩) nl (nl + 2))).alloc (.cells #[.int .u64 77] 32)).alloc (.cells #[.int .u64 78] 32) := ⟨_, rfl⟩
      obtain ⟨K1', ⟨V2', L1'⟩, T1'⟩ := last_two K.out HRN.out HLL.out QG.out e1
      have K1 := hid K1'
      have L1 := hid L1'
      have T1 := hid T1'
      rw [← e1]
      generalize wr.heap.size = h1 at *
      clear e1 K1' L1' T1' K HRN x0 x1 x2 x3 x4 x5 hx5 hu1 hu2 hf1 hf2 n1 n2 n3 n4 n5 q1 q3 o0 o1 o2 o3 o4 o5 u1 u2
      have OPS : Hid (∀ wr V2, Kr w d bx [.int .i64 d.kind, .slice (some ⟨ra, 0, none⟩) na (na + 80), .slice (some ⟨rb, 0, none⟩) nb (nb + 80), .slice (some ⟨rc, 0, none⟩) nc (nc + 80), .int .i64 d.n, .slice (some ⟨g2, 0, none⟩) nl (nl + 2)] ra rb rc d.xs d.ys d.zs B0 (.slice aw W.length qw) W wr → RoomsL wr g1 g2 d.Xs R V1 V2 d.Xs.length → OpOk wr ⟨d.kind, .slice (some ⟨ra, 0, none⟩) na (na + 80), d.xs, .slice (some ⟨rb, 0, none⟩) nb (nb + 80), d.ys, .slice (some ⟨rc, 0, none⟩) nc (nc + 80), d.zs, d.n, .slice (some ⟨g2, 0, none⟩) nl (nl + 2), d.Xs⟩) := fun wr V2 k l =>
        op_rooms HOK.out k.ma k.mb k.mc l HOK.out.sa.1 HOK.out.sb.1 HOK.out.sc.1 HOK.out.sl.wf HLA.out HLB.out HLC.out HLL.out la lb lc ll lt
      have HAS1 := hid (asked_op (OPS.out w1 V2' K1.out L1.out))
      refine HAS1.out.mono ?_
      rintro e w2 ⟨P, vP, rfl, mP, cP, hP, kk⟩
      have K2 := hid (K1.out.step kk)
      have L2 := hid (L1.out.now kk)
      have T2 := hid (T1.out.step kk)
      have PP := hid (Pm.of mP (Nat.le_refl _))
      have CP := hid cP
      have VP := hid hP
      have OB2 : Hid (w1.heap.size ≤ w2.heap.size) := kk.size
      have OB1 : Hid (g2 < w1.heap.size ∧ ∀ i, i < d.Xs.length → R i < w1.heap.size) := ⟨L1.out.2.1.lt, fun i h => (L1.out.2.2.2.2.2 i h h).2.2.1.lt⟩
      obtain ⟨ap, qp, rfl⟩ := mP.form
      clear HAS1 K1 L1 T1 mP cP hP kk
      generalize w1.heap.size = b1 at *
      obtain ⟨x0, x1, x2, x3, x4, x5⟩ := K2.out.kb.xsix
      have HAS2 := hid (asked_op (OPS.out w2 V2' K2.out L2.out))
      go_wp2_with fail
      refine HAS2.out.mono ?_
      rintro e w3 ⟨Q, vQ, rfl, mQ, cQ, hQ, kk⟩
      have K3 := hid (K2.out.step kk)
      have L3 := hid (L2.out.now kk)
      have T3 := hid (T2.out.step kk)
      have PP3 := hid (PP.out.step kk)
      have OB3 : Hid (w2.heap.size ≤ w3.heap.size) := kk.size
      have PQ := hid (Pm.of mQ (Nat.le_refl _))
      have CQ := hid cQ
      have VQ := hid hQ
      obtain ⟨aq, qq, rfl⟩ := mQ.form
      clear HAS2 K2 L2 T2 PP mQ cQ hQ kk x0 x1 x2 x3 x4 x5
      generalize w2.heap.size = b2 at *
      obtain ⟨b3, eb3⟩ : ∃ b3, b3 = w3.heap.size := ⟨_, rfl⟩
      rw [← eb3] at PQ OB3
      have EB3 := hid (Nat.le_of_eq eb3)
      clear eb3
      have EPW : Hid (P = W) := canon_inj CP.out CW.out (by rw [VP.out, VW.out])
      have EQW : Hid (Q = W) := canon_inj CQ.out CW.out (by rw [VQ.out, VW.out])
      have hee : (opE d.kind d.n != opE d.kind d.n) = false := by simp
      generalize opE d.kind d.n = E at *
      go_wp2_with fail
      refine (same_yes PP3.out.sl K3.out.pw.sl EPW.out).mono ?_
      rintro e w4 ⟨rfl, kk⟩
      have GE4 : Hid (w3.heap.size ≤ w4.heap.size) := kk.size
      have K4 := hid (K3.out.step kk)
      have L4 := hid (L3.out.now kk)
      have T4 := hid (T3.out.step kk)
      have PP4 := hid (PP3.out.step kk)
      have PQ4 := hid (PQ.out.step kk)
      clear K3 L3 T3 PP3 PQ kk
      go_wp2_with fail
      refine (same_yes PQ4.out.sl K4.out.pw.sl EQW.out).mono ?_
      rintro e w5 ⟨rfl, kk⟩
      have GE5 : Hid (w3.heap.size ≤ w5.heap.size) := Nat.le_trans GE4.out kk.size
      clear GE4
      have K5 := hid (K4.out.step kk)
      have L5 := hid (L4.out.now kk)
      have T5 := hid (T4.out.step kk)
      have PP5 := hid (PP4.out.step kk)
      have PQ5 := hid (PQ4.out.step kk)
      clear K4 L4 T4 PP4 PQ4 kk
      obtain ⟨o0, o1, o2, o3, o4, o5⟩ := K5.out.kb.bx.six HVA.out HVB.out HVC.out HVL.out
      go_wp2_with fail
      refine (kept_now (K5.out.ma.full HOK.out.sa.1 HLA.out (by omega)) (SA.out.now K5.out.kb.be) rfl).mono ?_
      rintro e w6 ⟨rfl, kk⟩
      have GE6 : Hid (w3.heap.size ≤ w6.heap.size) := Nat.le_trans GE5.out kk.size
      clear GE5
      have K6 := hid (K5.out.step kk)
      have L6 := hid (L5.out.now kk)
      have T6 := hid (T5.out.step kk)
      have PP6 := hid (PP5.out.step kk)
      have PQ6 := hid (PQ5.out.step kk)
      clear K5 L5 T5 PP5 PQ5
      clear kk o0 o1 o2 o3 o4 o5
      obtain ⟨o0, o1, o2, o3, o4, o5⟩ := K6.out.kb.bx.six HVA.out HVB.out HVC.out HVL.out
      go_wp2_with fail
      refine (kept_now (K6.out.mb.full HOK.out.sb.1 HLB.out (by omega)) (SB.out.now K6.out.kb.be) rfl).mono ?_
      rintro e w7 ⟨rfl, kk⟩
      have GE7 : Hid (w3.heap.size ≤ w7.heap.size) := Nat.le_trans GE6.out kk.size
      clear GE6
      have K7 := hid (K6.out.step kk)
      have L7 := hid (L6.out.now kk)
      have T7 := hid (T6.out.step kk)
      have PP7 := hid (PP6.out.step kk)
      have PQ7 := hid (PQ6.out.step kk)
      clear K6 L6 T6 PP6 PQ6
      clear kk o0 o1 o2 o3 o4 o5
      obtain ⟨o0, o1, o2, o3, o4, o5⟩ := K7.out.kb.bx.six HVA.out HVB.out HVC.out HVL.out
      go_wp2_with fail
      refine (kept_now (K7.out.mc.full HOK.out.sc.1 HLC.out (by omega)) (SC.out.now K7.out.kb.be) rfl).mono ?_
      rintro e w8 ⟨rfl, kk⟩
      have GE8 : Hid (w3.heap.size ≤ w8.heap.size) := Nat.le_trans GE7.out kk.size
      clear GE7
      have K8 := hid (K7.out.step kk)
      have L8 := hid (L7.out.now kk)
      have T8 := hid (T7.out.step kk)
      have PP8 := hid (PP7.out.step kk)
      have PQ8 := hid (PQ7.out.step kk)
      clear K7 L7 T7 PP7 PQ7
      clear kk o0 o1 o2 o3 o4 o5
      obtain ⟨o0, o1, o2, o3, o4, o5⟩ := K8.out.kb.bx.six HVA.out HVB.out HVC.out HVL.out
      obtain ⟨x0, x1, x2, x3, x4, x5⟩ := K8.out.kb.xsix
      have hnn : ((nl : Int) != (nl : Int)) = false := by simp
      go_wp2_with fail
      clear x0 x1 x2 x3 x4 x5 o0 o1 o2 o3 o4 o5 hnn
      go_loopw [16] (fun i wr => ∃ (k : Nat), k ≤ nl ∧ i = .int .i64 k ∧ Hid (Below w8.heap.size w8 wr)) (fun i _ => nl - (intOf i).toNat)
      case atStart => exact ⟨0, Nat.zero_le _, rfl, Below.refl _ _⟩
      case round =>
        obtain ⟨k, hk, rfl, BB⟩ := hrel
        have K9 := hid (K8.out.step BB.out)
        have L9 := hid (L8.out.now BB.out)
        have T9 := hid (T8.out.step BB.out)
        have PP9 := hid (PP8.out.step BB.out)
        have PQ9 := hid (PQ8.out.step BB.out)
        clear K8 L8 T8 PP8 PQ8
        obtain ⟨o0, o1, o2, o3, o4, o5⟩ := K9.out.kb.bx.six HVA.out HVB.out HVC.out HVL.out
        obtain ⟨x0, x1, x2, x3, x4, x5⟩ := K9.out.kb.xsix
        by_cases hlt : k < nl
        · have hk' : k < d.Xs.length := by rw [HLL.out]; exact hlt
          obtain ⟨b, off, hal, hbw, u, c1, su, fu⟩ := SL.out.get hk'
          subst hal
          obtain ⟨ua, uc, rfl⟩ : ∃ a c, u = .slice a d.Xs[k].length c := by obtain ⟨_, a, c, e, _⟩ := su; exact ⟨a, c, e⟩
          have lu : d.Xs[k].length ≤ tot d.Xs := tot_get d.Xs hk'
          have su9 := su.now K9.out.kb.be
          have c2 := (K9.out.kb.be.cell (p := ⟨b, off + k, none⟩) hbw).trans c1
          have c3 := L9.out.cell1 hk'
          have c4 := L9.out.cell2 hk'
          have wk := HOK.out.sl.wf _ (List.getElem_mem hk')
          have hrm := (L9.out.2.2.2.2.2 k hk' hk').2.2.1
          have HKE : Hid (∀ n, Calls Try.prog 10 #[roomV (R k) d.Xs[k].length, .slice ua d.Xs[k].length uc] (wr.drewN n) fun e w'' => e = .returned (.bool true) ∧ ∃ m, w'' = wr.drewN m) := fun n =>
            (kept_yes (B := wr.heap.size) (w := wr.drewN n) (hrm.full wk rfl (by omega)) su9 rfl).mono fun e w'' h => ⟨h.1, by obtain ⟨_, m, h2⟩ := h; exact ⟨n + m, by rw [h2, World.drewN_drewN]⟩⟩
          have HSE : Hid (∀ n, Calls Try.prog 9 #[headV (R k) d.Xs[k].length, .slice ua d.Xs[k].length uc] (wr.drewN n) fun e w'' => e = .returned (.bool true) ∧ ∃ m, w'' = wr.drewN m) := fun n =>
            (same_any (B := wr.heap.size) (w := wr.drewN n) (hrm.part wk rfl (by omega)) su9).mono fun e w'' h => ⟨by rw [← same_self d.Xs[k]]; exact h.1, by obtain ⟨_, m, h2⟩ := h; exact ⟨n + m, by rw [h2, World.drewN_drewN]⟩⟩
          clear su su9 fu c1 wk hrm hbw
          generalize d.Xs[k].length = m at *
          go_wp2_with fail
          go_quiet (first | (go_at_call 10; exact HKE.out _) | (go_at_call 9; exact HSE.out _))
          clear K9 L9 T9 PP9 PQ9 HKE HSE c2 c3 c4 o0 o1 o2 o3 o4 o5 x0 x1 x2 x3 x4 x5
          go_wp2
          go_roundw
          case rel => exact ⟨k + 1, by omega, by go_num, below_drewN BB.out _⟩
          case measure => first | (simp [intOf]; done) | (simp [intOf]; omega)
        · have EB4 : Hid (b3 ≤ wr.heap.size) := Nat.le_trans EB3.out (Nat.le_trans GE8.out BB.out.size)
          clear BB EB3 GE8
          obtain ⟨t1, t2, _, _, _⟩ := T9.out
          go_wp2_with fail
          have a1 := (Below.refl wr.heap.size wr).alloc (Nat.le_refl _) (.cells #[.int .u64 77] 32)
          have r1 : Row (wr.alloc (.cells #[.int .u64 77] 32)) wr.heap.size (ws [77]) := heap_alloc_new wr _
          refine (same_yes ((T9.out.step a1).2.2.1.whole (wf_word (by omega) WF.nil) (n := 1) rfl (by omega)) (r1.whole (wf_word (by omega) WF.nil) (n := 1) rfl (by omega)) rfl).mono ?_
          rintro e w10 ⟨rfl, kk⟩
          have kk2 := below_step a1 kk
          have K10 := hid (K9.out.step kk2)
          have L10 := hid (L9.out.now kk2)
          have T10 := hid (T9.out.step kk2)
          have PP10 := hid (PP9.out.step kk2)
          have PQ10 := hid (PQ9.out.step kk2)
          clear K9 L9 T9 PP9 PQ9
          have EB10 : Hid (b3 ≤ w10.heap.size) := Nat.le_trans EB4.out kk2.size
          clear a1 r1 kk kk2 t1 t2 o0 o1 o2 o3 o4 o5 x0 x1 x2 x3 x4 x5 EB4
          obtain ⟨o0, o1, o2, o3, o4, o5⟩ := K10.out.kb.bx.six HVA.out HVB.out HVC.out HVL.out
          obtain ⟨x0, x1, x2, x3, x4, x5⟩ := K10.out.kb.xsix
          obtain ⟨t1, t2, _, _, _⟩ := T10.out
          go_wp2_with fail
          have a1 := (Below.refl w10.heap.size w10).alloc (Nat.le_refl _) (.cells #[.int .u64 78] 32)
          have r1 : Row (w10.alloc (.cells #[.int .u64 78] 32)) w10.heap.size (ws [78]) := heap_alloc_new w10 _
          refine (same_yes ((T10.out.step a1).2.2.2.1.whole (wf_word (by omega) WF.nil) (n := 1) rfl (by omega)) (r1.whole (wf_word (by omega) WF.nil) (n := 1) rfl (by omega)) rfl).mono ?_
          rintro e w11 ⟨rfl, kk⟩
          have kk2 := below_step a1 kk
          have K11 := hid (K10.out.step kk2)
          have L11 := hid (L10.out.now kk2)
          have T11 := hid (T10.out.step kk2)
          have PP11 := hid (PP10.out.step kk2)
          have PQ11 := hid (PQ10.out.step kk2)
          clear K10 L10 T10 PP10 PQ10
          have EB11 : Hid (b3 ≤ w11.heap.size) := Nat.le_trans EB10.out kk2.size
          clear a1 r1 kk kk2 t1 t2 o0 o1 o2 o3 o4 o5 x0 x1 x2 x3 x4 x5 EB10
          obtain ⟨o0, o1, o2, o3, o4, o5⟩ := K11.out.kb.bx.six HVA.out HVB.out HVC.out HVL.out
          obtain ⟨x0, x1, x2, x3, x4, x5⟩ := K11.out.kb.xsix
          obtain ⟨t1, t2, _, _, _⟩ := T11.out
          go_wp2_with fail
          clear T11 t1 t2
          have OR : Hid (ra < g1 ∧ rb < g1 ∧ rc < g1 ∧ g1 < g2 ∧ g2 < b1 ∧ b1 ≤ b2 ∧ b2 ≤ b3) := by
            unfold Hid
            have f1 := K11.out.qb
            have f2 := K11.out.qc
            have f3 := QG.out
            have f4 := QG2.out
            have f5 := OB1.out.1
            have f6 := OB2.out
            have f7 := OB3.out
            omega
          refine (turn_room K11.out.ma HOK.out.sa.1 HLA.out la).mono ?_
          rintro e w12 ⟨rfl, hr, tt⟩
          have K12 := hid (K11.out.turnA tt hr)
          have L12 := hid (L11.out.touch tt (fun g q => by have q' : g = ra := q; have := OR.out; omega))
          have PP12 := hid (PP11.out.touch tt (fun g q => by have q' : g = ra := q; have := OR.out; omega))
          have PQ12 := hid (PQ11.out.touch tt (fun g q => by have q' : g = ra := q; have := OR.out; omega))
          have EB12 : Hid (b3 ≤ w12.heap.size) := Nat.le_trans EB11.out tt.size
          clear K11 L11 PP11 PQ11 EB11 hr tt o0 o1 o2 o3 o4 o5 x0 x1 x2 x3 x4 x5
          obtain ⟨o0, o1, o2, o3, o4, o5⟩ := K12.out.kb.bx.six HVA.out HVB.out HVC.out HVL.out
          obtain ⟨x0, x1, x2, x3, x4, x5⟩ := K12.out.kb.xsix
          go_wp2_with fail
          refine (turn_room K12.out.mb HOK.out.sb.1 HLB.out lb).mono ?_
          rintro e w13 ⟨rfl, hr, tt⟩
          have K13 := hid (K12.out.turnB tt hr)
          have L13 := hid (L12.out.touch tt (fun g q => by have q' : g = rb := q; have := OR.out; omega))
          have PP13 := hid (PP12.out.touch tt (fun g q => by have q' : g = rb := q; have := OR.out; omega))
          have PQ13 := hid (PQ12.out.touch tt (fun g q => by have q' : g = rb := q; have := OR.out; omega))
          have EB13 : Hid (b3 ≤ w13.heap.size) := Nat.le_trans EB12.out tt.size
          clear K12 L12 PP12 PQ12 EB12 hr tt o0 o1 o2 o3 o4 o5 x0 x1 x2 x3 x4 x5
          obtain ⟨o0, o1, o2, o3, o4, o5⟩ := K13.out.kb.bx.six HVA.out HVB.out HVC.out HVL.out
          obtain ⟨x0, x1, x2, x3, x4, x5⟩ := K13.out.kb.xsix
          go_wp2_with fail
          refine (turn_room K13.out.mc HOK.out.sc.1 HLC.out lc).mono ?_
          rintro e w14 ⟨rfl, hr, tt⟩
          have K14 := hid (K13.out.turnC tt hr)
          have L14 := hid (L13.out.touch tt (fun g q => by have q' : g = rc := q; have := OR.out; omega))
          have PP14 := hid (PP13.out.touch tt (fun g q => by have q' : g = rc := q; have := OR.out; omega))
          have PQ14 := hid (PQ13.out.touch tt (fun g q => by have q' : g = rc := q; have := OR.out; omega))
          have EB14 : Hid (b3 ≤ w14.heap.size) := Nat.le_trans EB13.out tt.size
          clear K13 L13 PP13 PQ13 EB13 hr tt o0 o1 o2 o3 o4 o5 x0 x1 x2 x3 x4 x5
          obtain ⟨o0, o1, o2, o3, o4, o5⟩ := K14.out.kb.bx.six HVA.out HVB.out HVC.out HVL.out
          obtain ⟨x0, x1, x2, x3, x4, x5⟩ := K14.out.kb.xsix
          go_wp2_with fail
          clear o0 o1 o2 o3 o4 o5 x0 x1 x2 x3 x4 x5
          go_loopw [17] (fun i wr => ∃ (k : Nat), k ≤ nl ∧ i = .int .i64 k ∧ Hid (Kr w d bx [.int .i64 d.kind, .slice (some ⟨ra, 0, none⟩) na (na + 80), .slice (some ⟨rb, 0, none⟩) nb (nb + 80), .slice (some ⟨rc, 0, none⟩) nc (nc + 80), .int .i64 d.n, .slice (some ⟨g2, 0, none⟩) nl (nl + 2)] ra rb rc (turnL d.xs) (turnL d.ys) (turnL d.zs) B0 (.slice aw W.length qw) W wr) ∧ Hid (RoomsL wr g1 g2 (turnLs d.Xs k) R V1 V2' (turnLs d.Xs k).length) ∧ Hid (Pm b1 b2 wr (.slice ap P.length qp) P) ∧ Hid (Pm b2 b3 wr (.slice aq Q.length qq) Q) ∧ Hid (b3 ≤ wr.heap.size)) (fun i _ => nl - (intOf i).toNat)
          case atStart => exact ⟨0, Nat.zero_le _, rfl, K14, by unfold Hid; rw [turnLs_zero]; exact L14.out, PP14, PQ14, EB14⟩
          case round =>
            clear K14 L14 PP14 PQ14 EB14
            obtain ⟨k, hk, rfl, K, L, PP, PQ, EB⟩ := hrel
            obtain ⟨x0, x1, x2, x3, x4, x5⟩ := K.out.kb.xsix
            by_cases hlt : k < nl
            · have hk' : k < d.Xs.length := by rw [HLL.out]; exact hlt
              obtain ⟨c1, hrm, hgr⟩ := rooms_at L.out hk'
              have lu : d.Xs[k].length ≤ tot d.Xs := tot_get d.Xs hk'
              have wk := HOK.out.sl.wf _ (List.getElem_mem hk')
              have HTU := hid (turn_room (cap := d.Xs[k].length + 80) hrm wk rfl (by omega))
              have hRb := OB1.out.2 k hk'
              have HL2 : Hid (∀ w', Touch (· = R k) wr w' → Rm w' (R k) (turnL d.Xs[k]) → _) := fun w' tt hr => rooms_turn L.out hk' tt hr
              clear hrm wk
              generalize d.Xs[k].length = m at *
              go_wp2_with fail
              refine HTU.out.mono ?_
              rintro e w' ⟨rfl, hr, tt⟩
              have K' := hid (K.out.touch tt (fun g q => by have q' : g = R k := q; have := OR.out; omega))
              have L' := hid (HL2.out w' tt hr)
              have PP' := hid (PP.out.touch tt (fun g q => by have q' : g = R k := q; have := OR.out; omega))
              have PQ' := hid (PQ.out.touch tt (fun g q => by have q' : g = R k := q; have := OR.out; omega))
              have EB' : Hid (b3 ≤ w'.heap.size) := Nat.le_trans EB.out tt.size
              clear K L PP PQ EB hr tt HTU HL2 c1 x0 x1 x2 x3 x4 x5
              go_wp2
              go_roundw
              case rel => exact ⟨k + 1, by omega, by go_num, K', L', PP', PQ', EB'⟩
              case measure => first | (simp [intOf]; done) | (simp [intOf]; omega)
            · have ek : k = nl := by omega
              rw [ek] at L
              have OPT : Hid (∀ wr, Kr w d bx [.int .i64 d.kind, .slice (some ⟨ra, 0, none⟩) na (na + 80), .slice (some ⟨rb, 0, none⟩) nb (nb + 80), .slice (some ⟨rc, 0, none⟩) nc (nc + 80), .int .i64 d.n, .slice (some ⟨g2, 0, none⟩) nl (nl + 2)] ra rb rc (turnL d.xs) (turnL d.ys) (turnL d.zs) B0 (.slice aw W.length qw) W wr → RoomsL wr g1 g2 (turnLs d.Xs nl) R V1 V2' (turnLs d.Xs nl).length → OpOk wr ⟨d.kind, .slice (some ⟨ra, 0, none⟩) na (na + 80), turnL d.xs, .slice (some ⟨rb, 0, none⟩) nb (nb + 80), turnL d.ys, .slice (some ⟨rc, 0, none⟩) nc (nc + 80), turnL d.zs, d.n, .slice (some ⟨g2, 0, none⟩) nl (nl + 2), turnLs d.Xs nl⟩) := fun wr k l =>
                op_rooms HOK.out k.ma k.mb k.mc l (turnL_wf _) (turnL_wf _) (turnL_wf _) (turnLs_wf HOK.out.sl.wf nl) (by rw [turnL_len]; exact HLA.out) (by rw [turnL_len]; exact HLB.out) (by rw [turnL_len]; exact HLC.out) (by rw [turnLs_len]; exact HLL.out) la lb lc ll (by rw [← HLL.out, turnLs_all, tot_turn]; exact lt)
              have HC1 := hid (copied_op copiedOk (OPT.out wr K.out L.out))
              go_wp2_with fail
              refine HC1.out.mono ?_
              rintro e w1 ⟨ya, za, yb, zb, yc, zc, yl, zl, rfl, ok2, kk⟩
              have K1 := hid (K.out.step kk)
              have L1 := hid (L.out.now kk)
              have PP1 := hid (PP.out.step kk)
              have PQ1 := hid (PQ.out.step kk)
              have EB1 : Hid (b3 ≤ w1.heap.size) := Nat.le_trans EB.out kk.size
              have HTO := hid (told_op ok2)
              clear K L PP PQ EB ok2 kk HC1 x0 x1 x2 x3 x4 x5
              go_wp2_with fail
              refine HTO.out.mono ?_
              rintro e w2 ⟨N, vN, rfl, mN, cN, hN, kk⟩
              have K2 := hid (K1.out.step kk)
              have L2 := hid (L1.out.now kk)
              have PP2 := hid (PP1.out.step kk)
              have PQ2 := hid (PQ1.out.step kk)
              clear K1 L1 PP1 PQ1
              have EB2 : Hid (b3 ≤ w2.heap.size) := Nat.le_trans EB1.out kk.size
              have SN := hid mN.sl
              have CN := hid cN
              have VN := hid hN
              obtain ⟨an, qn, rfl⟩ := mN.form
              clear EB1 HTO mN cN hN kk
              obtain ⟨x0, x1, x2, x3, x4, x5⟩ := K2.out.kb.xsix
              have HAS := hid (asked_op (OPT.out w2 K2.out L2.out))
              go_wp2_with fail
              refine HAS.out.mono ?_
              rintro e w3 ⟨Z, vZ, rfl, mZ, cZ, hZ, kk⟩
              have K3 := hid (K2.out.step kk)
              have L3 := hid (L2.out.now kk)
              have PP3 := hid (PP2.out.step kk)
              have PQ3 := hid (PQ2.out.step kk)
              clear K2 L2 PP2 PQ2
              have SN3 := hid (SN.out.now kk)
              have PZ3 := hid (Pm.of mZ (Nat.le_refl _))
              have OB4 : Hid (w2.heap.size ≤ w3.heap.size) := kk.size
              have LZ : Hid (Z.length ≤ 1000000000) := op_len (turnL_wf d.xs) (turnL_wf d.ys) (turnL_wf d.zs) (turnLs_wf HOK.out.sl.wf nl) (by rw [turnL_len, HLA.out]; exact la) (by rw [turnL_len, HLB.out]; exact lb) (by rw [turnL_len, HLC.out]; exact lc) (by rw [← HLL.out, turnLs_all, tot_turn]; exact lt) cZ hZ
              have EZN : Hid (Z = N) := canon_inj cZ CN.out (by rw [hZ, VN.out])
              obtain ⟨az, qz, rfl⟩ := mZ.form
              clear HAS mZ cZ hZ kk SN x0 x1 x2 x3 x4 x5 OPT CN VN
              generalize w2.heap.size = b4 at *
              obtain ⟨b5, eb5⟩ : ∃ b5, b5 = w3.heap.size := ⟨_, rfl⟩
              rw [← eb5] at PZ3 OB4
              have EB5 := hid (Nat.le_of_eq eb5)
              clear eb5
              have hee2 : (opE d.kind d.n != opE d.kind d.n) = false := by simp
              generalize opE d.kind d.n = E2 at *
              go_wp2_with fail
              refine (same_yes PZ3.out.sl SN3.out EZN.out).mono ?_
              rintro e w4 ⟨rfl, kk⟩
              have GE4 : Hid (w3.heap.size ≤ w4.heap.size) := kk.size
              have K4 := hid (K3.out.step kk)
              have L4 := hid (L3.out.now kk)
              have PP4 := hid (PP3.out.step kk)
              have PQ4 := hid (PQ3.out.step kk)
              have PZ4 := hid (PZ3.out.step kk)
              clear K3 L3 PP3 PQ3 PZ3
              clear kk SN3
              go_wp2_with fail
              refine (same_yes PP4.out.sl K4.out.pw.sl EPW.out).mono ?_
              rintro e w5 ⟨rfl, kk⟩
              have GE5 : Hid (w3.heap.size ≤ w5.heap.size) := Nat.le_trans GE4.out kk.size
              have K5 := hid (K4.out.step kk)
              have L5 := hid (L4.out.now kk)
              have PP5 := hid (PP4.out.step kk)
              have PQ5 := hid (PQ4.out.step kk)
              have PZ5 := hid (PZ4.out.step kk)
              clear K4 L4 PP4 PQ4 PZ4
              clear kk GE4
              go_wp2_with fail
              refine (same_yes PQ5.out.sl K5.out.pw.sl EQW.out).mono ?_
              rintro e w6 ⟨rfl, kk⟩
              have EB6 : Hid (b5 ≤ w6.heap.size) := Nat.le_trans EB5.out (Nat.le_trans GE5.out kk.size)
              have K6 := hid (K5.out.step kk)
              have L6 := hid (L5.out.now kk)
              have PP6 := hid (PP5.out.step kk)
              have PQ6 := hid (PQ5.out.step kk)
              have PZ6 := hid (PZ5.out.step kk)
              clear K5 L5 PP5 PQ5 PZ5
              clear kk GE5 EB5
              go_wp2_with fail
              have LP : Hid (P.length ≤ 1000000000) := by
                unfold Hid
                rw [EPW.out]
                exact op_len HOK.out.sa.1 HOK.out.sb.1 HOK.out.sc.1 HOK.out.sl.wf HOK.out.la HOK.out.lb HOK.out.lc HOK.out.lt CW.out VW.out
              have LQ : Hid (Q.length ≤ 1000000000) := by
                unfold Hid
                rw [EQW.out]
                exact op_len HOK.out.sa.1 HOK.out.sb.1 HOK.out.sc.1 HOK.out.sl.wf HOK.out.la HOK.out.lb HOK.out.lc HOK.out.lt CW.out VW.out
              have BW0 := hid (bw_new w6)
              have BB0 := hid ((Below.refl w6.heap.size w6).alloc (Nat.le_refl _) (.cells #[.slice none 0 0, .slice none 0 0, .slice none 0 0] 39))
              refine (bookWord_any BW0.out (by simp)).mono ?_
              rintro e v1 ⟨rfl, hbw, hbl⟩
              have BW1 := hid hbw
              have BB1 := hid (BB0.out.trans hbl)
              clear hbw hbl BW0 BB0
              obtain ⟨x0, x1, x2, x3, x4, x5⟩ := (K6.out.step BB1.out).kb.xsix
              go_wp2_with fail
              refine (bookWord_any BW1.out (by simp)).mono ?_
              rintro e v2 ⟨rfl, hbw, hbl⟩
              have BW2 := hid hbw
              have BB2 := hid (BB1.out.trans hbl)
              clear hbw hbl BW1 BB1 x0 x1 x2 x3 x4 x5
              obtain ⟨x0, x1, x2, x3, x4, x5⟩ := (K6.out.step BB2.out).kb.xsix
              go_wp2_with fail
              refine (bookWord_any BW2.out (by simp)).mono ?_
              rintro e v3 ⟨rfl, hbw, hbl⟩
              have BW3 := hid hbw
              have BB3 := hid (BB2.out.trans hbl)
              clear hbw hbl BW2 BB2 x0 x1 x2 x3 x4 x5
              obtain ⟨x0, x1, x2, x3, x4, x5⟩ := (K6.out.step BB3.out).kb.xsix
              go_wp2_with fail
              refine (bookWord_any BW3.out (by simp)).mono ?_
              rintro e v4 ⟨rfl, hbw, hbl⟩
              have BW4 := hid hbw
              have BB4 := hid (BB3.out.trans hbl)
              clear hbw hbl BW3 BB3 x0 x1 x2 x3 x4 x5
              obtain ⟨x0, x1, x2, x3, x4, x5⟩ := (K6.out.step BB4.out).kb.xsix
              go_wp2_with fail
              refine (bookWord_any BW4.out (by simp)).mono ?_
              rintro e v5 ⟨rfl, hbw, hbl⟩
              have BW5 := hid hbw
              have BB5 := hid (BB4.out.trans hbl)
              clear hbw hbl BW4 BB4 x0 x1 x2 x3 x4 x5
              obtain ⟨x0, x1, x2, x3, x4, x5⟩ := (K6.out.step BB5.out).kb.xsix
              go_wp2_with fail
              refine (bookWord_any BW5.out (by simp)).mono ?_
              rintro e v6 ⟨rfl, hbw, hbl⟩
              have BW6 := hid hbw
              have BB6 := hid (BB5.out.trans hbl)
              clear hbw hbl BW5 BB5 x0 x1 x2 x3 x4 x5
              have BWL : Hid (Bw w6.heap.size v6 w6.heap.size (bookUs (.slice ap P.length qp) (.slice aq Q.length qq) (.slice az Z.length qz) ra rb rc na nb nc R (fun i => (d.Xs.getD i []).length) 0)) := by unfold Hid; simpa [bookUs] using BW6.out
              clear BW6
              go_wp2_with fail
              go_loopw [23] (fun i wr => ∃ (k : Nat), k ≤ nl ∧ i = .int .i64 k ∧ Hid (Bw w6.heap.size wr w6.heap.size (bookUs (.slice ap P.length qp) (.slice aq Q.length qq) (.slice az Z.length qz) ra rb rc na nb nc R (fun i => (d.Xs.getD i []).length) k)) ∧ Hid (Below w6.heap.size w6 wr)) (fun i _ => nl - (intOf i).toNat)
              case atStart => exact ⟨0, Nat.zero_le _, rfl, BWL, BB6⟩
              case round =>
                clear BWL BB6
                obtain ⟨k, hk, rfl, BW, BB⟩ := hrel
                obtain ⟨x0, x1, x2, x3, x4, x5⟩ := (K6.out.step BB.out).kb.xsix
                by_cases hlt : k < nl
                · have hk' : k < (turnLs d.Xs nl).length := by rw [turnLs_len, HLL.out]; exact hlt
                  have c1 := (L6.out.now BB.out).cell2 hk'
                  rw [turnLs_lens d.Xs nl k hk'] at c1
                  have HWO := hid (bookWord_any (a := some ⟨R k, 0, none⟩) (n := (d.Xs.getD k []).length) (c := (d.Xs.getD k []).length + 80) BW.out (by rw [bookUs_len]; omega))
                  have HSU : Hid ((bookUs (.slice ap P.length qp) (.slice aq Q.length qq) (.slice az Z.length qz) ra rb rc na nb nc R (fun i => (d.Xs.getD i []).length) k) ++ [.slice (some ⟨R k, 0, none⟩) (d.Xs.getD k []).length ((d.Xs.getD k []).length + 80)] = (bookUs (.slice ap P.length qp) (.slice aq Q.length qq) (.slice az Z.length qz) ra rb rc na nb nc R (fun i => (d.Xs.getD i []).length) (k + 1))) := (bookUs_succ _ _ _ _ _ _ _ _ _ _ _ _).symm
                  generalize hmm : (d.Xs.getD k []).length = m at *
                  clear hmm
                  go_wp2_with fail
                  refine HWO.out.mono ?_
                  rintro e w' ⟨rfl, hbw, hbl⟩
                  rw [HSU.out] at hbw
                  have BW' := hid hbw
                  have BB' := hid (BB.out.trans hbl)
                  clear hbw hbl BW BB HWO HSU c1 x0 x1 x2 x3 x4 x5
                  go_wp2
                  go_roundw
                  case rel => exact ⟨k + 1, by omega, by go_num, BW', BB'⟩
                  case measure => first | (simp [intOf]; done) | (simp [intOf]; omega)
                · have ek : k = nl := by omega
                  rw [ek] at BW
                  have K7 := hid (K6.out.step BB.out)
                  have L7 := hid (L6.out.now BB.out)
                  have PP7 := hid (PP6.out.step BB.out)
                  have PQ7 := hid (PQ6.out.step BB.out)
                  have PZ7 := hid (PZ6.out.step BB.out)
                  have hnl : (turnLs d.Xs nl).length = nl := by rw [turnLs_len]; exact HLL.out
                  have EACH := book_each PP7.out PQ7.out PZ7.out K7.out.ma K7.out.mb K7.out.mc L7.out (by rw [turnL_len]; exact HLA.out) (by rw [turnL_len]; exact HLB.out) (by rw [turnL_len]; exact HLC.out) (turnLs_lens d.Xs nl) la lb lc
                    (fun i h => by
                      have hi : i < d.Xs.length := by rw [turnLs_len] at h; exact h
                      have e3 : d.Xs.getD i [] = d.Xs[i] := by simp [hi]
                      rw [e3]
                      exact Nat.le_trans (tot_get d.Xs hi) lt) LP.out LQ.out LZ.out
                  rw [hnl] at EACH
                  have hgs : ∀ i, i < nl → g2 < R i ∧ R i < b1 := fun i hi => ⟨(L7.out.2.2.2.2.2 i (by rw [hnl]; exact hi) (by rw [hnl]; exact hi)).2.2.2.1, OB1.out.2 i (by rw [HLL.out]; exact hi)⟩
                  have hRs : ∀ i j, i < j → j < nl → R i < R j := fun i j hij hj => (L7.out.2.2.2.2.2 j (by rw [hnl]; exact hj) (by rw [hnl]; exact hj)).2.2.2.2 i hij
                  have f1 := K7.out.qa
                  have f2 := K7.out.qb
                  have f3 := K7.out.qc
                  have f4 := OR.out
                  have f5 := EB2.out
                  have f6 := OB4.out
                  have f7 := EB6.out
                  obtain ⟨gb, LL, hbk, hd1, hd2⟩ := BW.out.bks (bookUs_len _ _ _ _ _ _ _ _ _ _ _ _) ll EACH (book_high (b1 := b1) (g2 := g2) f2 f3 (by omega) (fun i hi => (hgs i hi).2) (by omega) (by omega) (by omega) (by omega) f7) (book_apart (g2 := g2) f2 f3 (by omega) hgs hRs (by omega) (by omega) (by omega) (by omega) (by omega))
                  have NX := hid (blk_low (bookUs_len _ _ _ _ _ _ _ _ _ _ _ _) (fun i h => (EACH i h).2) (book_low (g2 := g2) f1 f2 f3 (by omega) (fun i hi => (hgs i hi).1) (by omega) (by omega) (by omega)))
                  have HAP := hid (apart_yes hbk hd1 hd2)
                  clear hbk hd1 hd2 EACH hgs hRs f1 f2 f3 f4 f5 f6 f7 L7 PP7 PQ7 PZ7 BW
                  go_wp2_with fail
                  refine HAP.out.mono ?_
                  rintro e w8 ⟨rfl, tt⟩
                  have BE := hid (K7.out.kb.touch tt NX.out).be
                  clear tt NX HAP K7
                  go_wp2
                  go_ret
                  exact ⟨rfl, BE.out⟩
end Go.Proofs.Ytnbjlpeclaieeaa
