/-
  Pairs: the contract of inPairs.
-/
import Derived.Test.YtdfnehngffajiabDoorQStepsToInPairs
namespace Go.Proofs.YtdfnehngffajiabDoor
open Go.RowKit
set_option linter.unusedVariables false

set_option maxRecDepth 100000 in
set_option maxHeartbeats 12800000 in
theorem inPairs_any {B0 : Nat} {w : World} {a : Option Addr} {cap P : Nat} {vp : Value} {Ps : List (List Int)} {ps : List Int} (hb : Bunch B0 w (.slice a Ps.length cap) Ps) (hp : Mine 0 w vp ps) (hP : vn ps = P) (hn : 0 < Ps.length) (hl : Ps.length ≤ 1000000000) (hlp : ps.length ≤ 8589934592) (hle : ∀ i (h : i < Ps.length), Ps[i].length ≤ 8589934592) (hsz : B0 ≤ w.heap.size) :
    Calls Tryd.prog 41 #[.slice a Ps.length cap, vp] w (Paired B0 w P Ps) := by
  have HB := hid hb
  have HP := hid hp
  have HPV := hid hP
  have HLE := hid hle
  obtain ⟨qa, qc, hvp⟩ := hp.form
  subst hvp
  obtain ⟨n, hnn⟩ : ∃ n, Ps.length = n := ⟨_, rfl⟩
  have HN := hid hnn
  rw [hnn] at HB hn hl ⊢
  clear hb hp hP hle hnn
  by_cases hodd : n % 2 = 1
  · have o1 : (n : Int) % 2 = 1 := by omega
    have o2 : (n : Int).tmod 2 = 1 := by rw [Int.tmod_eq_emod_of_nonneg (by omega)]; exact o1
    have ka := (Below.refl w.heap.size w).alloc (Nat.le_refl _) (.cells #[.slice none 0 0] 34)
    have HB1 := hid (HB.out.now ka)
    have K1 := hid ka
    have HCC : Hid ((w.alloc (.cells #[.slice none 0 0] 34)).cell? ⟨w.heap.size, 0, none⟩ = some (.slice none 0 0)) := by unfold Hid; simp
    have HSZ : Hid (B0 ≤ (w.alloc (.cells #[.slice none 0 0] 34)).heap.size) := by unfold Hid; simp; omega
    have HPL : Hid (Ps.length ≤ 1000000000) := by unfold Hid; rw [HN.out]; exact hl
    clear ka
    go_enter Tryd.func41, Tryd.ntmps41
    go_wp2_with (at_builtin; refine wpList_append_bunch _ rfl (.tmp 11) (.tmp 12) rfl B0 _ (.slice none 0 0) Ps [] rfl HB1.out w.heap.size rfl HCC.out (Mine.nil 0 _) HPL.out HSZ.out ?_)
    intro a1 cap1 w1 hB1 hkm hbel
    rw [HN.out]
    have HB2 : Hid (Bunch B0 w1 (.slice a1 (n + 1) cap1) (Ps ++ [[]])) := by unfold Hid; have := hB1.out; rw [HN.out] at this; exact this
    have HKM : Hid (KM w w1) := (KM.below K1.out).trans hkm.out
    have HBE : Hid (Below B0 w w1) := (K1.out.mono hsz).trans hbel.out
    have HP1 := hid (HKM.out _ _ HP.out)
    have HLN : Hid ((Ps ++ [[]]).length = n + 1) := by unfold Hid; simp [HN.out]
    have HGD : Hid (∀ i, (Ps ++ [[]]).getD i [] = Ps.getD i []) := fun i => by
      rcases Nat.lt_or_ge i Ps.length with q | q
      · simp [List.getElem?_append_left q]
      · rw [List.getD_eq_getElem?_getD, List.getD_eq_getElem?_getD, List.getElem?_append_right q, List.getElem?_eq_none q]
        rcases Nat.eq_zero_or_pos (i - Ps.length) with e | e
        · rw [e]; rfl
        · rw [List.getElem?_eq_none (by simp; omega)]
    have HLE2 : Hid (∀ i (h : i < (Ps ++ [[]]).length), (Ps ++ [[]])[i].length ≤ 8589934592) := fun i h => by
      rcases Nat.lt_or_ge i Ps.length with q | q
      · rw [List.getElem_append_left q]; exact HLE.out i q
      · rw [List.getElem_append_right q]; simp
    obtain ⟨m, hm⟩ : ∃ m, n + 1 = 2 * m := ⟨(n + 1) / 2, by omega⟩
    have hmq : (n + 1) / 2 = m := by omega
    have HMQ : Hid (m = (Ps.length + 1) / 2) := by unfold Hid; rw [HN.out]; exact hmq.symm
    obtain ⟨N, hN⟩ : ∃ N, N = n + 1 := ⟨_, rfl⟩
    rw [← hN] at HB2 HLN hm ⊢
    have hNb : 0 < N ∧ N ≤ 1000000001 := by omega
    generalize hPs2 : Ps ++ [[]] = Ps2 at *
    have HM2 := hid hm
    clear hB1 hkm hbel HB1 HCC HSZ HPL HB HP K1 hPs2 hN hmq HLE o1 o2 hodd hm
    have hN2 : 0 < Ps2.length := by rw [HLN.out]; omega
    obtain ⟨pb, e0, hpB, hpw, hNe, hNc, hce0⟩ := HB2.out.sz hN2
    subst e0
    clear hNe hce0
    have e1 : (N : Int) / 2 = (m : Int) := by have := HM2.out; omega
    have e2 : (N : Int).tdiv 2 = (m : Int) := by rw [Int.tdiv_eq_ediv_of_nonneg (by omega)]; exact e1
    have hm9 : m ≤ 2000000000 := by have := HM2.out; omega
    have hszw : B0 ≤ w1.heap.size := by omega
    go_wp2_with (at_make; refine wpList_make_vals _ rfl (.tmp 16) (.tmp 16) rfl _ _ m rfl rfl (by first | rfl | exact e1 | exact e2) (by first | rfl | exact e1 | exact e2) hm9 ?_)
    intro w2 hrow hb2
    have HPI : Hid (Pairing B0 w w2 w1.heap.size m (List.replicate m (.slice none 0 0)) [] P Ps2 (.slice qa ps.length qc) ps (.slice (some ⟨pb, 0, none⟩) N cap1)) :=
      ⟨hrow.out, by simp, Nat.zero_le _, fun i h => absurd h (Nat.not_lt_zero _), HP1.out.below hb2.out, HB2.out.now hb2.out, HKM.out.trans (KM.below hb2.out), HBE.out.trans (hb2.out.mono hszw)⟩
    have hgb : pb < w1.heap.size := hpw
    clear hrow hb2 HP1 HB2 HKM HBE hpw
    generalize w1.heap.size = g at *
    go_wp2_with fail
    go_loopw [20] (fun i wr => ∃ (Vs : List Value) (Qs : List (List Int)), Qs.length ≤ m ∧ i = .int .i64 (Qs.length : Int) ∧ Hid (Pairing B0 w wr g m Vs Qs P Ps2 (.slice qa ps.length qc) ps (.slice (some ⟨pb, 0, none⟩) N cap1))) (fun i _ => m - (intOf i).toNat)
    case atStart => exact ⟨_, [], Nat.zero_le _, rfl, HPI⟩
    case round =>
      clear HPI
      obtain ⟨Vs, Qs, hql, rfl, HPI⟩ := hrel
      by_cases hlt : Qs.length < m
      · have hi1 : 2 * Qs.length + 1 < Ps2.length := by rw [HLN.out]; have := HM2.out; omega
        have hi0 : 2 * Qs.length < Ps2.length := by omega
        obtain ⟨pb', e0, hx1, hpw, hx2, hx3, hce⟩ := HPI.out.bu.sz hN2
        simp only [Option.some.injEq, Addr.mk.injEq, and_true] at e0
        subst e0
        clear hx1 hx2 hx3
        obtain ⟨u1, c1, m1⟩ := hce _ hi1
        obtain ⟨u0, c0, m0⟩ := hce _ hi0
        have HCA := hid c1
        have HCB := hid c0
        have HPW := hid hpw
        have HMA : Hid (∀ w', Below wr.heap.size wr w' → Calls Tryd.prog 47 #[u1, .slice qa ps.length qc, u0] w' (Makes w' (val Ps2[2 * Qs.length + 1] * val ps + val Ps2[2 * Qs.length]))) := fun w' hb => mulAdd_any (m1.below hb).sl (HPI.out.pw.below hb).sl (m0.below hb).sl (by have := HLE2.out _ hi1; omega) (by have := HLE2.out _ hi0; omega)
        have HVV : Hid (∀ zs, WF zs → val zs = val Ps2[2 * Qs.length + 1] * val ps + val Ps2[2 * Qs.length] → vn zs = vn (Ps2.getD (2 * Qs.length + 1) []) * P + vn (Ps2.getD (2 * Qs.length) [])) := fun zs hw h => by
          have g1 : Ps2.getD (2 * Qs.length + 1) [] = Ps2[2 * Qs.length + 1] := by simp [hi1]
          have g0 : Ps2.getD (2 * Qs.length) [] = Ps2[2 * Qs.length] := by simp [hi0]
          rw [g1, g0, ← HPV.out]
          rw [val_vn hw, val_vn m1.1, val_vn m0.1, val_vn HPI.out.pw.1, ← Int.natCast_mul, ← Int.natCast_add] at h
          exact Int.ofNat.inj h
        obtain ⟨x1, y1, hu1⟩ := m1.form
        obtain ⟨x0, y0, hu0⟩ := m0.form
        subst hu1 hu0
        have HROW := hid HPI.out.row
        have hvl := HPI.out.vl
        have HST : Hid (∀ w' u zs, Below wr.heap.size wr w' → Mine B0 w' u zs → Canon zs → vn zs = vn (Ps2.getD (2 * Qs.length + 1) []) * P + vn (Ps2.getD (2 * Qs.length) []) → Pairing B0 w (w'.setCell ⟨g, Qs.length, none⟩ u) g m (Vs.set Qs.length u) (Qs ++ [zs]) P Ps2 (.slice qa ps.length qc) ps (.slice (some ⟨pb, 0, none⟩) N cap1)) := fun w' u zs hb hm hc hv =>
          HPI.out.step hb (by omega) hlt hm hc hv (fun b e => by simp only [Option.some.injEq, Addr.mk.injEq, and_true] at e; omega) (by have := HROW.out.lt; omega)
        have HCE : Hid (∀ w', Below wr.heap.size wr w' → (∃ z, w'.cell? ⟨g, Qs.length, none⟩ = some z) ∧ w'.frozen? ⟨g, Qs.length, none⟩ = false) := fun w' hb => ⟨⟨_, (HROW.out.now hb).cell (by rw [hvl]; exact hlt)⟩, (HROW.out.now hb).frozen _⟩
        generalize val Ps2[2 * Qs.length + 1] * val ps + val Ps2[2 * Qs.length] = tgt at *
        generalize Ps2[2 * Qs.length + 1].length = l1 at *
        generalize Ps2[2 * Qs.length].length = l0 at *
        obtain ⟨k, hk⟩ : ∃ k, k = Qs.length := ⟨_, rfl⟩
        obtain ⟨i1, hi1'⟩ : ∃ i1, i1 = 2 * Qs.length + 1 := ⟨_, rfl⟩
        obtain ⟨i0, hi0'⟩ : ∃ i0, i0 = 2 * Qs.length := ⟨_, rfl⟩
        rw [← hi1'] at c1 HCA
        rw [← hi0'] at c0 HCB
        have f0 : 2 * (k : Int) = (i0 : Int) := by omega
        have f1 : (i0 : Int) + 1 = (i1 : Int) := by omega
        have HKK := hid hk
        rw [← hk] at HST HCE HVV hlt ⊢
        have hin1 : (i1 : Int) < (N : Int) := by have := HLN.out; omega
        have hin0 : (i0 : Int) < (N : Int) := by omega
        have hlt2 : (k : Int) < (m : Int) := by omega
        have w0 : IntKind.i64.wrap (2 * (k : Int)) = (i0 : Int) := by rw [f0, IntKind.wrap_i64]; omega
        have w0' : IntKind.i64.wrap ((i0 : Int) + 1) = (i1 : Int) := by rw [f1, IntKind.wrap_i64]; omega
        have w1' : wrap64 (2 * (k : Int)) = (i0 : Int) := by rw [f0]; unfold wrap64; omega
        have w2' : wrap64 ((i0 : Int) + 1) = (i1 : Int) := by rw [f1]; unfold wrap64; omega
        have wx0 : IntKind.i64.wrap (i0 : Int) = (i0 : Int) := by rw [IntKind.wrap_i64]; omega
        have wx1 : IntKind.i64.wrap (i1 : Int) = (i1 : Int) := by rw [IntKind.wrap_i64]; omega
        have z0 : (0 : Int) ≤ (i0 : Int) := by omega
        have z1 : (0 : Int) ≤ (i1 : Int) := by omega
        have HKB : Hid (∀ w', Below wr.heap.size wr w' → w'.cell? ⟨pb, i1, none⟩ = some (.slice x1 l1 y1) ∧ w'.cell? ⟨pb, i0, none⟩ = some (.slice x0 l0 y0)) := fun w' h => ⟨(h.cell (p := ⟨pb, i1, none⟩) HPW.out).trans HCA.out, (h.cell (p := ⟨pb, i0, none⟩) HPW.out).trans HCB.out⟩
        have HKS : Hid (∀ w' u, Below wr.heap.size wr w' → (w'.setCell ⟨g, k, none⟩ u).cell? ⟨pb, i1, none⟩ = some (.slice x1 l1 y1) ∧ (w'.setCell ⟨g, k, none⟩ u).cell? ⟨pb, i0, none⟩ = some (.slice x0 l0 y0)) := fun w' u h => by
          have hh := HKB.out w' h
          have e : (w'.setCell ⟨g, k, none⟩ u).heap[pb]? = w'.heap[pb]? := heap_setCell_other w' _ _ _ (by show pb ≠ g; omega)
          exact ⟨(World.cell?_of_block e).trans hh.1, (World.cell?_of_block e).trans hh.2⟩
        have HWB : Hid (B0 ≤ wr.heap.size) := Nat.le_trans hsz HPI.out.be.size
        clear m1 m0 HPI hce hk hi1' hi0' hi1 hi0 hql
        go_wp2_with fail
        go_region_held3 (fun w' => w'.cell? ⟨pb, i1, none⟩ = some (.slice x1 l1 y1) ∧ w'.cell? ⟨pb, i0, none⟩ = some (.slice x0 l0 y0))
          (first
            | ((try dsimp only); refine ⟨?_, ?_⟩ <;> with_reducible assumption)
            | (refine HKS.out _ _ ?_; repeat (first | with_reducible exact HP3.out | with_reducible exact Below.refl _ _ | with_reducible apply Below.drew))
            | (refine HKB.out _ ?_; repeat (first | with_reducible exact HP3.out | with_reducible exact Below.refl _ _ | with_reducible apply Below.drew)))
          (first
            | (go_at_call 47; refine (HMA.out _ ?_).mono ?_; (repeat (first | exact Below.refl _ _ | apply Below.drew)); rintro e w3 ⟨zs, r, rfl, m3, cz, vz, b3⟩; have HP3 := hid (below_step (w0 := wr) (by repeat (first | exact Below.refl _ _ | apply Below.drew)) b3); have HST3 := hid (HST.out w3 r zs HP3.out (m3.mono HWB.out) cz (HVV.out zs cz.1 vz)); obtain ⟨⟨z3, c3⟩, f3⟩ := HCE.out w3 HP3.out; obtain ⟨xz, yz, hrz⟩ := m3.form; subst hrz; obtain ⟨d1, d0⟩ := HKB.out w3 HP3.out; clear m3 b3))
        clear HST HCE HMA HKB HKS c1 c0 d1 d0 c3 f3 HP3
        have HLQ : Hid (((Qs ++ [zs]).length : Int) = (k : Int) + 1) := by unfold Hid; have := HKK.out; simp; omega
        go_wp2
        go_roundw
        case rel => exact ⟨_, Qs ++ [zs], (by have := HKK.out; simp; omega), by rw [HLQ.out], HST3⟩
        case measure =>
          have := HKK.out
          simp [intOf]
          omega
      · have hqm : Qs.length = m := by omega
        have hvl := HPI.out.vl
        have HBU : Hid (BunchM B0 wr (.slice (some ⟨g, 0, none⟩) Qs.length Qs.length) Qs) := by
          refine ⟨Vs, ?_, by omega, fun j h1 h2 => (HPI.out.each j h2 h1).1⟩
          rw [hqm, ← hvl]
          refine ⟨by simp, .inr ⟨g, Vs.length, Vs.toArray, rfl, by omega, HPI.out.row, Nat.le_refl _, by unfold maxLen; omega, by simp, by simp⟩⟩
        have HEA : Hid (∀ i (h : i < Qs.length), Canon Qs[i] ∧ vn Qs[i] = vn (Ps.getD (2 * i + 1) []) * P + vn (Ps.getD (2 * i) [])) := fun i h => by
          obtain ⟨_, e2, e3⟩ := HPI.out.each i h (by omega)
          rw [HGD.out, HGD.out] at e3
          exact ⟨e2, e3⟩
        have HK2 := hid HPI.out.km
        have HB3 := hid HPI.out.be
        have HLQ : Hid (Qs.length = (Ps.length + 1) / 2) := by unfold Hid; rw [hqm]; exact HMQ.out
        have nlt : ¬ (Qs.length : Int) < (m : Int) := by omega
        rw [hqm] at HBU
        have HQM := hid hqm
        clear HPI hvl hqm
        go_wp2
        go_ret
        exact ⟨Qs, some ⟨g, 0, none⟩, m, by rw [HQM.out]; rfl, by rw [HQM.out]; exact HBU.out, HLQ.out, HEA.out, HK2.out, HB3.out⟩
  · have o1 : ¬ (n : Int) % 2 = 1 := by omega
    have o2 : ¬ (n : Int).tmod 2 = 1 := by rw [Int.tmod_eq_emod_of_nonneg (by omega)]; exact o1
    have o3 : ((n : Int) % 2 == 1) = false := by simpa using o1
    have o4 : ((n : Int).tmod 2 == 1) = false := by simpa using o2
    have HB2 := HB
    have HLN : Hid (Ps.length = n) := HN
    have HLE2 := HLE
    obtain ⟨m, hm⟩ : ∃ m, n = 2 * m := ⟨n / 2, by omega⟩
    obtain ⟨N, hN⟩ : ∃ N, N = n := ⟨_, rfl⟩
    have HMQ : Hid (m = (Ps.length + 1) / 2) := by unfold Hid; rw [HN.out]; omega
    rw [← hN] at HB2 HLN hm o1 o2 o3 o4 ⊢
    have hNb : 0 < N ∧ N ≤ 1000000001 := by omega
    obtain ⟨Ps2, hPs2⟩ : ∃ Ps2, Ps2 = Ps := ⟨_, rfl⟩
    have HGD : Hid (∀ i, Ps2.getD i [] = Ps.getD i []) := fun i => by rw [hPs2]
    rw [← hPs2] at HB2 HLN HLE2
    obtain ⟨w1, hw1⟩ : ∃ w1, w1 = w := ⟨_, rfl⟩
    have HKM : Hid (KM w w1) := by unfold Hid; rw [hw1]; exact KM.refl w
    have HBE : Hid (Below B0 w w1) := by unfold Hid; rw [hw1]; exact Below.refl _ _
    have HP1 : Hid (Mine 0 w1 (.slice qa ps.length qc) ps) := by unfold Hid; rw [hw1]; exact HP.out
    have HB2 : Hid (Bunch B0 w1 (.slice a N cap) Ps2) := by unfold Hid; rw [hw1]; exact HB2.out
    have HM2 := hid hm
    have hszw1 : B0 ≤ w1.heap.size := by rw [hw1]; exact hsz
    suffices H : Calls Tryd.prog 41 #[.slice a N cap, .slice qa ps.length qc] w1 (Paired B0 w P Ps) by rw [hw1] at H; exact H
    clear hPs2 hN HLE hodd HB HP hw1 hm
    have hN2 : 0 < Ps2.length := by rw [HLN.out]; omega
    obtain ⟨pb, e0, hpB, hpw, hNe, hNc, hce0⟩ := HB2.out.sz hN2
    subst e0
    clear hNe hce0
    have e1 : (N : Int) / 2 = (m : Int) := by have := HM2.out; omega
    have e2 : (N : Int).tdiv 2 = (m : Int) := by rw [Int.tdiv_eq_ediv_of_nonneg (by omega)]; exact e1
    have hm9 : m ≤ 2000000000 := by have := HM2.out; omega
    have hszw : B0 ≤ w1.heap.size := by omega
    go_enter Tryd.func41, Tryd.ntmps41
    go_wp2_with (at_make; refine wpList_make_vals _ rfl (.tmp 16) (.tmp 16) rfl _ _ m rfl rfl (by first | rfl | exact e1 | exact e2) (by first | rfl | exact e1 | exact e2) hm9 ?_)
    intro w2 hrow hb2
    have HPI : Hid (Pairing B0 w w2 w1.heap.size m (List.replicate m (.slice none 0 0)) [] P Ps2 (.slice qa ps.length qc) ps (.slice (some ⟨pb, 0, none⟩) N cap)) :=
      ⟨hrow.out, by simp, Nat.zero_le _, fun i h => absurd h (Nat.not_lt_zero _), HP1.out.below hb2.out, HB2.out.now hb2.out, HKM.out.trans (KM.below hb2.out), HBE.out.trans (hb2.out.mono hszw)⟩
    have hgb : pb < w1.heap.size := hpw
    clear hrow hb2 HP1 HB2 HKM HBE hpw
    generalize w1.heap.size = g at *
    go_wp2_with fail
    go_loopw [20] (fun i wr => ∃ (Vs : List Value) (Qs : List (List Int)), Qs.length ≤ m ∧ i = .int .i64 (Qs.length : Int) ∧ Hid (Pairing B0 w wr g m Vs Qs P Ps2 (.slice qa ps.length qc) ps (.slice (some ⟨pb, 0, none⟩) N cap))) (fun i _ => m - (intOf i).toNat)
    case atStart => exact ⟨_, [], Nat.zero_le _, rfl, HPI⟩
    case round =>
      clear HPI
      obtain ⟨Vs, Qs, hql, rfl, HPI⟩ := hrel
      by_cases hlt : Qs.length < m
      · have hi1 : 2 * Qs.length + 1 < Ps2.length := by rw [HLN.out]; have := HM2.out; omega
        have hi0 : 2 * Qs.length < Ps2.length := by omega
        obtain ⟨pb', e0, hx1, hpw, hx2, hx3, hce⟩ := HPI.out.bu.sz hN2
        simp only [Option.some.injEq, Addr.mk.injEq, and_true] at e0
        subst e0
        clear hx1 hx2 hx3
        obtain ⟨u1, c1, m1⟩ := hce _ hi1
        obtain ⟨u0, c0, m0⟩ := hce _ hi0
        have HCA := hid c1
        have HCB := hid c0
        have HPW := hid hpw
        have HMA : Hid (∀ w', Below wr.heap.size wr w' → Calls Tryd.prog 47 #[u1, .slice qa ps.length qc, u0] w' (Makes w' (val Ps2[2 * Qs.length + 1] * val ps + val Ps2[2 * Qs.length]))) := fun w' hb => mulAdd_any (m1.below hb).sl (HPI.out.pw.below hb).sl (m0.below hb).sl (by have := HLE2.out _ hi1; omega) (by have := HLE2.out _ hi0; omega)
        have HVV : Hid (∀ zs, WF zs → val zs = val Ps2[2 * Qs.length + 1] * val ps + val Ps2[2 * Qs.length] → vn zs = vn (Ps2.getD (2 * Qs.length + 1) []) * P + vn (Ps2.getD (2 * Qs.length) [])) := fun zs hw h => by
          have g1 : Ps2.getD (2 * Qs.length + 1) [] = Ps2[2 * Qs.length + 1] := by simp [hi1]
          have g0 : Ps2.getD (2 * Qs.length) [] = Ps2[2 * Qs.length] := by simp [hi0]
          rw [g1, g0, ← HPV.out]
          rw [val_vn hw, val_vn m1.1, val_vn m0.1, val_vn HPI.out.pw.1, ← Int.natCast_mul, ← Int.natCast_add] at h
          exact Int.ofNat.inj h
        obtain ⟨x1, y1, hu1⟩ := m1.form
        obtain ⟨x0, y0, hu0⟩ := m0.form
        subst hu1 hu0
        have HROW := hid HPI.out.row
        have hvl := HPI.out.vl
        have HST : Hid (∀ w' u zs, Below wr.heap.size wr w' → Mine B0 w' u zs → Canon zs → vn zs = vn (Ps2.getD (2 * Qs.length + 1) []) * P + vn (Ps2.getD (2 * Qs.length) []) → Pairing B0 w (w'.setCell ⟨g, Qs.length, none⟩ u) g m (Vs.set Qs.length u) (Qs ++ [zs]) P Ps2 (.slice qa ps.length qc) ps (.slice (some ⟨pb, 0, none⟩) N cap)) := fun w' u zs hb hm hc hv =>
          HPI.out.step hb (by omega) hlt hm hc hv (fun b e => by simp only [Option.some.injEq, Addr.mk.injEq, and_true] at e; omega) (by have := HROW.out.lt; omega)
        have HCE : Hid (∀ w', Below wr.heap.size wr w' → (∃ z, w'.cell? ⟨g, Qs.length, none⟩ = some z) ∧ w'.frozen? ⟨g, Qs.length, none⟩ = false) := fun w' hb => ⟨⟨_, (HROW.out.now hb).cell (by rw [hvl]; exact hlt)⟩, (HROW.out.now hb).frozen _⟩
        generalize val Ps2[2 * Qs.length + 1] * val ps + val Ps2[2 * Qs.length] = tgt at *
        generalize Ps2[2 * Qs.length + 1].length = l1 at *
        generalize Ps2[2 * Qs.length].length = l0 at *
        obtain ⟨k, hk⟩ : ∃ k, k = Qs.length := ⟨_, rfl⟩
        obtain ⟨i1, hi1'⟩ : ∃ i1, i1 = 2 * Qs.length + 1 := ⟨_, rfl⟩
        obtain ⟨i0, hi0'⟩ : ∃ i0, i0 = 2 * Qs.length := ⟨_, rfl⟩
        rw [← hi1'] at c1 HCA
        rw [← hi0'] at c0 HCB
        have f0 : 2 * (k : Int) = (i0 : Int) := by omega
        have f1 : (i0 : Int) + 1 = (i1 : Int) := by omega
        have HKK := hid hk
        rw [← hk] at HST HCE HVV hlt ⊢
        have hin1 : (i1 : Int) < (N : Int) := by have := HLN.out; omega
        have hin0 : (i0 : Int) < (N : Int) := by omega
        have hlt2 : (k : Int) < (m : Int) := by omega
        have w0 : IntKind.i64.wrap (2 * (k : Int)) = (i0 : Int) := by rw [f0, IntKind.wrap_i64]; omega
        have w0' : IntKind.i64.wrap ((i0 : Int) + 1) = (i1 : Int) := by rw [f1, IntKind.wrap_i64]; omega
        have w1' : wrap64 (2 * (k : Int)) = (i0 : Int) := by rw [f0]; unfold wrap64; omega
        have w2' : wrap64 ((i0 : Int) + 1) = (i1 : Int) := by rw [f1]; unfold wrap64; omega
        have wx0 : IntKind.i64.wrap (i0 : Int) = (i0 : Int) := by rw [IntKind.wrap_i64]; omega
        have wx1 : IntKind.i64.wrap (i1 : Int) = (i1 : Int) := by rw [IntKind.wrap_i64]; omega
        have z0 : (0 : Int) ≤ (i0 : Int) := by omega
        have z1 : (0 : Int) ≤ (i1 : Int) := by omega
        have HKB : Hid (∀ w', Below wr.heap.size wr w' → w'.cell? ⟨pb, i1, none⟩ = some (.slice x1 l1 y1) ∧ w'.cell? ⟨pb, i0, none⟩ = some (.slice x0 l0 y0)) := fun w' h => ⟨(h.cell (p := ⟨pb, i1, none⟩) HPW.out).trans HCA.out, (h.cell (p := ⟨pb, i0, none⟩) HPW.out).trans HCB.out⟩
        have HKS : Hid (∀ w' u, Below wr.heap.size wr w' → (w'.setCell ⟨g, k, none⟩ u).cell? ⟨pb, i1, none⟩ = some (.slice x1 l1 y1) ∧ (w'.setCell ⟨g, k, none⟩ u).cell? ⟨pb, i0, none⟩ = some (.slice x0 l0 y0)) := fun w' u h => by
          have hh := HKB.out w' h
          have e : (w'.setCell ⟨g, k, none⟩ u).heap[pb]? = w'.heap[pb]? := heap_setCell_other w' _ _ _ (by show pb ≠ g; omega)
          exact ⟨(World.cell?_of_block e).trans hh.1, (World.cell?_of_block e).trans hh.2⟩
        have HWB : Hid (B0 ≤ wr.heap.size) := Nat.le_trans hsz HPI.out.be.size
        clear m1 m0 HPI hce hk hi1' hi0' hi1 hi0 hql
        go_wp2_with fail
        go_region_held3 (fun w' => w'.cell? ⟨pb, i1, none⟩ = some (.slice x1 l1 y1) ∧ w'.cell? ⟨pb, i0, none⟩ = some (.slice x0 l0 y0))
          (first
            | ((try dsimp only); refine ⟨?_, ?_⟩ <;> with_reducible assumption)
            | (refine HKS.out _ _ ?_; repeat (first | with_reducible exact HP3.out | with_reducible exact Below.refl _ _ | with_reducible apply Below.drew))
            | (refine HKB.out _ ?_; repeat (first | with_reducible exact HP3.out | with_reducible exact Below.refl _ _ | with_reducible apply Below.drew)))
          (first
            | (go_at_call 47; refine (HMA.out _ ?_).mono ?_; (repeat (first | exact Below.refl _ _ | apply Below.drew)); rintro e w3 ⟨zs, r, rfl, m3, cz, vz, b3⟩; have HP3 := hid (below_step (w0 := wr) (by repeat (first | exact Below.refl _ _ | apply Below.drew)) b3); have HST3 := hid (HST.out w3 r zs HP3.out (m3.mono HWB.out) cz (HVV.out zs cz.1 vz)); obtain ⟨⟨z3, c3⟩, f3⟩ := HCE.out w3 HP3.out; obtain ⟨xz, yz, hrz⟩ := m3.form; subst hrz; obtain ⟨d1, d0⟩ := HKB.out w3 HP3.out; clear m3 b3))
        clear HST HCE HMA HKB HKS c1 c0 d1 d0 c3 f3 HP3
        have HLQ : Hid (((Qs ++ [zs]).length : Int) = (k : Int) + 1) := by unfold Hid; have := HKK.out; simp; omega
        go_wp2
        go_roundw
        case rel => exact ⟨_, Qs ++ [zs], (by have := HKK.out; simp; omega), by rw [HLQ.out], HST3⟩
        case measure =>
          have := HKK.out
          simp [intOf]
          omega
      · have hqm : Qs.length = m := by omega
        have hvl := HPI.out.vl
        have HBU : Hid (BunchM B0 wr (.slice (some ⟨g, 0, none⟩) Qs.length Qs.length) Qs) := by
          refine ⟨Vs, ?_, by omega, fun j h1 h2 => (HPI.out.each j h2 h1).1⟩
          rw [hqm, ← hvl]
          refine ⟨by simp, .inr ⟨g, Vs.length, Vs.toArray, rfl, by omega, HPI.out.row, Nat.le_refl _, by unfold maxLen; omega, by simp, by simp⟩⟩
        have HEA : Hid (∀ i (h : i < Qs.length), Canon Qs[i] ∧ vn Qs[i] = vn (Ps.getD (2 * i + 1) []) * P + vn (Ps.getD (2 * i) [])) := fun i h => by
          obtain ⟨_, e2, e3⟩ := HPI.out.each i h (by omega)
          rw [HGD.out, HGD.out] at e3
          exact ⟨e2, e3⟩
        have HK2 := hid HPI.out.km
        have HB3 := hid HPI.out.be
        have HLQ : Hid (Qs.length = (Ps.length + 1) / 2) := by unfold Hid; rw [hqm]; exact HMQ.out
        have nlt : ¬ (Qs.length : Int) < (m : Int) := by omega
        rw [hqm] at HBU
        have HQM := hid hqm
        clear HPI hvl hqm
        go_wp2
        go_ret
        exact ⟨Qs, some ⟨g, 0, none⟩, m, by rw [HQM.out]; rfl, by rw [HQM.out]; exact HBU.out, HLQ.out, HEA.out, HK2.out, HB3.out⟩
end Go.Proofs.YtdfnehngffajiabDoor
