/-
  Turns9: the walk of MatTurns.
-/
import Derived.Test.YtojhmkkjjalonaaQTurnP9ToZDivs
import Derived.Test.YtojhmkkjjalonaaQEq9
import Derived.Test.YtojhmkkjjalonaaQOpenM9
namespace Go.Proofs.Ytojhmkkjjalonaa
open Go.RowKit
set_option linter.unusedVariables false

theorem boxes2 {w W0 : World} {o1 o2 : List Value} (hW : (w.alloc (.cells o1.toArray 24)).alloc (.cells o2.toArray 24) = W0) :
    Cel W0 w.heap.size 24 o1 ∧ Cel W0 (w.heap.size + 1) 24 o2 := by
  refine ⟨?_, ?_⟩
  · rw [← hW]
    exact (Cel.new w 24 o1).step ((Below.refl _ _).alloc (Nat.le_refl _) _)
  · rw [← hW]
    have := Cel.new (w.alloc (.cells o1.toArray 24)) 24 o2
    simpa using this
theorem zc_zero9 (w : World) : Zc w (.agg #[.bool false, .slice none 0 0]) 0 1 := ⟨false, [], none, 0, rfl, Sl.nil _, ⟨WF.nil, rfl⟩, fun _ => rfl, by simp [iv, val], Nat.zero_le _⟩
theorem Mx.len9 {w : World} {v : Value} {r c : Nat} {zs : List Int} {k : Nat} (h : Mx w v r c zs k) : zs.length = r * c := by obtain ⟨_, _, _, _, _, h, _⟩ := h; exact h
theorem snd_of {r c : Nat} (hr : r ≤ 64) (hc : c ≤ 64) : Snd (r : Int) (c : Int) (r * c) := ⟨by omega, by omega, by omega, by omega, by simp⟩
set_option maxHeartbeats 6400000 in
set_option maxRecDepth 100000 in
theorem matTurns_any {w : World} {va vb : Value} {ra ca rb cb : Int} {la lb : Nat} {xs ys : List Int} (ha : Raw w va ra ca la xs) (hb : Raw w vb rb cb lb ys) :
    Calls Try.prog 4 #[va, vb] w fun e w' => e = .returned (.bool true) ∧ Below w.heap.size w w' := by
  have RA := hid ha
  have RB := hid hb
  obtain ⟨aa, qa, -, rfl, -, -, -, hla⟩ := ha
  obtain ⟨ab, qb, -, rfl, -, -, -, hlb⟩ := hb
  obtain ⟨W0, hV⟩ : ∃ W0, (w.alloc (rawO ra ca (.slice aa la qa))).alloc (rawO rb cb (.slice ab lb qb)) = W0 := ⟨_, rfl⟩
  obtain ⟨b0, sz0⟩ := alloc2 w (rawO ra ca (.slice aa la qa)) (rawO rb cb (.slice ab lb qb))
  rw [hV] at b0 sz0
  obtain ⟨pa, pb⟩ := boxes2 (o1 := [.int .i64 ra, .int .i64 ca, .slice aa la qa]) (o2 := [.int .i64 rb, .int .i64 cb, .slice ab lb qb]) hV
  have Pa := hid pa
  have Pb := hid pb
  replace RA := hid (RA.out.now b0)
  replace RB := hid (RB.out.now b0)
  have G := hid b0
  have EV := hid hV
  clear b0 pa pb hV
  go_enter Try.func4, Try.ntmps4
  go_wp2_with fail
  rw [EV.out]
  clear EV
  refine (wakes9 W0).mono ?_
  rintro e w11 ⟨rfl, b⟩
  replace Pa := hid (Pa.out.step b)
  replace Pb := hid (Pb.out.step b)
  replace RA := hid (RA.out.now b)
  replace RB := hid (RB.out.now b)
  replace G := hid (below_step G.out b)
  have lz12 := (show Below _ _ _ from b).size
  clear b
  have ca0 := Pa.out.at (i := 0) rfl
  have ca1 := Pa.out.at (i := 1) rfl
  have ca2 := Pa.out.at (i := 2) rfl
  go_wp2_with fail
  clear ca0 ca1 ca2
  refine (sound9 (w := w11) hla).mono ?_
  rintro e w13 ⟨bb, rfl, hbb, b⟩
  replace Pa := hid (Pa.out.step b)
  replace Pb := hid (Pb.out.step b)
  replace RA := hid (RA.out.now b)
  replace RB := hid (RB.out.now b)
  replace G := hid (below_step G.out b)
  have lz14 := (show Below _ _ _ from b).size
  clear b
  cases bb
  case false =>
    clear hbb
    go_wp2
    go_ret
    exact ⟨rfl, G.out⟩
  have SA := hid (hbb.1 rfl)
  clear hbb
  have cb0 := Pb.out.at (i := 0) rfl
  have cb1 := Pb.out.at (i := 1) rfl
  have cb2 := Pb.out.at (i := 2) rfl
  go_wp2_with fail
  clear cb0 cb1 cb2
  refine (sound9 (w := w13) hlb).mono ?_
  rintro e w15 ⟨bb, rfl, hbb, b⟩
  replace Pa := hid (Pa.out.step b)
  replace Pb := hid (Pb.out.step b)
  replace RA := hid (RA.out.now b)
  replace RB := hid (RB.out.now b)
  replace G := hid (below_step G.out b)
  have lz16 := (show Below _ _ _ from b).size
  clear b
  cases bb
  case false =>
    clear hbb
    go_wp2
    go_ret
    exact ⟨rfl, G.out⟩
  have SB := hid (hbb.1 rfl)
  clear hbb
  obtain ⟨r, hr⟩ := Int.eq_ofNat_of_zero_le SA.out.1
  obtain ⟨m, hm⟩ := Int.eq_ofNat_of_zero_le SA.out.2.2.1
  obtain ⟨m2, hm2⟩ := Int.eq_ofNat_of_zero_le SB.out.1
  obtain ⟨c, hc⟩ := Int.eq_ofNat_of_zero_le SB.out.2.2.1
  subst hr hm hm2 hc
  have r64 : r ≤ 64 := by have := SA.out.2.1; omega
  have m64 : m ≤ 64 := by have := SA.out.2.2.2.1; omega
  have m264 : m2 ≤ 64 := by have := SB.out.2.1; omega
  have c64 : c ≤ 64 := by have := SB.out.2.2.2.1; omega
  obtain rfl : la = r * m := Int.ofNat.inj (by simpa using SA.out.2.2.2.2)
  obtain rfl : lb = m2 * c := Int.ofNat.inj (by simpa using SB.out.2.2.2.2)
  have Ma := hid (RA.out.mx SA.out)
  have Mb := hid (RB.out.mx SB.out)
  clear RA RB SA SB
  have qr : ((r : Int) != (r : Int)) = false := by simp
  have qm : ((m : Int) != (m : Int)) = false := by simp
  have ca0 := Pa.out.at (i := 0) rfl
  have ca1 := Pa.out.at (i := 1) rfl
  have ca2 := Pa.out.at (i := 2) rfl
  go_wp2_with fail
  clear ca0 ca1 ca2
  refine (turn_yes Ma.out).mono ?_
  rintro e w17 ⟨v, rfl, hm, b⟩
  obtain ⟨av, qv, rfl, -, -⟩ := hm.mx.form
  replace Ma := hid (Ma.out.now b)
  replace Mb := hid (Mb.out.now b)
  replace Pa := hid (Pa.out.step b)
  replace Pb := hid (Pb.out.step b)
  replace G := hid (below_step G.out b)
  have lz18 := (show Below _ _ _ from b).size
  obtain ⟨zv, hz⟩ : ∃ zv, turnL9 r m xs = zv := ⟨_, rfl⟩
  rw [hz] at hm
  have Ev := hid hz
  have Mv := hid hm
  clear hm hz b
  obtain ⟨V19, hV⟩ : ∃ V19, w17.alloc (matO m r (.slice av (m * r) qv)) = V19 := ⟨_, rfl⟩
  obtain ⟨b, sz19⟩ := alo1 w17 (matO m r (.slice av (m * r) qv))
  rw [hV] at b sz19
  replace Ma := hid (Ma.out.now b)
  replace Mb := hid (Mb.out.now b)
  replace Mv := hid (Mv.out.now b)
  replace Pa := hid (Pa.out.step b)
  replace Pb := hid (Pb.out.step b)
  replace G := hid (below_step G.out b)
  have lz20 := (show Below _ _ _ from b).size
  have Pv : Hid (Cel V19 w17.heap.size 24 (matc m r (.slice av (m * r) qv))) := by unfold Hid; rw [← hV]; exact Cel.new w17 _ _
  clear b
  have cv0 := Pv.out.at (i := 0) rfl
  have cv1 := Pv.out.at (i := 1) rfl
  have cv2 := Pv.out.at (i := 2) rfl
  rw [← hV] at cv0 cv1 cv2
  have EV := hid hV
  clear hV
  go_wp2_with fail
  rw [EV.out]
  clear EV
  clear cv0 cv1 cv2
  refine (turn_yes Mv.out.mx).mono ?_
  rintro e w21 ⟨v, rfl, hm, b⟩
  obtain ⟨ak, qk, rfl, -, -⟩ := hm.mx.form
  replace Ma := hid (Ma.out.now b)
  replace Mb := hid (Mb.out.now b)
  replace Mv := hid (Mv.out.now b)
  replace Pa := hid (Pa.out.step b)
  replace Pb := hid (Pb.out.step b)
  replace Pv := hid (Pv.out.step b)
  replace G := hid (below_step G.out b)
  have lz22 := (show Below _ _ _ from b).size
  obtain ⟨zk, hz⟩ : ∃ zk, turnL9 m r zv = zk := ⟨_, rfl⟩
  rw [hz] at hm
  have Ek := hid hz
  have Mk := hid hm
  clear hm hz b
  obtain ⟨V23, hV⟩ : ∃ V23, w21.alloc (matO r m (.slice ak (r * m) qk)) = V23 := ⟨_, rfl⟩
  obtain ⟨b, sz23⟩ := alo1 w21 (matO r m (.slice ak (r * m) qk))
  rw [hV] at b sz23
  replace Ma := hid (Ma.out.now b)
  replace Mb := hid (Mb.out.now b)
  replace Mv := hid (Mv.out.now b)
  replace Mk := hid (Mk.out.now b)
  replace Pa := hid (Pa.out.step b)
  replace Pb := hid (Pb.out.step b)
  replace Pv := hid (Pv.out.step b)
  replace G := hid (below_step G.out b)
  have lz24 := (show Below _ _ _ from b).size
  have Pk : Hid (Cel V23 w21.heap.size 24 (matc r m (.slice ak (r * m) qk))) := by unfold Hid; rw [← hV]; exact Cel.new w21 _ _
  clear b
  have ca0 := Pa.out.at (i := 0) rfl
  have ca1 := Pa.out.at (i := 1) rfl
  have ca2 := Pa.out.at (i := 2) rfl
  have cv0 := Pv.out.at (i := 0) rfl
  have cv1 := Pv.out.at (i := 1) rfl
  have cv2 := Pv.out.at (i := 2) rfl
  have ck0 := Pk.out.at (i := 0) rfl
  have ck1 := Pk.out.at (i := 1) rfl
  have ck2 := Pk.out.at (i := 2) rfl
  rw [← hV] at ca0 ca1 ca2 cv0 cv1 cv2 ck0 ck1 ck2
  have EV := hid hV
  clear hV
  go_wp2_with fail
  rw [EV.out]
  clear EV
  clear ca0 ca1 ca2 cv0 cv1 cv2 ck0 ck1 ck2
  have EQ1 : Hid (zk = xs) := by unfold Hid; rw [← Ek.out, ← Ev.out, turn_turn Ma.out.len9]
  refine (equal9_yes Mk.out.mx Ma.out EQ1.out (by omega) (by omega)).mono ?_
  rintro e w25 ⟨rfl, b⟩
  replace Ma := hid (Ma.out.now b)
  replace Mb := hid (Mb.out.now b)
  replace Mv := hid (Mv.out.now b)
  replace Mk := hid (Mk.out.now b)
  replace Pa := hid (Pa.out.step b)
  replace Pb := hid (Pb.out.step b)
  replace Pv := hid (Pv.out.step b)
  replace Pk := hid (Pk.out.step b)
  replace G := hid (below_step G.out b)
  have lz26 := (show Below _ _ _ from b).size
  clear b
  clear EQ1 Ek
  clear Mk
  clear Pk
  have cv0 := Pv.out.at (i := 0) rfl
  have cv1 := Pv.out.at (i := 1) rfl
  have cv2 := Pv.out.at (i := 2) rfl
  go_wp2_with fail
  clear cv0 cv1 cv2
  refine (sound9 (w := w25) (show m * r ≤ 1048576 by have h := Nat.mul_le_mul m64 r64; omega)).mono ?_
  rintro e w27 ⟨bb, rfl, hbb, b⟩
  replace Ma := hid (Ma.out.now b)
  replace Mb := hid (Mb.out.now b)
  replace Mv := hid (Mv.out.now b)
  replace Pa := hid (Pa.out.step b)
  replace Pb := hid (Pb.out.step b)
  replace Pv := hid (Pv.out.step b)
  replace G := hid (below_step G.out b)
  have lz28 := (show Below _ _ _ from b).size
  clear b
  obtain rfl : bb = true := hbb.2 (snd_of m64 r64)
  clear hbb
  go_wp2_with fail
  have H0 : Hid (EqH w27 r r (.int .i64 0) w27) := ⟨0, rfl, Nat.zero_le _, by omega, Below.refl _ _⟩
  go_loopg [9] r (fun gk s9 wx => EqH w27 r gk s9 wx)
  case atStart => exact H0.out
  case round =>
    clear H0
    obtain ⟨i, rfl, hin, hg, hG⟩ := hrel
    have GL := hid hG
    have HG := hid hg
    clear hG hg
    have ka0 := (Pa.out.step GL.out).at (i := 0) rfl
    have ka1 := (Pa.out.step GL.out).at (i := 1) rfl
    by_cases hlt : i < r
    case pos =>
      have hlt' : (i : Int) < (r : Int) := by omega
      have hw := wrapI9 (i := i) (by omega)
      have HMM : Hid (r - (i + 1) < gk) := by unfold Hid; rw [HG.out]; omega
      have H1 : Hid (EqH w27 m m (.int .i64 0) wr) := ⟨0, rfl, Nat.zero_le _, by omega, GL.out⟩
      clear HG GL
      go_wp2_with fail
      clear ka0 ka1
      go_loopg [10] m (fun gk s10 wx => EqH w27 m gk s10 wx)
      case atStart => exact H1.out
      case round =>
        clear H1
        obtain ⟨j, rfl, hjn, hg, hG⟩ := hrel
        have GL := hid hG
        have HG := hid hg
        clear hG hg
        have k0 := (Pa.out.step GL.out).at (i := 0) rfl
        have k1 := (Pa.out.step GL.out).at (i := 1) rfl
        have k2 := (Pa.out.step GL.out).at (i := 2) rfl
        have k3 := (Pv.out.step GL.out).at (i := 2) rfl
        by_cases hlt2 : j < m
        case neg =>
          have hlt2' : ¬ (j : Int) < (m : Int) := by omega
          have HN1 : Hid (EqH w27 r (r - (i + 1)) (.int .i64 ((i + 1 : Nat) : Int)) wr) := ⟨i + 1, rfl, by omega, rfl, GL.out⟩
          clear GL HG
          go_wp2_with fail
          go_roundg (r - (i + 1))
          case rel => exact HN1.out
          case measure => exact HMM.out
        have hlt2' : (j : Int) < (m : Int) := by omega
        have hw2 := wrapI9 (i := j) (by omega)
        have hx1 : i * m + j < r * m := place_lt hlt hlt2
        have hx2 : j * r + i < m * r := place_lt hlt2 hlt
        obtain ⟨ax9, cx9, fx, hcx, -, ffx⟩ := Ma.out.zl.1.form9
        obtain ⟨ay9, cy9, fy, hcy, -, ffy⟩ := Mv.out.mx.zl.1.form9
        simp only [Value.slice.injEq] at fx fy
        obtain ⟨fx1, -, fx2⟩ := fx
        obtain ⟨fy1, -, fy2⟩ := fy
        subst fx1 fx2 fy1 fy2
        obtain ⟨b1, o1, rfl⟩ := ffx (fun e => by have h := Ma.out.len9; rw [e] at h; simp at h; omega)
        obtain ⟨b2, o2, rfl⟩ := ffy (fun e => by have h := Mv.out.mx.len9; rw [e] at h; simp at h; omega)
        obtain ⟨nf, xf, adf, qf, k4, k5, zf⟩ := (Ma.out.zl.1.now GL.out).at9 (i := i * m + j) (by rw [Ma.out.len9]; exact hx1)
        obtain ⟨ng, xg, adg, qg, k6, k7, zg⟩ := (Mv.out.mx.zl.1.now GL.out).at9 (i := j * r + i) (by rw [Mv.out.mx.len9]; exact hx2)
        rw [getD_at] at zf zg
        have EZ : Hid (xs.getD (i * m + j) 0 = zv.getD (j * r + i) 0) := by unfold Hid; rw [← Ev.out, turn_at hlt hlt2]
        have HS : Hid (∀ w', Below wr.heap.size wr w' → Calls Try.prog 17 #[.agg #[.bool nf, .slice adf xf.length qf], .agg #[.bool ng, .slice adg xg.length qg]] w' fun e w'' => e = .returned (.int .i64 0) ∧ Below w'.heap.size w' w'') := fun w' h => rcmp_same (zf.now h) (zg.now h) EZ.out (by omega) (by omega)
        have hm0 := wrapM9 (i := i) (c := m) (by omega) m64
        have hm1 := wrapM9 (i := j) (c := r) (by omega) r64
        have hb1 : i * m ≤ 64 * 64 := Nat.mul_le_mul (by omega) m64
        have hb2 : j * r ≤ 64 * 64 := Nat.mul_le_mul (by omega) r64
        rw [Ma.out.len9] at hcx
        rw [Mv.out.mx.len9] at hcy
        clear zf zg EZ ffx ffy
        generalize hlo1 : i * m = lo1 at *
        generalize hlo2 : j * r = lo2 at *
        obtain ⟨ix1, hix1⟩ : ∃ ix1, lo1 + j = ix1 := ⟨_, rfl⟩
        obtain ⟨ix2, hix2⟩ : ∃ ix2, lo2 + i = ix2 := ⟨_, rfl⟩
        rw [hix1] at k4 k5 hx1
        rw [hix2] at k6 k7 hx2
        have ha0 : IntKind.i64.wrap ((lo1 : Int) + (j : Int)) = (ix1 : Int) := by rw [wrap_is] <;> omega
        have ha1 : IntKind.i64.wrap ((lo2 : Int) + (i : Int)) = (ix2 : Int) := by rw [wrap_is] <;> omega
        have hm2' := hm0
        have hm3' := hm1
        have ha2 := ha0
        have ha3 := ha1
        rw [IntKind.wrap_i64] at hm2' hm3' ha2 ha3
        clear hlo1 hlo2 hix1 hix2 hb1 hb2
        generalize r * m = NA at *
        generalize m * r = NT at *
        have hn1 : (ix1 : Int) < (NA : Int) := by omega
        have hn2 : (ix2 : Int) < (NT : Int) := by omega
        go_wp2_with fail
        have KB : Hid (∀ w', Below wr.heap.size wr w' → w'.cell? ⟨w.heap.size, 0, none⟩ = some (.int .i64 (r : Int)) ∧ w'.cell? ⟨w.heap.size, 1, none⟩ = some (.int .i64 (m : Int)) ∧ w'.cell? ⟨w.heap.size, 2, none⟩ = some (.slice (some ⟨b1, o1, none⟩) NA qa) ∧ w'.cell? ⟨w17.heap.size, 2, none⟩ = some (.slice (some ⟨b2, o2, none⟩) NT qv) ∧ w'.cell? ⟨b1, o1 + ix1 * 2, none⟩ = some (.bool nf) ∧ w'.cell? ⟨b1, o1 + ix1 * 2 + 1, none⟩ = some (.slice adf xf.length qf) ∧ w'.cell? ⟨b2, o2 + ix2 * 2, none⟩ = some (.bool ng) ∧ w'.cell? ⟨b2, o2 + ix2 * 2 + 1, none⟩ = some (.slice adg xg.length qg)) := fun w' h => ⟨cnow h k0, cnow h k1, cnow h k2, cnow h k3, cnow h k4, cnow h k5, cnow h k6, cnow h k7⟩
        refine wp_region_tail (fun w' => w'.cell? ⟨w.heap.size, 0, none⟩ = some (.int .i64 (r : Int)) ∧ w'.cell? ⟨w.heap.size, 1, none⟩ = some (.int .i64 (m : Int)) ∧ w'.cell? ⟨w.heap.size, 2, none⟩ = some (.slice (some ⟨b1, o1, none⟩) NA qa) ∧ w'.cell? ⟨w17.heap.size, 2, none⟩ = some (.slice (some ⟨b2, o2, none⟩) NT qv) ∧ w'.cell? ⟨b1, o1 + ix1 * 2, none⟩ = some (.bool nf) ∧ w'.cell? ⟨b1, o1 + ix1 * 2 + 1, none⟩ = some (.slice adf xf.length qf) ∧ w'.cell? ⟨b2, o2 + ix2 * 2, none⟩ = some (.bool ng) ∧ w'.cell? ⟨b2, o2 + ix2 * 2 + 1, none⟩ = some (.slice adg xg.length qg)) 21 (by kernel_rfl) ?_
        obtain ⟨D61, hD⟩ : ∃ D61, wr.drew = D61 := ⟨_, rfl⟩
        have GB : Hid (Below wr.heap.size wr D61) := by unfold Hid; rw [← hD]; exact (Below.refl _ _).drew
        rw [hD]
        clear hD
        refine wpAnyT_take (i := 0) (oi := { dst := some 84, op := Op.fieldAddr 24 (Operand.tmp 2) 2, type := 0, pos := "plain.go:112", after := #[], guard := none }) (v := (.pointer (some ⟨w.heap.size, 2, none⟩))) rfl (by kernel_rfl) (fun _ _ _ h => h) (Or.inl ⟨by rfl, ?_⟩) (KB.out _ GB.out) ?_
        · intro w hSw
          (try dsimp only at hSw)
          go_simp
        simp only [Act.put, List.setIfInBounds_toArray, List.set_cons_zero, List.set_cons_succ]
        refine wpAnyT_take (i := 1) (oi := { dst := some 85, op := Op.load 22 (Operand.tmp 84), type := 22, pos := "plain.go:112", after := #[{ on := 0, ground := Ground.data }], guard := none }) (v := (.slice (some ⟨b1, o1, none⟩) NA qa)) rfl (by kernel_rfl) (fun _ _ _ h => h) (Or.inl ⟨by rfl, ?_⟩) (KB.out _ GB.out) ?_
        · intro w hSw
          (try dsimp only at hSw)
          go_simp
        simp only [Act.put, List.setIfInBounds_toArray, List.set_cons_zero, List.set_cons_succ]
        refine wpAnyT_take (i := 2) (oi := { dst := some 86, op := Op.move (Operand.tmp 9), type := 3, pos := "plain.go:112", after := #[], guard := none }) (v := (.int .i64 (i : Int))) rfl (by kernel_rfl) (fun _ _ _ h => h) (Or.inl ⟨by rfl, ?_⟩) (KB.out _ GB.out) ?_
        · intro w hSw
          (try dsimp only at hSw)
          go_simp
        simp only [Act.put, List.setIfInBounds_toArray, List.set_cons_zero, List.set_cons_succ]
        refine wpAnyT_take (i := 3) (oi := { dst := some 87, op := Op.fieldAddr 24 (Operand.tmp 2) 1, type := 0, pos := "plain.go:112", after := #[], guard := none }) (v := (.pointer (some ⟨w.heap.size, 1, none⟩))) rfl (by kernel_rfl) (fun _ _ _ h => h) (Or.inl ⟨by rfl, ?_⟩) (KB.out _ GB.out) ?_
        · intro w hSw
          (try dsimp only at hSw)
          go_simp
        simp only [Act.put, List.setIfInBounds_toArray, List.set_cons_zero, List.set_cons_succ]
        refine wpAnyT_take (i := 4) (oi := { dst := some 88, op := Op.load 3 (Operand.tmp 87), type := 3, pos := "plain.go:112", after := #[{ on := 3, ground := Ground.data }], guard := none }) (v := (.int .i64 (m : Int))) rfl (by kernel_rfl) (fun _ _ _ h => h) (Or.inl ⟨by rfl, ?_⟩) (KB.out _ GB.out) ?_
        · intro w hSw
          (try dsimp only at hSw)
          go_simp
        simp only [Act.put, List.setIfInBounds_toArray, List.set_cons_zero, List.set_cons_succ]
        refine wpAnyT_take (i := 5) (oi := { dst := some 89, op := Op.binOp BinOp.mul 3 (Operand.tmp 86) (Operand.tmp 88) 3, type := 3, pos := "plain.go:112", after := #[{ on := 2, ground := Ground.data }, { on := 4, ground := Ground.data }], guard := none }) (v := (.int .i64 (lo1 : Int))) rfl (by kernel_rfl) (fun _ _ _ h => h) (Or.inl ⟨by rfl, ?_⟩) (KB.out _ GB.out) ?_
        · intro w hSw
          (try dsimp only at hSw)
          go_simp
        simp only [Act.put, List.setIfInBounds_toArray, List.set_cons_zero, List.set_cons_succ]
        refine wpAnyT_take (i := 6) (oi := { dst := some 90, op := Op.move (Operand.tmp 10), type := 3, pos := "plain.go:112", after := #[], guard := none }) (v := (.int .i64 (j : Int))) rfl (by kernel_rfl) (fun _ _ _ h => h) (Or.inl ⟨by rfl, ?_⟩) (KB.out _ GB.out) ?_
        · intro w hSw
          (try dsimp only at hSw)
          go_simp
        simp only [Act.put, List.setIfInBounds_toArray, List.set_cons_zero, List.set_cons_succ]
        refine wpAnyT_take (i := 7) (oi := { dst := some 91, op := Op.binOp BinOp.add 3 (Operand.tmp 89) (Operand.tmp 90) 3, type := 3, pos := "plain.go:112", after := #[{ on := 5, ground := Ground.data }, { on := 6, ground := Ground.data }], guard := none }) (v := (.int .i64 (ix1 : Int))) rfl (by kernel_rfl) (fun _ _ _ h => h) (Or.inl ⟨by rfl, ?_⟩) (KB.out _ GB.out) ?_
        · intro w hSw
          (try dsimp only at hSw)
          go_simp
        simp only [Act.put, List.setIfInBounds_toArray, List.set_cons_zero, List.set_cons_succ]
        refine wpAnyT_take (i := 8) (oi := { dst := some 92, op := Op.indexAddr 22 (Operand.tmp 85) (Operand.tmp 91), type := 0, pos := "plain.go:112", after := #[{ on := 1, ground := Ground.data }, { on := 7, ground := Ground.data }], guard := none }) (v := (.pointer (some ⟨b1, o1 + ix1 * 2, none⟩))) rfl (by kernel_rfl) (fun _ _ _ h => h) (Or.inl ⟨by rfl, ?_⟩) (KB.out _ GB.out) ?_
        · intro w hSw
          (try dsimp only at hSw)
          go_simp
        simp only [Act.put, List.setIfInBounds_toArray, List.set_cons_zero, List.set_cons_succ]
        refine wpAnyT_take (i := 9) (oi := { dst := some 93, op := Op.load 37 (Operand.tmp 92), type := 37, pos := "plain.go:112", after := #[{ on := 8, ground := Ground.data }], guard := none }) (v := (.agg #[.bool nf, .slice adf xf.length qf])) rfl (by kernel_rfl) (fun _ _ _ h => h) (Or.inl ⟨by rfl, ?_⟩) (KB.out _ GB.out) ?_
        · intro w hSw
          (try dsimp only at hSw)
          go_simp
        simp only [Act.put, List.setIfInBounds_toArray, List.set_cons_zero, List.set_cons_succ]
        refine wpAnyT_take (i := 10) (oi := { dst := some 94, op := Op.fieldAddr 24 (Operand.tmp 5) 2, type := 0, pos := "plain.go:112", after := #[], guard := none }) (v := (.pointer (some ⟨w17.heap.size, 2, none⟩))) rfl (by kernel_rfl) (fun _ _ _ h => h) (Or.inl ⟨by rfl, ?_⟩) (KB.out _ GB.out) ?_
        · intro w hSw
          (try dsimp only at hSw)
          go_simp
        simp only [Act.put, List.setIfInBounds_toArray, List.set_cons_zero, List.set_cons_succ]
        refine wpAnyT_take (i := 11) (oi := { dst := some 95, op := Op.load 22 (Operand.tmp 94), type := 22, pos := "plain.go:112", after := #[{ on := 10, ground := Ground.data }], guard := none }) (v := (.slice (some ⟨b2, o2, none⟩) NT qv)) rfl (by kernel_rfl) (fun _ _ _ h => h) (Or.inl ⟨by rfl, ?_⟩) (KB.out _ GB.out) ?_
        · intro w hSw
          (try dsimp only at hSw)
          go_simp
        simp only [Act.put, List.setIfInBounds_toArray, List.set_cons_zero, List.set_cons_succ]
        refine wpAnyT_take (i := 12) (oi := { dst := some 96, op := Op.move (Operand.tmp 10), type := 3, pos := "plain.go:112", after := #[], guard := none }) (v := (.int .i64 (j : Int))) rfl (by kernel_rfl) (fun _ _ _ h => h) (Or.inl ⟨by rfl, ?_⟩) (KB.out _ GB.out) ?_
        · intro w hSw
          (try dsimp only at hSw)
          go_simp
        simp only [Act.put, List.setIfInBounds_toArray, List.set_cons_zero, List.set_cons_succ]
        refine wpAnyT_take (i := 13) (oi := { dst := some 97, op := Op.fieldAddr 24 (Operand.tmp 2) 0, type := 0, pos := "plain.go:112", after := #[], guard := none }) (v := (.pointer (some ⟨w.heap.size, 0, none⟩))) rfl (by kernel_rfl) (fun _ _ _ h => h) (Or.inl ⟨by rfl, ?_⟩) (KB.out _ GB.out) ?_
        · intro w hSw
          (try dsimp only at hSw)
          go_simp
        simp only [Act.put, List.setIfInBounds_toArray, List.set_cons_zero, List.set_cons_succ]
        refine wpAnyT_take (i := 14) (oi := { dst := some 98, op := Op.load 3 (Operand.tmp 97), type := 3, pos := "plain.go:112", after := #[{ on := 13, ground := Ground.data }], guard := none }) (v := (.int .i64 (r : Int))) rfl (by kernel_rfl) (fun _ _ _ h => h) (Or.inl ⟨by rfl, ?_⟩) (KB.out _ GB.out) ?_
        · intro w hSw
          (try dsimp only at hSw)
          go_simp
        simp only [Act.put, List.setIfInBounds_toArray, List.set_cons_zero, List.set_cons_succ]
        refine wpAnyT_take (i := 15) (oi := { dst := some 99, op := Op.binOp BinOp.mul 3 (Operand.tmp 96) (Operand.tmp 98) 3, type := 3, pos := "plain.go:112", after := #[{ on := 12, ground := Ground.data }, { on := 14, ground := Ground.data }], guard := none }) (v := (.int .i64 (lo2 : Int))) rfl (by kernel_rfl) (fun _ _ _ h => h) (Or.inl ⟨by rfl, ?_⟩) (KB.out _ GB.out) ?_
        · intro w hSw
          (try dsimp only at hSw)
          go_simp
        simp only [Act.put, List.setIfInBounds_toArray, List.set_cons_zero, List.set_cons_succ]
        refine wpAnyT_take (i := 16) (oi := { dst := some 100, op := Op.move (Operand.tmp 9), type := 3, pos := "plain.go:112", after := #[], guard := none }) (v := (.int .i64 (i : Int))) rfl (by kernel_rfl) (fun _ _ _ h => h) (Or.inl ⟨by rfl, ?_⟩) (KB.out _ GB.out) ?_
        · intro w hSw
          (try dsimp only at hSw)
          go_simp
        simp only [Act.put, List.setIfInBounds_toArray, List.set_cons_zero, List.set_cons_succ]
        refine wpAnyT_take (i := 17) (oi := { dst := some 101, op := Op.binOp BinOp.add 3 (Operand.tmp 99) (Operand.tmp 100) 3, type := 3, pos := "plain.go:112", after := #[{ on := 15, ground := Ground.data }, { on := 16, ground := Ground.data }], guard := none }) (v := (.int .i64 (ix2 : Int))) rfl (by kernel_rfl) (fun _ _ _ h => h) (Or.inl ⟨by rfl, ?_⟩) (KB.out _ GB.out) ?_
        · intro w hSw
          (try dsimp only at hSw)
          go_simp
        simp only [Act.put, List.setIfInBounds_toArray, List.set_cons_zero, List.set_cons_succ]
        refine wpAnyT_take (i := 18) (oi := { dst := some 102, op := Op.indexAddr 22 (Operand.tmp 95) (Operand.tmp 101), type := 0, pos := "plain.go:112", after := #[{ on := 11, ground := Ground.data }, { on := 17, ground := Ground.data }], guard := none }) (v := (.pointer (some ⟨b2, o2 + ix2 * 2, none⟩))) rfl (by kernel_rfl) (fun _ _ _ h => h) (Or.inl ⟨by rfl, ?_⟩) (KB.out _ GB.out) ?_
        · intro w hSw
          (try dsimp only at hSw)
          go_simp
        simp only [Act.put, List.setIfInBounds_toArray, List.set_cons_zero, List.set_cons_succ]
        refine wpAnyT_take (i := 19) (oi := { dst := some 103, op := Op.load 37 (Operand.tmp 102), type := 37, pos := "plain.go:112", after := #[{ on := 18, ground := Ground.data }], guard := none }) (v := (.agg #[.bool ng, .slice adg xg.length qg])) rfl (by kernel_rfl) (fun _ _ _ h => h) (Or.inl ⟨by rfl, ?_⟩) (KB.out _ GB.out) ?_
        · intro w hSw
          (try dsimp only at hSw)
          go_simp
        simp only [Act.put, List.setIfInBounds_toArray, List.set_cons_zero, List.set_cons_succ]
        refine wpAnyT_one (i := 20) (o := { dst := some 104, op := Op.call { callee := Callee.value (Operand.func 17), args := #[Operand.tmp 93, Operand.tmp 103], argTypes := #[37, 37] }, type := 3, pos := "plain.go:112", after := #[{ on := 9, ground := Ground.data }, { on := 19, ground := Ground.data }], guard := none }) (by kernel_rfl) rfl (fun K hK => ?_)
        go_simp
        go_at_call 17
        refine (HS.out _ GB.out).mono ?_
        rintro e w62 ⟨rfl, b⟩
        have lz62 := (show Below _ _ _ from b).size
        replace GB := hid (below_step GB.out b)
        have G1 := hid (below_step GL.out GB.out)
        clear b
        refine hK.out _ _ (fun _ => KB.out _ GB.out) ?_
        clear hK
        refine wpAnyT_one (i := 21) (o := { dst := some 11, op := Op.assign (Operand.tmp 104), type := 3, pos := "plain.go:112", after := #[{ on := 20, ground := Ground.data }, { on := 20, ground := Ground.chain }, { on := 0, ground := Ground.phase }, { on := 1, ground := Ground.phase }, { on := 2, ground := Ground.phase }, { on := 3, ground := Ground.phase }, { on := 4, ground := Ground.phase }, { on := 5, ground := Ground.phase }, { on := 6, ground := Ground.phase }, { on := 7, ground := Ground.phase }, { on := 8, ground := Ground.phase }, { on := 9, ground := Ground.phase }, { on := 10, ground := Ground.phase }, { on := 11, ground := Ground.phase }, { on := 12, ground := Ground.phase }, { on := 13, ground := Ground.phase }, { on := 14, ground := Ground.phase }, { on := 15, ground := Ground.phase }, { on := 16, ground := Ground.phase }, { on := 17, ground := Ground.phase }, { on := 18, ground := Ground.phase }, { on := 19, ground := Ground.phase }, { on := 20, ground := Ground.phase }], guard := none }) (by kernel_rfl) rfl (fun K hK => ?_)
        go_simp
        refine hK.out _ _ (fun h => absurd h (by decide)) ?_
        clear hK
        try simp only [Act.put]
        refine wpAnyT_done (by kernel_rfl) ?_ _
        have HN1 : Hid (EqH w27 m (m - (j + 1)) (.int .i64 ((j + 1 : Nat) : Int)) w62) := ⟨j + 1, rfl, by omega, rfl, G1.out⟩
        have HM2 : Hid (m - (j + 1) < gk) := by unfold Hid; rw [HG.out]; omega
        clear HS GL HG G1 GB KB
        go_wp2_with fail
        go_roundg (m - (j + 1))
        case rel => exact HN1.out
        case measure => exact HM2.out
    have hlt' : ¬ (i : Int) < (r : Int) := by omega
    obtain ⟨W8, hW8⟩ : ∃ W8, wr = W8 := ⟨_, rfl⟩
    clear HG hin hlt
    have ka0' := ka0
    have bL := GL.out
    replace Ma := hid (Ma.out.now bL)
    replace Mb := hid (Mb.out.now bL)
    replace Mv := hid (Mv.out.now bL)
    replace Pa := hid (Pa.out.step bL)
    replace Pb := hid (Pb.out.step bL)
    replace Pv := hid (Pv.out.step bL)
    replace G := hid (below_step G.out bL)
    have lz29 := (show Below _ _ _ from bL).size
    clear bL GL hW8 W8 ka0'
    have ca0 := Pa.out.at (i := 0) rfl
    have ca1 := Pa.out.at (i := 1) rfl
    have ca2 := Pa.out.at (i := 2) rfl
    have cb0 := Pb.out.at (i := 0) rfl
    have cb1 := Pb.out.at (i := 1) rfl
    have cb2 := Pb.out.at (i := 2) rfl
    go_wp2_with fail
    clear ca0 ca1 ca2 cb0 cb1 cb2
    clear ka0 ka1
    by_cases hm2 : m = m2
    case neg =>
      have q0 : ((m : Int) != (m2 : Int)) = true := by simp; omega
      refine (mul_no Ma.out Mb.out hm2).mono ?_
      rintro e w30 ⟨rfl, b⟩
      replace Ma := hid (Ma.out.now b)
      replace Mb := hid (Mb.out.now b)
      replace Mv := hid (Mv.out.now b)
      replace Pa := hid (Pa.out.step b)
      replace Pb := hid (Pb.out.step b)
      replace Pv := hid (Pv.out.step b)
      replace G := hid (below_step G.out b)
      have lz31 := (show Below _ _ _ from b).size
      clear b hm2
      obtain ⟨V32, hV⟩ : ∃ V32, w30.alloc mbox = V32 := ⟨_, rfl⟩
      obtain ⟨b, sz32⟩ := alo1 w30 mbox
      rw [hV] at b sz32
      replace Ma := hid (Ma.out.now b)
      replace Mb := hid (Mb.out.now b)
      replace Mv := hid (Mv.out.now b)
      replace Pa := hid (Pa.out.step b)
      replace Pb := hid (Pb.out.step b)
      replace Pv := hid (Pv.out.step b)
      replace G := hid (below_step G.out b)
      have lz33 := (show Below _ _ _ from b).size
      have Pp : Hid (Cel V32 w30.heap.size 24 ([.int .i64 0, .int .i64 0, .slice none 0 0])) := by unfold Hid; rw [← hV]; exact Cel.new w30 _ _
      clear b
      have ca0 := Pa.out.at (i := 0) rfl
      have ca1 := Pa.out.at (i := 1) rfl
      have ca2 := Pa.out.at (i := 2) rfl
      have cb0 := Pb.out.at (i := 0) rfl
      have cb1 := Pb.out.at (i := 1) rfl
      have cb2 := Pb.out.at (i := 2) rfl
      rw [← hV] at ca0 ca1 ca2 cb0 cb1 cb2
      have EV := hid hV
      clear hV
      go_wp2
      go_ret
      rw [EV.out]
      exact ⟨rfl, G.out⟩
    subst hm2
    refine (mul_yes Ma.out Mb.out (by omega)).mono ?_
    rintro e w34 ⟨v, rfl, hm, b⟩
    obtain ⟨ap, qp, rfl, -, -⟩ := hm.mx.form
    replace Ma := hid (Ma.out.now b)
    replace Mb := hid (Mb.out.now b)
    replace Mv := hid (Mv.out.now b)
    replace Pa := hid (Pa.out.step b)
    replace Pb := hid (Pb.out.step b)
    replace Pv := hid (Pv.out.step b)
    replace G := hid (below_step G.out b)
    have lz35 := (show Below _ _ _ from b).size
    obtain ⟨zp, hz⟩ : ∃ zp, prodL r m c xs ys = zp := ⟨_, rfl⟩
    rw [hz] at hm
    have Ep := hid hz
    have Mp := hid hm
    clear hm hz b
    obtain ⟨V36, hV⟩ : ∃ V36, w34.alloc (matO r c (.slice ap (r * c) qp)) = V36 := ⟨_, rfl⟩
    obtain ⟨b, sz36⟩ := alo1 w34 (matO r c (.slice ap (r * c) qp))
    rw [hV] at b sz36
    replace Ma := hid (Ma.out.now b)
    replace Mb := hid (Mb.out.now b)
    replace Mv := hid (Mv.out.now b)
    replace Mp := hid (Mp.out.now b)
    replace Pa := hid (Pa.out.step b)
    replace Pb := hid (Pb.out.step b)
    replace Pv := hid (Pv.out.step b)
    replace G := hid (below_step G.out b)
    have lz37 := (show Below _ _ _ from b).size
    have Pp : Hid (Cel V36 w34.heap.size 24 (matc r c (.slice ap (r * c) qp))) := by unfold Hid; rw [← hV]; exact Cel.new w34 _ _
    clear b
    have ca0 := Pa.out.at (i := 0) rfl
    have ca1 := Pa.out.at (i := 1) rfl
    have ca2 := Pa.out.at (i := 2) rfl
    have cb0 := Pb.out.at (i := 0) rfl
    have cb1 := Pb.out.at (i := 1) rfl
    have cb2 := Pb.out.at (i := 2) rfl
    rw [← hV] at ca0 ca1 ca2 cb0 cb1 cb2
    have EV := hid hV
    clear hV
    go_wp2_with fail
    rw [EV.out]
    clear EV
    clear ca0 ca1 ca2 cb0 cb1 cb2
    refine (turn_yes Mb.out).mono ?_
    rintro e w38 ⟨v, rfl, hm, b⟩
    obtain ⟨an, qn, rfl, -, -⟩ := hm.mx.form
    replace Ma := hid (Ma.out.now b)
    replace Mb := hid (Mb.out.now b)
    replace Mv := hid (Mv.out.now b)
    replace Mp := hid (Mp.out.now b)
    replace Pa := hid (Pa.out.step b)
    replace Pb := hid (Pb.out.step b)
    replace Pv := hid (Pv.out.step b)
    replace Pp := hid (Pp.out.step b)
    replace G := hid (below_step G.out b)
    have lz39 := (show Below _ _ _ from b).size
    obtain ⟨zn, hz⟩ : ∃ zn, turnL9 m c ys = zn := ⟨_, rfl⟩
    rw [hz] at hm
    have En := hid hz
    have Mn := hid hm
    clear hm hz b
    obtain ⟨V40, hV⟩ : ∃ V40, w38.alloc (matO c m (.slice an (c * m) qn)) = V40 := ⟨_, rfl⟩
    obtain ⟨b, sz40⟩ := alo1 w38 (matO c m (.slice an (c * m) qn))
    rw [hV] at b sz40
    replace Ma := hid (Ma.out.now b)
    replace Mb := hid (Mb.out.now b)
    replace Mv := hid (Mv.out.now b)
    replace Mp := hid (Mp.out.now b)
    replace Mn := hid (Mn.out.now b)
    replace Pa := hid (Pa.out.step b)
    replace Pb := hid (Pb.out.step b)
    replace Pv := hid (Pv.out.step b)
    replace Pp := hid (Pp.out.step b)
    replace G := hid (below_step G.out b)
    have lz41 := (show Below _ _ _ from b).size
    have Pn : Hid (Cel V40 w38.heap.size 24 (matc c m (.slice an (c * m) qn))) := by unfold Hid; rw [← hV]; exact Cel.new w38 _ _
    clear b
    have cn0 := Pn.out.at (i := 0) rfl
    have cn1 := Pn.out.at (i := 1) rfl
    have cn2 := Pn.out.at (i := 2) rfl
    have cv0 := Pv.out.at (i := 0) rfl
    have cv1 := Pv.out.at (i := 1) rfl
    have cv2 := Pv.out.at (i := 2) rfl
    rw [← hV] at cn0 cn1 cn2 cv0 cv1 cv2
    have EV := hid hV
    clear hV
    go_wp2_with fail
    rw [EV.out]
    clear EV
    clear cn0 cn1 cn2 cv0 cv1 cv2
    refine (mul_yes Mn.out.mx Mv.out.mx (by omega)).mono ?_
    rintro e w42 ⟨v, rfl, hm, b⟩
    obtain ⟨aq, qq, rfl, -, -⟩ := hm.mx.form
    replace Ma := hid (Ma.out.now b)
    replace Mb := hid (Mb.out.now b)
    replace Mv := hid (Mv.out.now b)
    replace Mp := hid (Mp.out.now b)
    replace Mn := hid (Mn.out.now b)
    replace Pa := hid (Pa.out.step b)
    replace Pb := hid (Pb.out.step b)
    replace Pv := hid (Pv.out.step b)
    replace Pp := hid (Pp.out.step b)
    replace Pn := hid (Pn.out.step b)
    replace G := hid (below_step G.out b)
    have lz43 := (show Below _ _ _ from b).size
    obtain ⟨zq, hz⟩ : ∃ zq, prodL c m r zn zv = zq := ⟨_, rfl⟩
    rw [hz] at hm
    have Eq := hid hz
    have Mq := hid hm
    clear hm hz b
    obtain ⟨V44, hV⟩ : ∃ V44, w42.alloc (matO c r (.slice aq (c * r) qq)) = V44 := ⟨_, rfl⟩
    obtain ⟨b, sz44⟩ := alo1 w42 (matO c r (.slice aq (c * r) qq))
    rw [hV] at b sz44
    replace Ma := hid (Ma.out.now b)
    replace Mb := hid (Mb.out.now b)
    replace Mv := hid (Mv.out.now b)
    replace Mp := hid (Mp.out.now b)
    replace Mn := hid (Mn.out.now b)
    replace Mq := hid (Mq.out.now b)
    replace Pa := hid (Pa.out.step b)
    replace Pb := hid (Pb.out.step b)
    replace Pv := hid (Pv.out.step b)
    replace Pp := hid (Pp.out.step b)
    replace Pn := hid (Pn.out.step b)
    replace G := hid (below_step G.out b)
    have lz45 := (show Below _ _ _ from b).size
    have Pq : Hid (Cel V44 w42.heap.size 24 (matc c r (.slice aq (c * r) qq))) := by unfold Hid; rw [← hV]; exact Cel.new w42 _ _
    clear b
    have cp0 := Pp.out.at (i := 0) rfl
    have cp1 := Pp.out.at (i := 1) rfl
    have cp2 := Pp.out.at (i := 2) rfl
    rw [← hV] at cp0 cp1 cp2
    have EV := hid hV
    clear hV
    go_wp2_with fail
    rw [EV.out]
    clear EV
    clear cp0 cp1 cp2
    refine (turn_yes Mp.out.mx).mono ?_
    rintro e w46 ⟨v, rfl, hm, b⟩
    obtain ⟨ay, qy, rfl, -, -⟩ := hm.mx.form
    replace Ma := hid (Ma.out.now b)
    replace Mb := hid (Mb.out.now b)
    replace Mv := hid (Mv.out.now b)
    replace Mp := hid (Mp.out.now b)
    replace Mn := hid (Mn.out.now b)
    replace Mq := hid (Mq.out.now b)
    replace Pa := hid (Pa.out.step b)
    replace Pb := hid (Pb.out.step b)
    replace Pv := hid (Pv.out.step b)
    replace Pp := hid (Pp.out.step b)
    replace Pn := hid (Pn.out.step b)
    replace Pq := hid (Pq.out.step b)
    replace G := hid (below_step G.out b)
    have lz47 := (show Below _ _ _ from b).size
    obtain ⟨zy, hz⟩ : ∃ zy, turnL9 r c zp = zy := ⟨_, rfl⟩
    rw [hz] at hm
    have Ey := hid hz
    have My := hid hm
    clear hm hz b
    obtain ⟨V48, hV⟩ : ∃ V48, w46.alloc (matO c r (.slice ay (c * r) qy)) = V48 := ⟨_, rfl⟩
    obtain ⟨b, sz48⟩ := alo1 w46 (matO c r (.slice ay (c * r) qy))
    rw [hV] at b sz48
    replace Ma := hid (Ma.out.now b)
    replace Mb := hid (Mb.out.now b)
    replace Mv := hid (Mv.out.now b)
    replace Mp := hid (Mp.out.now b)
    replace Mn := hid (Mn.out.now b)
    replace Mq := hid (Mq.out.now b)
    replace My := hid (My.out.now b)
    replace Pa := hid (Pa.out.step b)
    replace Pb := hid (Pb.out.step b)
    replace Pv := hid (Pv.out.step b)
    replace Pp := hid (Pp.out.step b)
    replace Pn := hid (Pn.out.step b)
    replace Pq := hid (Pq.out.step b)
    replace G := hid (below_step G.out b)
    have lz49 := (show Below _ _ _ from b).size
    have Py : Hid (Cel V48 w46.heap.size 24 (matc c r (.slice ay (c * r) qy))) := by unfold Hid; rw [← hV]; exact Cel.new w46 _ _
    clear b
    have cq0 := Pq.out.at (i := 0) rfl
    have cq1 := Pq.out.at (i := 1) rfl
    have cq2 := Pq.out.at (i := 2) rfl
    have cy0 := Py.out.at (i := 0) rfl
    have cy1 := Py.out.at (i := 1) rfl
    have cy2 := Py.out.at (i := 2) rfl
    rw [← hV] at cq0 cq1 cq2 cy0 cy1 cy2
    have EV := hid hV
    clear hV
    go_wp2_with fail
    rw [EV.out]
    clear EV
    clear cq0 cq1 cq2 cy0 cy1 cy2
    have EQ2 : Hid (zq = zy) := by unfold Hid; rw [← Eq.out, ← Ey.out, ← En.out, ← Ev.out, ← Ep.out, turn_prod Ma.out.len9]
    refine (alikeMats9_yes Mq.out My.out EQ2.out).mono ?_
    rintro e w50 ⟨rfl, b⟩
    replace Ma := hid (Ma.out.now b)
    replace Mb := hid (Mb.out.now b)
    replace Mv := hid (Mv.out.now b)
    replace Mp := hid (Mp.out.now b)
    replace Mn := hid (Mn.out.now b)
    replace Mq := hid (Mq.out.now b)
    replace My := hid (My.out.now b)
    replace Pa := hid (Pa.out.step b)
    replace Pb := hid (Pb.out.step b)
    replace Pv := hid (Pv.out.step b)
    replace Pp := hid (Pp.out.step b)
    replace Pn := hid (Pn.out.step b)
    replace Pq := hid (Pq.out.step b)
    replace Py := hid (Py.out.step b)
    replace G := hid (below_step G.out b)
    have lz51 := (show Below _ _ _ from b).size
    clear b
    clear EQ2 Eq Ey En Ev
    clear Mn
    clear Mq
    clear My
    clear Mv
    clear Pn
    clear Pq
    clear Py
    clear Pv
    have cp0 := Pp.out.at (i := 0) rfl
    have cp1 := Pp.out.at (i := 1) rfl
    have cp2 := Pp.out.at (i := 2) rfl
    go_wp2_with fail
    clear cp0 cp1 cp2
    by_cases hrc : r = c
    case neg =>
      have q0 : ((r : Int) != (c : Int)) = true := by simp; omega
      refine (trace_no Mp.out.mx hrc).mono ?_
      rintro e w52 ⟨rfl, b⟩
      replace Ma := hid (Ma.out.now b)
      replace Mb := hid (Mb.out.now b)
      replace Mp := hid (Mp.out.now b)
      replace Pa := hid (Pa.out.step b)
      replace Pb := hid (Pb.out.step b)
      replace Pp := hid (Pp.out.step b)
      replace G := hid (below_step G.out b)
      have lz53 := (show Below _ _ _ from b).size
      clear b hrc
      obtain ⟨V54, hV⟩ : ∃ V54, w52.alloc (duo (.bool false) (.slice none 0 0)) = V54 := ⟨_, rfl⟩
      obtain ⟨b, sz54⟩ := alo1 w52 (duo (.bool false) (.slice none 0 0))
      rw [hV] at b sz54
      replace Ma := hid (Ma.out.now b)
      replace Mb := hid (Mb.out.now b)
      replace Mp := hid (Mp.out.now b)
      replace Pa := hid (Pa.out.step b)
      replace Pb := hid (Pb.out.step b)
      replace Pp := hid (Pp.out.step b)
      replace G := hid (below_step G.out b)
      have lz55 := (show Below _ _ _ from b).size
      have Dx : Hid (Duo V54 w52.heap.size (.bool false) (.slice none 0 0)) := by unfold Hid; rw [← hV]; exact Duo.new w52 _ _
      clear b
      have dx0 := Dx.out.c0
      have dx1 := Dx.out.c1
      rw [← hV] at dx0 dx1
      have ca0 := Pa.out.at (i := 0) rfl
      have ca1 := Pa.out.at (i := 1) rfl
      have ca2 := Pa.out.at (i := 2) rfl
      have cb0 := Pb.out.at (i := 0) rfl
      have cb1 := Pb.out.at (i := 1) rfl
      have cb2 := Pb.out.at (i := 2) rfl
      rw [← hV] at ca0 ca1 ca2 cb0 cb1 cb2
      have EV := hid hV
      clear hV
      go_wp2_with fail
      rw [EV.out]
      clear EV
      clear ca0 ca1 ca2 cb0 cb1 cb2
      clear dx0 dx1
      refine (alike9_yes (zc_zero9 V54) (zc_zero9 V54) rfl).mono ?_
      rintro e w56 ⟨rfl, b⟩
      replace Ma := hid (Ma.out.now b)
      replace Mb := hid (Mb.out.now b)
      replace Mp := hid (Mp.out.now b)
      replace Pa := hid (Pa.out.step b)
      replace Pb := hid (Pb.out.step b)
      replace Pp := hid (Pp.out.step b)
      replace Dx := hid (Dx.out.step b)
      replace G := hid (below_step G.out b)
      have lz57 := (show Below _ _ _ from b).size
      clear b
      go_wp2
      go_ret
      exact ⟨rfl, G.out⟩
    subst hrc
    refine (trace_yes Mp.out.mx (by omega)).mono ?_
    rintro e w58 ⟨vx, rfl, mx, b⟩
    obtain ⟨nx, wx, ax, cx, rfl⟩ := mx.parts
    replace Ma := hid (Ma.out.now b)
    replace Mb := hid (Mb.out.now b)
    replace Mp := hid (Mp.out.now b)
    replace Pa := hid (Pa.out.step b)
    replace Pb := hid (Pb.out.step b)
    replace Pp := hid (Pp.out.step b)
    replace G := hid (below_step G.out b)
    have lz59 := (show Below _ _ _ from b).size
    have Zx := hid mx.zc
    clear b mx
    obtain ⟨V60, hV⟩ : ∃ V60, w58.alloc (duo (.bool nx) (.slice ax wx.length cx)) = V60 := ⟨_, rfl⟩
    obtain ⟨b, sz60⟩ := alo1 w58 (duo (.bool nx) (.slice ax wx.length cx))
    rw [hV] at b sz60
    replace Ma := hid (Ma.out.now b)
    replace Mb := hid (Mb.out.now b)
    replace Mp := hid (Mp.out.now b)
    replace Pa := hid (Pa.out.step b)
    replace Pb := hid (Pb.out.step b)
    replace Pp := hid (Pp.out.step b)
    replace Zx := hid (Zx.out.now b)
    replace G := hid (below_step G.out b)
    have lz61 := (show Below _ _ _ from b).size
    have Dx : Hid (Duo V60 w58.heap.size (.bool nx) (.slice ax wx.length cx)) := by unfold Hid; rw [← hV]; exact Duo.new w58 _ _
    clear b
    have ca0 := Pa.out.at (i := 0) rfl
    have ca1 := Pa.out.at (i := 1) rfl
    have ca2 := Pa.out.at (i := 2) rfl
    have cb0 := Pb.out.at (i := 0) rfl
    have cb1 := Pb.out.at (i := 1) rfl
    have cb2 := Pb.out.at (i := 2) rfl
    rw [← hV] at ca0 ca1 ca2 cb0 cb1 cb2
    have EV := hid hV
    clear hV
    go_wp2_with fail
    rw [EV.out]
    clear EV
    clear ca0 ca1 ca2 cb0 cb1 cb2
    refine (mul_yes Mb.out Ma.out (by omega)).mono ?_
    rintro e w62 ⟨v, rfl, hm, b⟩
    obtain ⟨ao, qo, rfl, -, -⟩ := hm.mx.form
    replace Ma := hid (Ma.out.now b)
    replace Mb := hid (Mb.out.now b)
    replace Mp := hid (Mp.out.now b)
    replace Pa := hid (Pa.out.step b)
    replace Pb := hid (Pb.out.step b)
    replace Pp := hid (Pp.out.step b)
    replace Dx := hid (Dx.out.step b)
    replace Zx := hid (Zx.out.now b)
    replace G := hid (below_step G.out b)
    have lz63 := (show Below _ _ _ from b).size
    obtain ⟨zo, hz⟩ : ∃ zo, prodL m r m ys xs = zo := ⟨_, rfl⟩
    rw [hz] at hm
    have Eo := hid hz
    have Mo := hid hm
    clear hm hz b
    obtain ⟨V64, hV⟩ : ∃ V64, w62.alloc (matO m m (.slice ao (m * m) qo)) = V64 := ⟨_, rfl⟩
    obtain ⟨b, sz64⟩ := alo1 w62 (matO m m (.slice ao (m * m) qo))
    rw [hV] at b sz64
    replace Ma := hid (Ma.out.now b)
    replace Mb := hid (Mb.out.now b)
    replace Mp := hid (Mp.out.now b)
    replace Mo := hid (Mo.out.now b)
    replace Pa := hid (Pa.out.step b)
    replace Pb := hid (Pb.out.step b)
    replace Pp := hid (Pp.out.step b)
    replace Dx := hid (Dx.out.step b)
    replace Zx := hid (Zx.out.now b)
    replace G := hid (below_step G.out b)
    have lz65 := (show Below _ _ _ from b).size
    have Po : Hid (Cel V64 w62.heap.size 24 (matc m m (.slice ao (m * m) qo))) := by unfold Hid; rw [← hV]; exact Cel.new w62 _ _
    clear b
    have co0 := Po.out.at (i := 0) rfl
    have co1 := Po.out.at (i := 1) rfl
    have co2 := Po.out.at (i := 2) rfl
    rw [← hV] at co0 co1 co2
    have EV := hid hV
    clear hV
    go_wp2_with fail
    rw [EV.out]
    clear EV
    clear co0 co1 co2
    refine (trace_yes Mo.out.mx (by omega)).mono ?_
    rintro e w66 ⟨vy, rfl, my, b⟩
    obtain ⟨ny, wy, ay, cy, rfl⟩ := my.parts
    replace Ma := hid (Ma.out.now b)
    replace Mb := hid (Mb.out.now b)
    replace Mp := hid (Mp.out.now b)
    replace Mo := hid (Mo.out.now b)
    replace Pa := hid (Pa.out.step b)
    replace Pb := hid (Pb.out.step b)
    replace Pp := hid (Pp.out.step b)
    replace Po := hid (Po.out.step b)
    replace Dx := hid (Dx.out.step b)
    replace Zx := hid (Zx.out.now b)
    replace G := hid (below_step G.out b)
    have lz67 := (show Below _ _ _ from b).size
    have Zy := hid my.zc
    clear b my
    obtain ⟨V68, hV⟩ : ∃ V68, w66.alloc (duo (.bool ny) (.slice ay wy.length cy)) = V68 := ⟨_, rfl⟩
    obtain ⟨b, sz68⟩ := alo1 w66 (duo (.bool ny) (.slice ay wy.length cy))
    rw [hV] at b sz68
    replace Ma := hid (Ma.out.now b)
    replace Mb := hid (Mb.out.now b)
    replace Mp := hid (Mp.out.now b)
    replace Mo := hid (Mo.out.now b)
    replace Pa := hid (Pa.out.step b)
    replace Pb := hid (Pb.out.step b)
    replace Pp := hid (Pp.out.step b)
    replace Po := hid (Po.out.step b)
    replace Dx := hid (Dx.out.step b)
    replace Zx := hid (Zx.out.now b)
    replace Zy := hid (Zy.out.now b)
    replace G := hid (below_step G.out b)
    have lz69 := (show Below _ _ _ from b).size
    have Dy : Hid (Duo V68 w66.heap.size (.bool ny) (.slice ay wy.length cy)) := by unfold Hid; rw [← hV]; exact Duo.new w66 _ _
    clear b
    have dx0 := Dx.out.c0
    have dx1 := Dx.out.c1
    have dy0 := Dy.out.c0
    have dy1 := Dy.out.c1
    rw [← hV] at dx0 dx1 dy0 dy1
    have EV := hid hV
    clear hV
    go_wp2_with fail
    rw [EV.out]
    clear EV
    clear dx0 dx1 dy0 dy1
    have EQ3 : Hid (traceL r zp = traceL m zo) := by unfold Hid; rw [← Ep.out, ← Eo.out, trace_prod Ma.out.len9 Mb.out.len9]
    refine (alike9_yes Zx.out Zy.out EQ3.out).mono ?_
    rintro e w70 ⟨rfl, b⟩
    replace Ma := hid (Ma.out.now b)
    replace Mb := hid (Mb.out.now b)
    replace Mp := hid (Mp.out.now b)
    replace Mo := hid (Mo.out.now b)
    replace Pa := hid (Pa.out.step b)
    replace Pb := hid (Pb.out.step b)
    replace Pp := hid (Pp.out.step b)
    replace Po := hid (Po.out.step b)
    replace Dx := hid (Dx.out.step b)
    replace Dy := hid (Dy.out.step b)
    replace Zx := hid (Zx.out.now b)
    replace Zy := hid (Zy.out.now b)
    replace G := hid (below_step G.out b)
    have lz71 := (show Below _ _ _ from b).size
    clear b
    go_wp2
    go_ret
    exact ⟨rfl, G.out⟩
end Go.Proofs.Ytojhmkkjjalonaa
