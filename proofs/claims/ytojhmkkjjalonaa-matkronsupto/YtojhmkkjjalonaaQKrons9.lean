/-
  Krons9: the walk of MatKrons.
-/
import Derived.Test.YtojhmkkjjalonaaQKronP9
import Derived.Test.YtojhmkkjjalonaaQOpenM9ToOpenK9
namespace Go.Proofs.Ytojhmkkjjalonaa
open Go.RowKit
set_option linter.unusedVariables false

theorem Mx.len9k {w : World} {v : Value} {r c : Nat} {zs : List Int} {k : Nat} (h : Mx w v r c zs k) : zs.length = r * c := by obtain ⟨_, _, _, _, _, h, _⟩ := h; exact h
theorem snd_ofk {r c : Nat} (hr : r ≤ 64) (hc : c ≤ 64) : Snd (r : Int) (c : Int) (r * c) := ⟨by omega, by omega, by omega, by omega, by simp⟩
theorem Raw.parts {w : World} {x0 x1 x2 : Value} {r c : Int} {l : Nat} {zs : List Int} (h : Raw w (.agg #[x0, x1, x2]) r c l zs) : ∃ a q, x0 = .int .i64 r ∧ x1 = .int .i64 c ∧ x2 = .slice a l q ∧ l ≤ 1048576 := by
  obtain ⟨a, cap, ps, h1, -, -, -, h5⟩ := h
  simp only [Value.agg.injEq, Array.mk.injEq, List.cons.injEq, and_true] at h1
  exact ⟨a, cap, h1.1, h1.2.1, h1.2.2, h5⟩
set_option maxHeartbeats 12800000 in
set_option maxRecDepth 100000 in
theorem matKrons_any {w : World} {e0 e1 e2 e3 e4 e5 e6 e7 e8 e9 e10 e11 : Value} {ra ca rb cb rc cc rd cd : Int} {la lb lc ld : Nat} {xs ys us vs : List Int} (ha : Raw w (.agg #[e0, e1, e2]) ra ca la xs) (hb : Raw w (.agg #[e3, e4, e5]) rb cb lb ys) (hc : Raw w (.agg #[e6, e7, e8]) rc cc lc us) (hd : Raw w (.agg #[e9, e10, e11]) rd cd ld vs) :
    Calls Try.prog 6 #[.agg #[e0, e1, e2, e3, e4, e5, e6, e7, e8, e9, e10, e11]] w fun e w' => e = .returned (.bool true) ∧ Below w.heap.size w w' := by
  obtain ⟨aa, qa, rfl, rfl, rfl, hla⟩ := ha.parts
  obtain ⟨ab, qb, rfl, rfl, rfl, hlb⟩ := hb.parts
  obtain ⟨ac, qc, rfl, rfl, rfl, hlc⟩ := hc.parts
  obtain ⟨ad, qd, rfl, rfl, rfl, hld⟩ := hd.parts
  obtain ⟨W0, hV⟩ : ∃ W0, w.alloc (.cells #[.int .i64 ra, .int .i64 ca, .slice aa la qa, .int .i64 rb, .int .i64 cb, .slice ab lb qb, .int .i64 rc, .int .i64 cc, .slice ac lc qc, .int .i64 rd, .int .i64 cd, .slice ad ld qd] 44) = W0 := ⟨_, rfl⟩
  obtain ⟨b0, sz0⟩ := alo1 w (.cells #[.int .i64 ra, .int .i64 ca, .slice aa la qa, .int .i64 rb, .int .i64 cb, .slice ab lb qb, .int .i64 rc, .int .i64 cc, .slice ac lc qc, .int .i64 rd, .int .i64 cd, .slice ad ld qd] 44)
  rw [hV] at b0 sz0
  have PX : Hid (Cel W0 w.heap.size 44 [.int .i64 ra, .int .i64 ca, .slice aa la qa, .int .i64 rb, .int .i64 cb, .slice ab lb qb, .int .i64 rc, .int .i64 cc, .slice ac lc qc, .int .i64 rd, .int .i64 cd, .slice ad ld qd]) := by unfold Hid; rw [← hV]; exact Cel.new w _ _
  have RA := hid (ha.now b0)
  have RB := hid (hb.now b0)
  have RC := hid (hc.now b0)
  have RD := hid (hd.now b0)
  have G := hid b0
  have EV := hid hV
  clear b0 hV ha hb hc hd
  go_enter Try.func6, Try.ntmps6
  go_wp2_with fail
  rw [EV.out]
  clear EV
  refine (wakes9 W0).mono ?_
  rintro e w1 ⟨rfl, b⟩
  replace PX := hid (PX.out.step b)
  replace RA := hid (RA.out.now b)
  replace RB := hid (RB.out.now b)
  replace RC := hid (RC.out.now b)
  replace RD := hid (RD.out.now b)
  replace G := hid (below_step G.out b)
  clear b
  have x0 := PX.out.at (i := 0) rfl
  have x1 := PX.out.at (i := 1) rfl
  have x2 := PX.out.at (i := 2) rfl
  obtain ⟨Ua, hVa⟩ : ∃ Ua, w1.alloc (rawO ra ca (.slice aa la qa)) = Ua := ⟨_, rfl⟩
  obtain ⟨b, sza⟩ := alo1 w1 (rawO ra ca (.slice aa la qa))
  rw [hVa] at b sza
  replace PX := hid (PX.out.step b)
  replace RA := hid (RA.out.now b)
  replace RB := hid (RB.out.now b)
  replace RC := hid (RC.out.now b)
  replace RD := hid (RD.out.now b)
  replace G := hid (below_step G.out b)
  have Pa : Hid (Cel Ua w1.heap.size 24 [.int .i64 ra, .int .i64 ca, .slice aa la qa]) := by unfold Hid; rw [← hVa]; exact Cel.new w1 _ _
  clear b
  have x3 := PX.out.at (i := 3) rfl
  have x4 := PX.out.at (i := 4) rfl
  have x5 := PX.out.at (i := 5) rfl
  rw [← hVa] at x3 x4 x5
  obtain ⟨Ub, hVb⟩ : ∃ Ub, Ua.alloc (rawO rb cb (.slice ab lb qb)) = Ub := ⟨_, rfl⟩
  obtain ⟨b, szb⟩ := alo1 Ua (rawO rb cb (.slice ab lb qb))
  rw [hVb] at b szb
  replace PX := hid (PX.out.step b)
  replace RA := hid (RA.out.now b)
  replace RB := hid (RB.out.now b)
  replace RC := hid (RC.out.now b)
  replace RD := hid (RD.out.now b)
  replace G := hid (below_step G.out b)
  replace Pa := hid (Pa.out.step b)
  have Pb : Hid (Cel Ub Ua.heap.size 24 [.int .i64 rb, .int .i64 cb, .slice ab lb qb]) := by unfold Hid; rw [← hVb]; exact Cel.new Ua _ _
  clear b
  have x6 := PX.out.at (i := 6) rfl
  have x7 := PX.out.at (i := 7) rfl
  have x8 := PX.out.at (i := 8) rfl
  rw [← hVb, ← hVa] at x6 x7 x8
  obtain ⟨Uc, hVc⟩ : ∃ Uc, Ub.alloc (rawO rc cc (.slice ac lc qc)) = Uc := ⟨_, rfl⟩
  obtain ⟨b, szc⟩ := alo1 Ub (rawO rc cc (.slice ac lc qc))
  rw [hVc] at b szc
  replace PX := hid (PX.out.step b)
  replace RA := hid (RA.out.now b)
  replace RB := hid (RB.out.now b)
  replace RC := hid (RC.out.now b)
  replace RD := hid (RD.out.now b)
  replace G := hid (below_step G.out b)
  replace Pa := hid (Pa.out.step b)
  replace Pb := hid (Pb.out.step b)
  have Pc : Hid (Cel Uc Ub.heap.size 24 [.int .i64 rc, .int .i64 cc, .slice ac lc qc]) := by unfold Hid; rw [← hVc]; exact Cel.new Ub _ _
  clear b
  have x9 := PX.out.at (i := 9) rfl
  have x10 := PX.out.at (i := 10) rfl
  have x11 := PX.out.at (i := 11) rfl
  rw [← hVc, ← hVb, ← hVa] at x9 x10 x11
  obtain ⟨Ud, hVd⟩ : ∃ Ud, Uc.alloc (rawO rd cd (.slice ad ld qd)) = Ud := ⟨_, rfl⟩
  obtain ⟨b, szd⟩ := alo1 Uc (rawO rd cd (.slice ad ld qd))
  rw [hVd] at b szd
  replace PX := hid (PX.out.step b)
  replace RA := hid (RA.out.now b)
  replace RB := hid (RB.out.now b)
  replace RC := hid (RC.out.now b)
  replace RD := hid (RD.out.now b)
  replace G := hid (below_step G.out b)
  replace Pa := hid (Pa.out.step b)
  replace Pb := hid (Pb.out.step b)
  replace Pc := hid (Pc.out.step b)
  have Pd : Hid (Cel Ud Uc.heap.size 24 [.int .i64 rd, .int .i64 cd, .slice ad ld qd]) := by unfold Hid; rw [← hVd]; exact Cel.new Uc _ _
  clear b
  rw [sza] at Pb
  rw [szb, sza] at Pc
  rw [szc, szb, sza] at Pd
  have EU : Hid ((((w1.alloc (rawO ra ca (.slice aa la qa))).alloc (rawO rb cb (.slice ab lb qb))).alloc (rawO rc cc (.slice ac lc qc))).alloc (rawO rd cd (.slice ad ld qd)) = Ud) := by unfold Hid; rw [hVa, hVb, hVc, hVd]
  have ca0 := Pa.out.at (i := 0) rfl
  have ca1 := Pa.out.at (i := 1) rfl
  have ca2 := Pa.out.at (i := 2) rfl
  rw [← EU.out] at ca0 ca1 ca2
  have SZD : Ud.heap.size = w1.heap.size + 1 + 1 + 1 + 1 := by rw [szd, szc, szb, sza]
  clear hVa hVb hVc hVd sza szb szc szd PX
  go_wp2_with fail
  rw [EU.out]
  clear EU x0 x1 x2 x3 x4 x5 x6 x7 x8 x9 x10 x11 ca0 ca1 ca2
  refine (sound9 (w := Ud) hla).mono ?_
  rintro e w11 ⟨bb, rfl, hbb, b⟩
  replace Pa := hid (Pa.out.step b)
  replace Pb := hid (Pb.out.step b)
  replace Pc := hid (Pc.out.step b)
  replace Pd := hid (Pd.out.step b)
  replace RA := hid (RA.out.now b)
  replace RB := hid (RB.out.now b)
  replace RC := hid (RC.out.now b)
  replace RD := hid (RD.out.now b)
  replace G := hid (below_step G.out b)
  have lz12 := (show Below _ _ _ from b).size
  clear b
  cases bb
  case false =>
    clear hbb
    go_wp2
    go_ret
    exact ⟨rfl, G.out⟩
  have SA := hid (hbb.1 rfl)
  clear hbb
  have cb0 := Pb.out.at (i := 0) rfl
  have cb1 := Pb.out.at (i := 1) rfl
  have cb2 := Pb.out.at (i := 2) rfl
  go_wp2_with fail
  clear cb0 cb1 cb2
  refine (sound9 (w := w11) hlb).mono ?_
  rintro e w13 ⟨bb, rfl, hbb, b⟩
  replace Pa := hid (Pa.out.step b)
  replace Pb := hid (Pb.out.step b)
  replace Pc := hid (Pc.out.step b)
  replace Pd := hid (Pd.out.step b)
  replace RA := hid (RA.out.now b)
  replace RB := hid (RB.out.now b)
  replace RC := hid (RC.out.now b)
  replace RD := hid (RD.out.now b)
  replace G := hid (below_step G.out b)
  have lz14 := (show Below _ _ _ from b).size
  clear b
  cases bb
  case false =>
    clear hbb
    go_wp2
    go_ret
    exact ⟨rfl, G.out⟩
  have SB := hid (hbb.1 rfl)
  clear hbb
  have cc0 := Pc.out.at (i := 0) rfl
  have cc1 := Pc.out.at (i := 1) rfl
  have cc2 := Pc.out.at (i := 2) rfl
  go_wp2_with fail
  clear cc0 cc1 cc2
  refine (sound9 (w := w13) hlc).mono ?_
  rintro e w15 ⟨bb, rfl, hbb, b⟩
  replace Pa := hid (Pa.out.step b)
  replace Pb := hid (Pb.out.step b)
  replace Pc := hid (Pc.out.step b)
  replace Pd := hid (Pd.out.step b)
  replace RA := hid (RA.out.now b)
  replace RB := hid (RB.out.now b)
  replace RC := hid (RC.out.now b)
  replace RD := hid (RD.out.now b)
  replace G := hid (below_step G.out b)
  have lz16 := (show Below _ _ _ from b).size
  clear b
  cases bb
  case false =>
    clear hbb
    go_wp2
    go_ret
    exact ⟨rfl, G.out⟩
  have SC := hid (hbb.1 rfl)
  clear hbb
  have cd0 := Pd.out.at (i := 0) rfl
  have cd1 := Pd.out.at (i := 1) rfl
  have cd2 := Pd.out.at (i := 2) rfl
  go_wp2_with fail
  clear cd0 cd1 cd2
  refine (sound9 (w := w15) hld).mono ?_
  rintro e w17 ⟨bb, rfl, hbb, b⟩
  replace Pa := hid (Pa.out.step b)
  replace Pb := hid (Pb.out.step b)
  replace Pc := hid (Pc.out.step b)
  replace Pd := hid (Pd.out.step b)
  replace RA := hid (RA.out.now b)
  replace RB := hid (RB.out.now b)
  replace RC := hid (RC.out.now b)
  replace RD := hid (RD.out.now b)
  replace G := hid (below_step G.out b)
  have lz18 := (show Below _ _ _ from b).size
  clear b
  cases bb
  case false =>
    clear hbb
    go_wp2
    go_ret
    exact ⟨rfl, G.out⟩
  have SD := hid (hbb.1 rfl)
  clear hbb
  obtain ⟨r, hr⟩ := Int.eq_ofNat_of_zero_le SA.out.1
  obtain ⟨c, hc⟩ := Int.eq_ofNat_of_zero_le SA.out.2.2.1
  obtain ⟨p, hp⟩ := Int.eq_ofNat_of_zero_le SB.out.1
  obtain ⟨q, hq⟩ := Int.eq_ofNat_of_zero_le SB.out.2.2.1
  obtain ⟨c2, hc2⟩ := Int.eq_ofNat_of_zero_le SC.out.1
  obtain ⟨m, hm⟩ := Int.eq_ofNat_of_zero_le SC.out.2.2.1
  obtain ⟨q2, hq2⟩ := Int.eq_ofNat_of_zero_le SD.out.1
  obtain ⟨f, hf⟩ := Int.eq_ofNat_of_zero_le SD.out.2.2.1
  subst hr hc hp hq hc2 hm hq2 hf
  have r64 : r ≤ 64 := by have := SA.out.2.1; omega
  have c64 : c ≤ 64 := by have := SA.out.2.2.2.1; omega
  have p64 : p ≤ 64 := by have := SB.out.2.1; omega
  have q64 : q ≤ 64 := by have := SB.out.2.2.2.1; omega
  have c264 : c2 ≤ 64 := by have := SC.out.2.1; omega
  have m64 : m ≤ 64 := by have := SC.out.2.2.2.1; omega
  have q264 : q2 ≤ 64 := by have := SD.out.2.1; omega
  have f64 : f ≤ 64 := by have := SD.out.2.2.2.1; omega
  obtain rfl : la = r * c := Int.ofNat.inj (by simpa using SA.out.2.2.2.2)
  obtain rfl : lb = p * q := Int.ofNat.inj (by simpa using SB.out.2.2.2.2)
  obtain rfl : lc = c2 * m := Int.ofNat.inj (by simpa using SC.out.2.2.2.2)
  obtain rfl : ld = q2 * f := Int.ofNat.inj (by simpa using SD.out.2.2.2.2)
  have Ma := hid (RA.out.mx SA.out)
  have Mb := hid (RB.out.mx SB.out)
  have Mc := hid (RC.out.mx SC.out)
  have Md := hid (RD.out.mx SD.out)
  clear RA RB RC RD SA SB SC SD
  have wr1 := wrapM9 (i := r) (c := p) r64 p64
  have wr2 := wrapM9 (i := c) (c := q) c64 q64
  have wr3 := wrapM9 (i := c2) (c := q2) c264 q264
  have wr4 := wrapM9 (i := m) (c := f) m64 f64
  have xr1 : r * p ≤ 64 * 64 := Nat.mul_le_mul r64 p64
  have xr2 : c * q ≤ 64 * 64 := Nat.mul_le_mul c64 q64
  have xr3 : c2 * q2 ≤ 64 * 64 := Nat.mul_le_mul c264 q264
  have xr4 : m * f ≤ 64 * 64 := Nat.mul_le_mul m64 f64
  obtain ⟨R, hR⟩ : ∃ R, r * p = R := ⟨_, rfl⟩
  obtain ⟨Q9, hQ⟩ : ∃ Q9, c * q = Q9 := ⟨_, rfl⟩
  obtain ⟨S9, hS⟩ : ∃ S9, c2 * q2 = S9 := ⟨_, rfl⟩
  obtain ⟨T9, hT⟩ : ∃ T9, m * f = T9 := ⟨_, rfl⟩
  have HR := hid hR
  have HQ := hid hQ
  have HS := hid hS
  have HT := hid hT
  rw [hR] at wr1 xr1
  rw [hQ] at wr2 xr2
  rw [hS] at wr3 xr3
  rw [hT] at wr4 xr4
  have wx1 := wr1
  have wx2 := wr2
  have wx3 := wr3
  have wx4 := wr4
  rw [IntKind.wrap_i64] at wx1 wx2 wx3 wx4
  clear hR hQ hS hT
  have ca0 := Pa.out.at (i := 0) rfl
  have ca1 := Pa.out.at (i := 1) rfl
  have ca2 := Pa.out.at (i := 2) rfl
  have cb0 := Pb.out.at (i := 0) rfl
  have cb1 := Pb.out.at (i := 1) rfl
  have cb2 := Pb.out.at (i := 2) rfl
  go_wp2_with fail
  clear ca0 ca1 ca2 cb0 cb1 cb2
  by_cases hl1 : R ≤ 64 ∧ Q9 ≤ 64
  case neg =>
    refine (kron_no Ma.out Mb.out (by rw [HR.out, HQ.out]; exact hl1)).mono ?_
    rintro e w19 ⟨rfl, b⟩
    replace Ma := hid (Ma.out.now b)
    replace Mb := hid (Mb.out.now b)
    replace Mc := hid (Mc.out.now b)
    replace Md := hid (Md.out.now b)
    replace Pa := hid (Pa.out.step b)
    replace Pb := hid (Pb.out.step b)
    replace Pc := hid (Pc.out.step b)
    replace Pd := hid (Pd.out.step b)
    replace G := hid (below_step G.out b)
    have lz20 := (show Below _ _ _ from b).size
    clear b
    obtain ⟨V21, hV⟩ : ∃ V21, w19.alloc mbox = V21 := ⟨_, rfl⟩
    obtain ⟨b, sz21⟩ := alo1 w19 mbox
    rw [hV] at b sz21
    replace Ma := hid (Ma.out.now b)
    replace Mb := hid (Mb.out.now b)
    replace Mc := hid (Mc.out.now b)
    replace Md := hid (Md.out.now b)
    replace Pa := hid (Pa.out.step b)
    replace Pb := hid (Pb.out.step b)
    replace Pc := hid (Pc.out.step b)
    replace Pd := hid (Pd.out.step b)
    replace G := hid (below_step G.out b)
    have lz22 := (show Below _ _ _ from b).size
    have Pk : Hid (Cel V21 w19.heap.size 24 ([.int .i64 0, .int .i64 0, .slice none 0 0])) := by unfold Hid; rw [← hV]; exact Cel.new w19 _ _
    clear b
    by_cases hl2 : (64 : Int) < (R : Int)
    case pos =>
      clear hl1
      have ca0 := Pa.out.at (i := 0) rfl
      have ca1 := Pa.out.at (i := 1) rfl
      have ca2 := Pa.out.at (i := 2) rfl
      have cb0 := Pb.out.at (i := 0) rfl
      have cb1 := Pb.out.at (i := 1) rfl
      have cb2 := Pb.out.at (i := 2) rfl
      have ck0 := Pk.out.at (i := 0) rfl
      have ck1 := Pk.out.at (i := 1) rfl
      have ck2 := Pk.out.at (i := 2) rfl
      rw [← hV] at ca0 ca1 ca2 cb0 cb1 cb2 ck0 ck1 ck2
      have EV := hid hV
      clear hV
      go_wp2_with fail
      rw [EV.out]
      clear EV
      clear ca0 ca1 ca2 cb0 cb1 cb2 ck0 ck1 ck2
      refine (none9_yes (w := V21)).mono ?_
      rintro e w23 ⟨rfl, b⟩
      replace Ma := hid (Ma.out.now b)
      replace Mb := hid (Mb.out.now b)
      replace Mc := hid (Mc.out.now b)
      replace Md := hid (Md.out.now b)
      replace Pa := hid (Pa.out.step b)
      replace Pb := hid (Pb.out.step b)
      replace Pc := hid (Pc.out.step b)
      replace Pd := hid (Pd.out.step b)
      replace Pk := hid (Pk.out.step b)
      replace G := hid (below_step G.out b)
      have lz24 := (show Below _ _ _ from b).size
      clear b
      go_wp2
      go_ret
      exact ⟨rfl, G.out⟩
    case neg =>
      have hl3 : (64 : Int) < (Q9 : Int) := by omega
      clear hl1
      have ca0 := Pa.out.at (i := 0) rfl
      have ca1 := Pa.out.at (i := 1) rfl
      have ca2 := Pa.out.at (i := 2) rfl
      have cb0 := Pb.out.at (i := 0) rfl
      have cb1 := Pb.out.at (i := 1) rfl
      have cb2 := Pb.out.at (i := 2) rfl
      have ck0 := Pk.out.at (i := 0) rfl
      have ck1 := Pk.out.at (i := 1) rfl
      have ck2 := Pk.out.at (i := 2) rfl
      rw [← hV] at ca0 ca1 ca2 cb0 cb1 cb2 ck0 ck1 ck2
      have EV := hid hV
      clear hV
      go_wp2_with fail
      rw [EV.out]
      clear EV
      clear ca0 ca1 ca2 cb0 cb1 cb2 ck0 ck1 ck2
      refine (none9_yes (w := V21)).mono ?_
      rintro e w25 ⟨rfl, b⟩
      replace Ma := hid (Ma.out.now b)
      replace Mb := hid (Mb.out.now b)
      replace Mc := hid (Mc.out.now b)
      replace Md := hid (Md.out.now b)
      replace Pa := hid (Pa.out.step b)
      replace Pb := hid (Pb.out.step b)
      replace Pc := hid (Pc.out.step b)
      replace Pd := hid (Pd.out.step b)
      replace Pk := hid (Pk.out.step b)
      replace G := hid (below_step G.out b)
      have lz26 := (show Below _ _ _ from b).size
      clear b
      go_wp2
      go_ret
      exact ⟨rfl, G.out⟩
  have n1 : ¬ ((64 : Int) < (R : Int)) := by omega
  have n2 : ¬ ((64 : Int) < (Q9 : Int)) := by omega
  have qR : ((R : Int) != (R : Int)) = false := by simp
  have qQ : ((Q9 : Int) != (Q9 : Int)) = false := by simp
  clear wx1 wx2 wx3 wx4
  refine ((by have h := kron_yes Ma.out Mb.out (by rw [HR.out]; exact hl1.1) (by rw [HQ.out]; exact hl1.2) (by omega); rw [HR.out, HQ.out] at h; exact h : Calls Try.prog _ _ _ _)).mono ?_
  rintro e w27 ⟨v, rfl, hm, b⟩
  obtain ⟨ak, qk, rfl, -, -⟩ := hm.mx.form
  replace Ma := hid (Ma.out.now b)
  replace Mb := hid (Mb.out.now b)
  replace Mc := hid (Mc.out.now b)
  replace Md := hid (Md.out.now b)
  replace Pa := hid (Pa.out.step b)
  replace Pb := hid (Pb.out.step b)
  replace Pc := hid (Pc.out.step b)
  replace Pd := hid (Pd.out.step b)
  replace G := hid (below_step G.out b)
  have lz28 := (show Below _ _ _ from b).size
  obtain ⟨zk, hz⟩ : ∃ zk, kronL r c p q xs ys = zk := ⟨_, rfl⟩
  rw [hz] at hm
  have Ek := hid hz
  have Mk := hid hm
  clear hm hz b
  obtain ⟨V29, hV⟩ : ∃ V29, w27.alloc (matO R Q9 (.slice ak (R * Q9) qk)) = V29 := ⟨_, rfl⟩
  obtain ⟨b, sz29⟩ := alo1 w27 (matO R Q9 (.slice ak (R * Q9) qk))
  rw [hV] at b sz29
  replace Ma := hid (Ma.out.now b)
  replace Mb := hid (Mb.out.now b)
  replace Mc := hid (Mc.out.now b)
  replace Md := hid (Md.out.now b)
  replace Mk := hid (Mk.out.now b)
  replace Pa := hid (Pa.out.step b)
  replace Pb := hid (Pb.out.step b)
  replace Pc := hid (Pc.out.step b)
  replace Pd := hid (Pd.out.step b)
  replace G := hid (below_step G.out b)
  have lz30 := (show Below _ _ _ from b).size
  have Pk : Hid (Cel V29 w27.heap.size 24 (matc R Q9 (.slice ak (R * Q9) qk))) := by unfold Hid; rw [← hV]; exact Cel.new w27 _ _
  clear b
  have ca0 := Pa.out.at (i := 0) rfl
  have ca1 := Pa.out.at (i := 1) rfl
  have ca2 := Pa.out.at (i := 2) rfl
  have cb0 := Pb.out.at (i := 0) rfl
  have cb1 := Pb.out.at (i := 1) rfl
  have cb2 := Pb.out.at (i := 2) rfl
  have ck0 := Pk.out.at (i := 0) rfl
  have ck1 := Pk.out.at (i := 1) rfl
  have ck2 := Pk.out.at (i := 2) rfl
  rw [← hV] at ca0 ca1 ca2 cb0 cb1 cb2 ck0 ck1 ck2
  have EV := hid hV
  clear hV
  go_wp2_with fail
  rw [EV.out]
  clear EV
  clear ca0 ca1 ca2 cb0 cb1 cb2 ck0 ck1 ck2
  refine (sound9 (w := V29) (show R * Q9 ≤ 1048576 by have h := Nat.mul_le_mul hl1.1 hl1.2; omega)).mono ?_
  rintro e w31 ⟨bb, rfl, hbb, b⟩
  replace Ma := hid (Ma.out.now b)
  replace Mb := hid (Mb.out.now b)
  replace Mc := hid (Mc.out.now b)
  replace Md := hid (Md.out.now b)
  replace Mk := hid (Mk.out.now b)
  replace Pa := hid (Pa.out.step b)
  replace Pb := hid (Pb.out.step b)
  replace Pc := hid (Pc.out.step b)
  replace Pd := hid (Pd.out.step b)
  replace Pk := hid (Pk.out.step b)
  replace G := hid (below_step G.out b)
  have lz32 := (show Below _ _ _ from b).size
  clear b
  obtain rfl : bb = true := hbb.2 (snd_ofk hl1.1 hl1.2)
  clear hbb
  have cc0 := Pc.out.at (i := 0) rfl
  have cc1 := Pc.out.at (i := 1) rfl
  have cc2 := Pc.out.at (i := 2) rfl
  have cd0 := Pd.out.at (i := 0) rfl
  have cd1 := Pd.out.at (i := 1) rfl
  have cd2 := Pd.out.at (i := 2) rfl
  go_wp2_with fail
  clear cc0 cc1 cc2 cd0 cd1 cd2
  by_cases hcd : S9 ≤ 64 ∧ T9 ≤ 64
  case neg =>
    have hbad : ¬ (c = c2 ∧ q = q2 ∧ T9 ≤ 64) := fun h => hcd ⟨by have h1 := HS.out; have h2 := HQ.out; rw [← h.1, ← h.2.1] at h1; omega, h.2.2⟩
    refine (kron_no Mc.out Md.out (by rw [HS.out, HT.out]; exact hcd)).mono ?_
    rintro e w33 ⟨rfl, b⟩
    replace Ma := hid (Ma.out.now b)
    replace Mb := hid (Mb.out.now b)
    replace Mc := hid (Mc.out.now b)
    replace Md := hid (Md.out.now b)
    replace Mk := hid (Mk.out.now b)
    replace Pa := hid (Pa.out.step b)
    replace Pb := hid (Pb.out.step b)
    replace Pc := hid (Pc.out.step b)
    replace Pd := hid (Pd.out.step b)
    replace Pk := hid (Pk.out.step b)
    replace G := hid (below_step G.out b)
    have lz34 := (show Below _ _ _ from b).size
    clear b
    obtain ⟨V35, hV⟩ : ∃ V35, w33.alloc mbox = V35 := ⟨_, rfl⟩
    obtain ⟨b, sz35⟩ := alo1 w33 mbox
    rw [hV] at b sz35
    replace Ma := hid (Ma.out.now b)
    replace Mb := hid (Mb.out.now b)
    replace Mc := hid (Mc.out.now b)
    replace Md := hid (Md.out.now b)
    replace Mk := hid (Mk.out.now b)
    replace Pa := hid (Pa.out.step b)
    replace Pb := hid (Pb.out.step b)
    replace Pc := hid (Pc.out.step b)
    replace Pd := hid (Pd.out.step b)
    replace Pk := hid (Pk.out.step b)
    replace G := hid (below_step G.out b)
    have lz36 := (show Below _ _ _ from b).size
    have Pg : Hid (Cel V35 w33.heap.size 24 ([.int .i64 0, .int .i64 0, .slice none 0 0])) := by unfold Hid; rw [← hV]; exact Cel.new w33 _ _
    clear b
    by_cases g1 : c = c2
    case neg =>
      have d1 : ((c : Int) != (c2 : Int)) = true := by simp; omega
      clear g1
      by_cases hS64 : 64 < S9
      case pos =>
        have o1 : ¬ ((S9 : Int) ≤ 64) := by omega
        clear hcd hbad hS64
        have ca0 := Pa.out.at (i := 0) rfl
        have ca1 := Pa.out.at (i := 1) rfl
        have cb0 := Pb.out.at (i := 0) rfl
        have cb1 := Pb.out.at (i := 1) rfl
        have cc0 := Pc.out.at (i := 0) rfl
        have cc1 := Pc.out.at (i := 1) rfl
        have cd0 := Pd.out.at (i := 0) rfl
        have cd1 := Pd.out.at (i := 1) rfl
        rw [← hV] at ca0 ca1 cb0 cb1 cc0 cc1 cd0 cd1
        have EV := hid hV
        clear hV
        go_wp2
        go_ret
        rw [EV.out]
        exact ⟨by first | rfl | (simp; omega) | simp, G.out⟩
      case neg =>
        have o1 : (S9 : Int) ≤ 64 := by omega
        have o2 : ¬ ((T9 : Int) ≤ 64) := by omega
        clear hcd hbad hS64
        have ca0 := Pa.out.at (i := 0) rfl
        have ca1 := Pa.out.at (i := 1) rfl
        have cb0 := Pb.out.at (i := 0) rfl
        have cb1 := Pb.out.at (i := 1) rfl
        have cc0 := Pc.out.at (i := 0) rfl
        have cc1 := Pc.out.at (i := 1) rfl
        have cd0 := Pd.out.at (i := 0) rfl
        have cd1 := Pd.out.at (i := 1) rfl
        rw [← hV] at ca0 ca1 cb0 cb1 cc0 cc1 cd0 cd1
        have EV := hid hV
        clear hV
        go_wp2
        go_ret
        rw [EV.out]
        exact ⟨by first | rfl | (simp; omega) | simp, G.out⟩
    case pos =>
      by_cases g2 : q = q2
      case neg =>
        have d1 : ((c : Int) != (c2 : Int)) = false := by simp; omega
        have d2 : ((q : Int) != (q2 : Int)) = true := by simp; omega
        clear g1 g2
        by_cases hS64 : 64 < S9
        case pos =>
          have o1 : ¬ ((S9 : Int) ≤ 64) := by omega
          clear hcd hbad hS64
          have ca0 := Pa.out.at (i := 0) rfl
          have ca1 := Pa.out.at (i := 1) rfl
          have cb0 := Pb.out.at (i := 0) rfl
          have cb1 := Pb.out.at (i := 1) rfl
          have cc0 := Pc.out.at (i := 0) rfl
          have cc1 := Pc.out.at (i := 1) rfl
          have cd0 := Pd.out.at (i := 0) rfl
          have cd1 := Pd.out.at (i := 1) rfl
          rw [← hV] at ca0 ca1 cb0 cb1 cc0 cc1 cd0 cd1
          have EV := hid hV
          clear hV
          go_wp2
          go_ret
          rw [EV.out]
          exact ⟨by first | rfl | (simp; omega) | simp, G.out⟩
        case neg =>
          have o1 : (S9 : Int) ≤ 64 := by omega
          have o2 : ¬ ((T9 : Int) ≤ 64) := by omega
          clear hcd hbad hS64
          have ca0 := Pa.out.at (i := 0) rfl
          have ca1 := Pa.out.at (i := 1) rfl
          have cb0 := Pb.out.at (i := 0) rfl
          have cb1 := Pb.out.at (i := 1) rfl
          have cc0 := Pc.out.at (i := 0) rfl
          have cc1 := Pc.out.at (i := 1) rfl
          have cd0 := Pd.out.at (i := 0) rfl
          have cd1 := Pd.out.at (i := 1) rfl
          rw [← hV] at ca0 ca1 cb0 cb1 cc0 cc1 cd0 cd1
          have EV := hid hV
          clear hV
          go_wp2
          go_ret
          rw [EV.out]
          exact ⟨by first | rfl | (simp; omega) | simp, G.out⟩
      case pos =>
        have d1 : ((c : Int) != (c2 : Int)) = false := by simp; omega
        have d2 : ((q : Int) != (q2 : Int)) = false := by simp; omega
        have d3 : (64 : Int) < (T9 : Int) := by
          have : ¬ T9 ≤ 64 := fun h => hbad ⟨g1, g2, h⟩
          omega
        clear g1 g2
        by_cases hS64 : 64 < S9
        case pos =>
          have o1 : ¬ ((S9 : Int) ≤ 64) := by omega
          clear hcd hbad hS64
          have ca0 := Pa.out.at (i := 0) rfl
          have ca1 := Pa.out.at (i := 1) rfl
          have cb0 := Pb.out.at (i := 0) rfl
          have cb1 := Pb.out.at (i := 1) rfl
          have cc0 := Pc.out.at (i := 0) rfl
          have cc1 := Pc.out.at (i := 1) rfl
          have cd0 := Pd.out.at (i := 0) rfl
          have cd1 := Pd.out.at (i := 1) rfl
          rw [← hV] at ca0 ca1 cb0 cb1 cc0 cc1 cd0 cd1
          have EV := hid hV
          clear hV
          go_wp2
          go_ret
          rw [EV.out]
          exact ⟨by first | rfl | (simp; omega) | simp, G.out⟩
        case neg =>
          have o1 : (S9 : Int) ≤ 64 := by omega
          have o2 : ¬ ((T9 : Int) ≤ 64) := by omega
          clear hcd hbad hS64
          have ca0 := Pa.out.at (i := 0) rfl
          have ca1 := Pa.out.at (i := 1) rfl
          have cb0 := Pb.out.at (i := 0) rfl
          have cb1 := Pb.out.at (i := 1) rfl
          have cc0 := Pc.out.at (i := 0) rfl
          have cc1 := Pc.out.at (i := 1) rfl
          have cd0 := Pd.out.at (i := 0) rfl
          have cd1 := Pd.out.at (i := 1) rfl
          rw [← hV] at ca0 ca1 cb0 cb1 cc0 cc1 cd0 cd1
          have EV := hid hV
          clear hV
          go_wp2
          go_ret
          rw [EV.out]
          exact ⟨by first | rfl | (simp; omega) | simp, G.out⟩
  have o1 : (S9 : Int) ≤ 64 := by omega
  have o2 : (T9 : Int) ≤ 64 := by omega
  have d3 : ¬ ((64 : Int) < (T9 : Int)) := by omega
  refine ((by have h := kron_yes Mc.out Md.out (by rw [HS.out]; exact hcd.1) (by rw [HT.out]; exact hcd.2) (by omega); rw [HS.out, HT.out] at h; exact h : Calls Try.prog _ _ _ _)).mono ?_
  rintro e w37 ⟨v, rfl, hm, b⟩
  obtain ⟨ag, qg, rfl, -, -⟩ := hm.mx.form
  replace Ma := hid (Ma.out.now b)
  replace Mb := hid (Mb.out.now b)
  replace Mc := hid (Mc.out.now b)
  replace Md := hid (Md.out.now b)
  replace Mk := hid (Mk.out.now b)
  replace Pa := hid (Pa.out.step b)
  replace Pb := hid (Pb.out.step b)
  replace Pc := hid (Pc.out.step b)
  replace Pd := hid (Pd.out.step b)
  replace Pk := hid (Pk.out.step b)
  replace G := hid (below_step G.out b)
  have lz38 := (show Below _ _ _ from b).size
  obtain ⟨zg, hz⟩ : ∃ zg, kronL c2 m q2 f us vs = zg := ⟨_, rfl⟩
  rw [hz] at hm
  have Eg := hid hz
  have Mg := hid hm
  clear hm hz b
  obtain ⟨V39, hV⟩ : ∃ V39, w37.alloc (matO S9 T9 (.slice ag (S9 * T9) qg)) = V39 := ⟨_, rfl⟩
  obtain ⟨b, sz39⟩ := alo1 w37 (matO S9 T9 (.slice ag (S9 * T9) qg))
  rw [hV] at b sz39
  replace Ma := hid (Ma.out.now b)
  replace Mb := hid (Mb.out.now b)
  replace Mc := hid (Mc.out.now b)
  replace Md := hid (Md.out.now b)
  replace Mk := hid (Mk.out.now b)
  replace Mg := hid (Mg.out.now b)
  replace Pa := hid (Pa.out.step b)
  replace Pb := hid (Pb.out.step b)
  replace Pc := hid (Pc.out.step b)
  replace Pd := hid (Pd.out.step b)
  replace Pk := hid (Pk.out.step b)
  replace G := hid (below_step G.out b)
  have lz40 := (show Below _ _ _ from b).size
  have Pg : Hid (Cel V39 w37.heap.size 24 (matc S9 T9 (.slice ag (S9 * T9) qg))) := by unfold Hid; rw [← hV]; exact Cel.new w37 _ _
  clear b
  by_cases g1 : c = c2
  case neg =>
    have d1 : ((c : Int) != (c2 : Int)) = true := by simp; omega
    clear g1
    have ca0 := Pa.out.at (i := 0) rfl
    have ca1 := Pa.out.at (i := 1) rfl
    have cb0 := Pb.out.at (i := 0) rfl
    have cb1 := Pb.out.at (i := 1) rfl
    have cc0 := Pc.out.at (i := 0) rfl
    have cc1 := Pc.out.at (i := 1) rfl
    have cd0 := Pd.out.at (i := 0) rfl
    have cd1 := Pd.out.at (i := 1) rfl
    rw [← hV] at ca0 ca1 cb0 cb1 cc0 cc1 cd0 cd1
    have EV := hid hV
    clear hV
    go_wp2
    go_ret
    rw [EV.out]
    exact ⟨by first | rfl | (simp; omega) | simp, G.out⟩
  by_cases g2 : q = q2
  case neg =>
    have d1 : ((c : Int) != (c2 : Int)) = false := by simp; omega
    have d2 : ((q : Int) != (q2 : Int)) = true := by simp; omega
    clear g1 g2
    have ca0 := Pa.out.at (i := 0) rfl
    have ca1 := Pa.out.at (i := 1) rfl
    have cb0 := Pb.out.at (i := 0) rfl
    have cb1 := Pb.out.at (i := 1) rfl
    have cc0 := Pc.out.at (i := 0) rfl
    have cc1 := Pc.out.at (i := 1) rfl
    have cd0 := Pd.out.at (i := 0) rfl
    have cd1 := Pd.out.at (i := 1) rfl
    rw [← hV] at ca0 ca1 cb0 cb1 cc0 cc1 cd0 cd1
    have EV := hid hV
    clear hV
    go_wp2
    go_ret
    rw [EV.out]
    exact ⟨by first | rfl | (simp; omega) | simp, G.out⟩
  subst g1 g2
  have d1 : ((c : Int) != (c : Int)) = false := by simp
  have d2 : ((q : Int) != (q : Int)) = false := by simp
  obtain rfl : Q9 = S9 := HQ.out.symm.trans HS.out
  have ca0 := Pa.out.at (i := 0) rfl
  have ca1 := Pa.out.at (i := 1) rfl
  have ca2 := Pa.out.at (i := 2) rfl
  have cb0 := Pb.out.at (i := 0) rfl
  have cb1 := Pb.out.at (i := 1) rfl
  have cb2 := Pb.out.at (i := 2) rfl
  have cc0 := Pc.out.at (i := 0) rfl
  have cc1 := Pc.out.at (i := 1) rfl
  have cc2 := Pc.out.at (i := 2) rfl
  have cd0 := Pd.out.at (i := 0) rfl
  have cd1 := Pd.out.at (i := 1) rfl
  have cd2 := Pd.out.at (i := 2) rfl
  have ck0 := Pk.out.at (i := 0) rfl
  have ck1 := Pk.out.at (i := 1) rfl
  have ck2 := Pk.out.at (i := 2) rfl
  have cg0 := Pg.out.at (i := 0) rfl
  have cg1 := Pg.out.at (i := 1) rfl
  have cg2 := Pg.out.at (i := 2) rfl
  rw [← hV] at ca0 ca1 ca2 cb0 cb1 cb2 cc0 cc1 cc2 cd0 cd1 cd2 ck0 ck1 ck2 cg0 cg1 cg2
  have EV := hid hV
  clear hV
  go_wp2_with fail
  rw [EV.out]
  clear EV
  clear ca0 ca1 ca2 cb0 cb1 cb2 cc0 cc1 cc2 cd0 cd1 cd2 ck0 ck1 ck2 cg0 cg1 cg2
  refine (mul_yes Mk.out.mx Mg.out.mx (by omega)).mono ?_
  rintro e w41 ⟨v, rfl, hm, b⟩
  obtain ⟨am, qm, rfl, -, -⟩ := hm.mx.form
  replace Ma := hid (Ma.out.now b)
  replace Mb := hid (Mb.out.now b)
  replace Mc := hid (Mc.out.now b)
  replace Md := hid (Md.out.now b)
  replace Mk := hid (Mk.out.now b)
  replace Mg := hid (Mg.out.now b)
  replace Pa := hid (Pa.out.step b)
  replace Pb := hid (Pb.out.step b)
  replace Pc := hid (Pc.out.step b)
  replace Pd := hid (Pd.out.step b)
  replace Pk := hid (Pk.out.step b)
  replace Pg := hid (Pg.out.step b)
  replace G := hid (below_step G.out b)
  have lz42 := (show Below _ _ _ from b).size
  obtain ⟨zm, hz⟩ : ∃ zm, prodL R Q9 T9 zk zg = zm := ⟨_, rfl⟩
  rw [hz] at hm
  have Em := hid hz
  have Mm := hid hm
  clear hm hz b
  obtain ⟨V43, hV⟩ : ∃ V43, w41.alloc (matO R T9 (.slice am (R * T9) qm)) = V43 := ⟨_, rfl⟩
  obtain ⟨b, sz43⟩ := alo1 w41 (matO R T9 (.slice am (R * T9) qm))
  rw [hV] at b sz43
  replace Ma := hid (Ma.out.now b)
  replace Mb := hid (Mb.out.now b)
  replace Mc := hid (Mc.out.now b)
  replace Md := hid (Md.out.now b)
  replace Mk := hid (Mk.out.now b)
  replace Mg := hid (Mg.out.now b)
  replace Mm := hid (Mm.out.now b)
  replace Pa := hid (Pa.out.step b)
  replace Pb := hid (Pb.out.step b)
  replace Pc := hid (Pc.out.step b)
  replace Pd := hid (Pd.out.step b)
  replace Pk := hid (Pk.out.step b)
  replace Pg := hid (Pg.out.step b)
  replace G := hid (below_step G.out b)
  have lz44 := (show Below _ _ _ from b).size
  have Pm : Hid (Cel V43 w41.heap.size 24 (matc R T9 (.slice am (R * T9) qm))) := by unfold Hid; rw [← hV]; exact Cel.new w41 _ _
  clear b
  have ca0 := Pa.out.at (i := 0) rfl
  have ca1 := Pa.out.at (i := 1) rfl
  have ca2 := Pa.out.at (i := 2) rfl
  have cc0 := Pc.out.at (i := 0) rfl
  have cc1 := Pc.out.at (i := 1) rfl
  have cc2 := Pc.out.at (i := 2) rfl
  rw [← hV] at ca0 ca1 ca2 cc0 cc1 cc2
  have EV := hid hV
  clear hV
  go_wp2_with fail
  rw [EV.out]
  clear EV
  clear ca0 ca1 ca2 cc0 cc1 cc2
  refine (mul_yes Ma.out Mc.out (by omega)).mono ?_
  rintro e w45 ⟨v, rfl, hm, b⟩
  obtain ⟨ap, qp, rfl, -, -⟩ := hm.mx.form
  replace Ma := hid (Ma.out.now b)
  replace Mb := hid (Mb.out.now b)
  replace Mc := hid (Mc.out.now b)
  replace Md := hid (Md.out.now b)
  replace Mk := hid (Mk.out.now b)
  replace Mg := hid (Mg.out.now b)
  replace Mm := hid (Mm.out.now b)
  replace Pa := hid (Pa.out.step b)
  replace Pb := hid (Pb.out.step b)
  replace Pc := hid (Pc.out.step b)
  replace Pd := hid (Pd.out.step b)
  replace Pk := hid (Pk.out.step b)
  replace Pg := hid (Pg.out.step b)
  replace Pm := hid (Pm.out.step b)
  replace G := hid (below_step G.out b)
  have lz46 := (show Below _ _ _ from b).size
  obtain ⟨zp, hz⟩ : ∃ zp, prodL r c m xs us = zp := ⟨_, rfl⟩
  rw [hz] at hm
  have Ep := hid hz
  have Mp := hid hm
  clear hm hz b
  obtain ⟨V47, hV⟩ : ∃ V47, w45.alloc (matO r m (.slice ap (r * m) qp)) = V47 := ⟨_, rfl⟩
  obtain ⟨b, sz47⟩ := alo1 w45 (matO r m (.slice ap (r * m) qp))
  rw [hV] at b sz47
  replace Ma := hid (Ma.out.now b)
  replace Mb := hid (Mb.out.now b)
  replace Mc := hid (Mc.out.now b)
  replace Md := hid (Md.out.now b)
  replace Mk := hid (Mk.out.now b)
  replace Mg := hid (Mg.out.now b)
  replace Mm := hid (Mm.out.now b)
  replace Mp := hid (Mp.out.now b)
  replace Pa := hid (Pa.out.step b)
  replace Pb := hid (Pb.out.step b)
  replace Pc := hid (Pc.out.step b)
  replace Pd := hid (Pd.out.step b)
  replace Pk := hid (Pk.out.step b)
  replace Pg := hid (Pg.out.step b)
  replace Pm := hid (Pm.out.step b)
  replace G := hid (below_step G.out b)
  have lz48 := (show Below _ _ _ from b).size
  have Pp : Hid (Cel V47 w45.heap.size 24 (matc r m (.slice ap (r * m) qp))) := by unfold Hid; rw [← hV]; exact Cel.new w45 _ _
  clear b
  have cb0 := Pb.out.at (i := 0) rfl
  have cb1 := Pb.out.at (i := 1) rfl
  have cb2 := Pb.out.at (i := 2) rfl
  have cd0 := Pd.out.at (i := 0) rfl
  have cd1 := Pd.out.at (i := 1) rfl
  have cd2 := Pd.out.at (i := 2) rfl
  rw [← hV] at cb0 cb1 cb2 cd0 cd1 cd2
  have EV := hid hV
  clear hV
  go_wp2_with fail
  rw [EV.out]
  clear EV
  clear cb0 cb1 cb2 cd0 cd1 cd2
  refine (mul_yes Mb.out Md.out (by omega)).mono ?_
  rintro e w49 ⟨v, rfl, hm, b⟩
  obtain ⟨ao, qo, rfl, -, -⟩ := hm.mx.form
  replace Ma := hid (Ma.out.now b)
  replace Mb := hid (Mb.out.now b)
  replace Mc := hid (Mc.out.now b)
  replace Md := hid (Md.out.now b)
  replace Mk := hid (Mk.out.now b)
  replace Mg := hid (Mg.out.now b)
  replace Mm := hid (Mm.out.now b)
  replace Mp := hid (Mp.out.now b)
  replace Pa := hid (Pa.out.step b)
  replace Pb := hid (Pb.out.step b)
  replace Pc := hid (Pc.out.step b)
  replace Pd := hid (Pd.out.step b)
  replace Pk := hid (Pk.out.step b)
  replace Pg := hid (Pg.out.step b)
  replace Pm := hid (Pm.out.step b)
  replace Pp := hid (Pp.out.step b)
  replace G := hid (below_step G.out b)
  have lz50 := (show Below _ _ _ from b).size
  obtain ⟨zo, hz⟩ : ∃ zo, prodL p q f ys vs = zo := ⟨_, rfl⟩
  rw [hz] at hm
  have Eo := hid hz
  have Mo := hid hm
  clear hm hz b
  obtain ⟨V51, hV⟩ : ∃ V51, w49.alloc (matO p f (.slice ao (p * f) qo)) = V51 := ⟨_, rfl⟩
  obtain ⟨b, sz51⟩ := alo1 w49 (matO p f (.slice ao (p * f) qo))
  rw [hV] at b sz51
  replace Ma := hid (Ma.out.now b)
  replace Mb := hid (Mb.out.now b)
  replace Mc := hid (Mc.out.now b)
  replace Md := hid (Md.out.now b)
  replace Mk := hid (Mk.out.now b)
  replace Mg := hid (Mg.out.now b)
  replace Mm := hid (Mm.out.now b)
  replace Mp := hid (Mp.out.now b)
  replace Mo := hid (Mo.out.now b)
  replace Pa := hid (Pa.out.step b)
  replace Pb := hid (Pb.out.step b)
  replace Pc := hid (Pc.out.step b)
  replace Pd := hid (Pd.out.step b)
  replace Pk := hid (Pk.out.step b)
  replace Pg := hid (Pg.out.step b)
  replace Pm := hid (Pm.out.step b)
  replace Pp := hid (Pp.out.step b)
  replace G := hid (below_step G.out b)
  have lz52 := (show Below _ _ _ from b).size
  have Po : Hid (Cel V51 w49.heap.size 24 (matc p f (.slice ao (p * f) qo))) := by unfold Hid; rw [← hV]; exact Cel.new w49 _ _
  clear b
  have cp0 := Pp.out.at (i := 0) rfl
  have cp1 := Pp.out.at (i := 1) rfl
  have cp2 := Pp.out.at (i := 2) rfl
  have co0 := Po.out.at (i := 0) rfl
  have co1 := Po.out.at (i := 1) rfl
  have co2 := Po.out.at (i := 2) rfl
  rw [← hV] at cp0 cp1 cp2 co0 co1 co2
  have EV := hid hV
  clear hV
  go_wp2_with fail
  rw [EV.out]
  clear EV
  clear cp0 cp1 cp2 co0 co1 co2
  refine ((by have h := kron_yes Mp.out.mx Mo.out.mx (by rw [HR.out]; exact hl1.1) (by rw [HT.out]; exact hcd.2) (by omega); rw [HR.out, HT.out] at h; exact h : Calls Try.prog _ _ _ _)).mono ?_
  rintro e w53 ⟨v, rfl, hm, b⟩
  obtain ⟨ay, qy, rfl, -, -⟩ := hm.mx.form
  replace Ma := hid (Ma.out.now b)
  replace Mb := hid (Mb.out.now b)
  replace Mc := hid (Mc.out.now b)
  replace Md := hid (Md.out.now b)
  replace Mk := hid (Mk.out.now b)
  replace Mg := hid (Mg.out.now b)
  replace Mm := hid (Mm.out.now b)
  replace Mp := hid (Mp.out.now b)
  replace Mo := hid (Mo.out.now b)
  replace Pa := hid (Pa.out.step b)
  replace Pb := hid (Pb.out.step b)
  replace Pc := hid (Pc.out.step b)
  replace Pd := hid (Pd.out.step b)
  replace Pk := hid (Pk.out.step b)
  replace Pg := hid (Pg.out.step b)
  replace Pm := hid (Pm.out.step b)
  replace Pp := hid (Pp.out.step b)
  replace Po := hid (Po.out.step b)
  replace G := hid (below_step G.out b)
  have lz54 := (show Below _ _ _ from b).size
  obtain ⟨zy, hz⟩ : ∃ zy, kronL r m p f zp zo = zy := ⟨_, rfl⟩
  rw [hz] at hm
  have Ey := hid hz
  have My := hid hm
  clear hm hz b
  obtain ⟨V55, hV⟩ : ∃ V55, w53.alloc (matO R T9 (.slice ay (R * T9) qy)) = V55 := ⟨_, rfl⟩
  obtain ⟨b, sz55⟩ := alo1 w53 (matO R T9 (.slice ay (R * T9) qy))
  rw [hV] at b sz55
  replace Ma := hid (Ma.out.now b)
  replace Mb := hid (Mb.out.now b)
  replace Mc := hid (Mc.out.now b)
  replace Md := hid (Md.out.now b)
  replace Mk := hid (Mk.out.now b)
  replace Mg := hid (Mg.out.now b)
  replace Mm := hid (Mm.out.now b)
  replace Mp := hid (Mp.out.now b)
  replace Mo := hid (Mo.out.now b)
  replace My := hid (My.out.now b)
  replace Pa := hid (Pa.out.step b)
  replace Pb := hid (Pb.out.step b)
  replace Pc := hid (Pc.out.step b)
  replace Pd := hid (Pd.out.step b)
  replace Pk := hid (Pk.out.step b)
  replace Pg := hid (Pg.out.step b)
  replace Pm := hid (Pm.out.step b)
  replace Pp := hid (Pp.out.step b)
  replace Po := hid (Po.out.step b)
  replace G := hid (below_step G.out b)
  have lz56 := (show Below _ _ _ from b).size
  have Py : Hid (Cel V55 w53.heap.size 24 (matc R T9 (.slice ay (R * T9) qy))) := by unfold Hid; rw [← hV]; exact Cel.new w53 _ _
  clear b
  have cm0 := Pm.out.at (i := 0) rfl
  have cm1 := Pm.out.at (i := 1) rfl
  have cm2 := Pm.out.at (i := 2) rfl
  have cy0 := Py.out.at (i := 0) rfl
  have cy1 := Py.out.at (i := 1) rfl
  have cy2 := Py.out.at (i := 2) rfl
  rw [← hV] at cm0 cm1 cm2 cy0 cy1 cy2
  have EV := hid hV
  clear hV
  go_wp2_with fail
  rw [EV.out]
  clear EV
  clear cm0 cm1 cm2 cy0 cy1 cy2
  have EQ : Hid (zm = zy) := by
    unfold Hid
    rw [← Em.out, ← Ey.out, ← Ek.out, ← Eg.out, ← Ep.out, ← Eo.out, ← HR.out, ← HQ.out, ← HT.out]
    exact kron_mixed Ma.out.len9k Mb.out.len9k Mc.out.len9k Md.out.len9k
  refine (alikeMats9_yes Mm.out My.out EQ.out).mono ?_
  rintro e w57 ⟨rfl, b⟩
  replace Ma := hid (Ma.out.now b)
  replace Mb := hid (Mb.out.now b)
  replace Mc := hid (Mc.out.now b)
  replace Md := hid (Md.out.now b)
  replace Mk := hid (Mk.out.now b)
  replace Mg := hid (Mg.out.now b)
  replace Mm := hid (Mm.out.now b)
  replace Mp := hid (Mp.out.now b)
  replace Mo := hid (Mo.out.now b)
  replace My := hid (My.out.now b)
  replace Pa := hid (Pa.out.step b)
  replace Pb := hid (Pb.out.step b)
  replace Pc := hid (Pc.out.step b)
  replace Pd := hid (Pd.out.step b)
  replace Pk := hid (Pk.out.step b)
  replace Pg := hid (Pg.out.step b)
  replace Pm := hid (Pm.out.step b)
  replace Pp := hid (Pp.out.step b)
  replace Po := hid (Po.out.step b)
  replace Py := hid (Py.out.step b)
  replace G := hid (below_step G.out b)
  have lz58 := (show Below _ _ _ from b).size
  clear b
  go_wp2
  go_ret
  exact ⟨rfl, G.out⟩
end Go.Proofs.Ytojhmkkjjalonaa
