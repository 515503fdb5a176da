/-
  Ring10: the walk of SparseRing.
-/
import Derived.Test.YtachdicdfhfoaaaQTrace9ToRingP10
import Derived.Test.YtachdicdfhfoaaaQLaw10
import Derived.Test.YtachdicdfhfoaaaQAddNo9ToNil10
import Derived.Test.YtachdicdfhfoaaaQTurn10ToWk9
namespace Go.Proofs.Ytachdicdfhfoaaa
open Go.RowKit
set_option linter.unusedVariables false

theorem boxes2 {w W0 : World} {o1 o2 : List Value} (hW : (w.alloc (.cells o1.toArray 24)).alloc (.cells o2.toArray 24) = W0) :
    Cel W0 w.heap.size 24 o1 ∧ Cel W0 (w.heap.size + 1) 24 o2 := by
  refine ⟨?_, ?_⟩
  · rw [← hW]
    exact (Cel.new w 24 o1).step ((Below.refl _ _).alloc (Nat.le_refl _) _)
  · rw [← hW]
    have := Cel.new (w.alloc (.cells o1.toArray 24)) 24 o2
    simpa using this
theorem Mx.len10 {w : World} {v : Value} {r c : Nat} {zs : List Int} {k : Nat} (h : Mx w v r c zs k) : zs.length = r * c := by obtain ⟨_, _, _, _, _, h, _⟩ := h; exact h
set_option maxHeartbeats 6400000 in
set_option maxRecDepth 100000 in
theorem ring_ny {w : World} {ra ca : Int} {aa : Option Addr} {la qa : Nat} (ha : ¬ Snd ra ca la) {vb : Value} {m' c : Nat} {ys : List Int} (hb : Mx w vb m' c ys 1048576) : Calls Try.prog 4 #[.agg #[.int .i64 ra, .int .i64 ca, .slice aa la qa], vb] w (fun e w' => e = .returned (.bool true) ∧ Below w.heap.size w w') := by
  have Ba := hid ha
  have Mb := hid hb
  obtain ⟨ab, qb, rfl, -, -⟩ := hb.form
  obtain ⟨W0, hV⟩ : ∃ W0, (w.alloc (.cells #[.int .i64 (ra), .int .i64 (ca), .slice aa la qa] 24)).alloc (.cells #[.int .i64 (m' : Int), .int .i64 (c : Int), .slice ab (m' * c) qb] 24) = W0 := ⟨_, rfl⟩
  obtain ⟨b0, sz0⟩ := alloc2 w (.cells #[.int .i64 (ra), .int .i64 (ca), .slice aa la qa] 24) (.cells #[.int .i64 (m' : Int), .int .i64 (c : Int), .slice ab (m' * c) qb] 24)
  rw [hV] at b0 sz0
  obtain ⟨pa, pb⟩ := boxes2 (o1 := [.int .i64 (ra), .int .i64 (ca), .slice aa la qa]) (o2 := [.int .i64 (m' : Int), .int .i64 (c : Int), .slice ab (m' * c) qb]) hV
  have Pa := hid pa
  have Pb := hid pb
  have G := hid b0
  have EV := hid hV
  replace Mb := hid (Mb.out.now b0)
  clear b0 pa pb hV ha hb
  go_enter Try.func4, Try.ntmps4
  go_wp2_with fail
  rw [EV.out]
  clear EV
  refine (awake10 W0).mono ?_
  rintro e w11 ⟨rfl, b⟩
  replace Mb := hid (Mb.out.now b)
  replace Pa := hid (Pa.out.step b)
  replace Pb := hid (Pb.out.step b)
  replace G := hid (below_step G.out b)
  have lz12 := (show Below _ _ _ from b).size
  clear b
  have ca0 := Pa.out.at (i := 0) rfl
  have ca1 := Pa.out.at (i := 1) rfl
  have ca2 := Pa.out.at (i := 2) rfl
  go_wp2_with fail
  clear ca0 ca1 ca2
  refine (of_no (w := w11) Ba.out).mono ?_
  rintro e w13 ⟨rfl, b⟩
  replace Mb := hid (Mb.out.now b)
  replace Pa := hid (Pa.out.step b)
  replace Pb := hid (Pb.out.step b)
  replace G := hid (below_step G.out b)
  have lz14 := (show Below _ _ _ from b).size
  clear b
  have cb0 := Pb.out.at (i := 0) rfl
  have cb1 := Pb.out.at (i := 1) rfl
  have cb2 := Pb.out.at (i := 2) rfl
  go_wp2_with fail
  clear cb0 cb1 cb2
  refine (of_any Mb.out).mono ?_
  rintro e w15 ⟨gh, bh, rfl, hq, hgg, hbb, b⟩
  replace Mb := hid (Mb.out.now b)
  replace Pa := hid (Pa.out.step b)
  replace Pb := hid (Pb.out.step b)
  replace G := hid (below_step G.out b)
  have lz16 := (show Below _ _ _ from b).size
  have Qh := hid hq
  clear hq hgg hbb b
  have ca0 := Pa.out.at (i := 0) rfl
  have ca1 := Pa.out.at (i := 1) rfl
  have ca2 := Pa.out.at (i := 2) rfl
  go_wp2_with fail
  clear ca0 ca1 ca2
  refine (check_no (w := w15) Ba.out).mono ?_
  rintro e w17 ⟨rfl, b⟩
  replace Qh := hid (Qh.out.now b)
  replace Mb := hid (Mb.out.now b)
  replace Pa := hid (Pa.out.step b)
  replace Pb := hid (Pb.out.step b)
  replace G := hid (below_step G.out b)
  have lz18 := (show Below _ _ _ from b).size
  clear b
  have cb0 := Pb.out.at (i := 0) rfl
  have cb1 := Pb.out.at (i := 1) rfl
  have cb2 := Pb.out.at (i := 2) rfl
  go_wp2_with fail
  clear cb0 cb1 cb2
  refine (check_yes Mb.out).mono ?_
  rintro e w19 ⟨rfl, b⟩
  replace Qh := hid (Qh.out.now b)
  replace Mb := hid (Mb.out.now b)
  replace Pa := hid (Pa.out.step b)
  replace Pb := hid (Pb.out.step b)
  replace G := hid (below_step G.out b)
  have lz20 := (show Below _ _ _ from b).size
  clear b
  go_wp2
  go_ret
  exact ⟨rfl, G.out⟩
set_option maxHeartbeats 6400000 in
set_option maxRecDepth 100000 in
theorem ring_nn {w : World} {ra ca : Int} {aa : Option Addr} {la qa : Nat} (ha : ¬ Snd ra ca la) {rb cb : Int} {ab : Option Addr} {lb qb : Nat} (hb : ¬ Snd rb cb lb) : Calls Try.prog 4 #[.agg #[.int .i64 ra, .int .i64 ca, .slice aa la qa], .agg #[.int .i64 rb, .int .i64 cb, .slice ab lb qb]] w (fun e w' => e = .returned (.bool true) ∧ Below w.heap.size w w') := by
  have Ba := hid ha
  have Bb := hid hb
  obtain ⟨W0, hV⟩ : ∃ W0, (w.alloc (.cells #[.int .i64 (ra), .int .i64 (ca), .slice aa la qa] 24)).alloc (.cells #[.int .i64 (rb), .int .i64 (cb), .slice ab lb qb] 24) = W0 := ⟨_, rfl⟩
  obtain ⟨b0, sz0⟩ := alloc2 w (.cells #[.int .i64 (ra), .int .i64 (ca), .slice aa la qa] 24) (.cells #[.int .i64 (rb), .int .i64 (cb), .slice ab lb qb] 24)
  rw [hV] at b0 sz0
  obtain ⟨pa, pb⟩ := boxes2 (o1 := [.int .i64 (ra), .int .i64 (ca), .slice aa la qa]) (o2 := [.int .i64 (rb), .int .i64 (cb), .slice ab lb qb]) hV
  have Pa := hid pa
  have Pb := hid pb
  have G := hid b0
  have EV := hid hV
  clear b0 pa pb hV ha hb
  go_enter Try.func4, Try.ntmps4
  go_wp2_with fail
  rw [EV.out]
  clear EV
  refine (awake10 W0).mono ?_
  rintro e w11 ⟨rfl, b⟩
  replace Pa := hid (Pa.out.step b)
  replace Pb := hid (Pb.out.step b)
  replace G := hid (below_step G.out b)
  have lz12 := (show Below _ _ _ from b).size
  clear b
  have ca0 := Pa.out.at (i := 0) rfl
  have ca1 := Pa.out.at (i := 1) rfl
  have ca2 := Pa.out.at (i := 2) rfl
  go_wp2_with fail
  clear ca0 ca1 ca2
  refine (of_no (w := w11) Ba.out).mono ?_
  rintro e w13 ⟨rfl, b⟩
  replace Pa := hid (Pa.out.step b)
  replace Pb := hid (Pb.out.step b)
  replace G := hid (below_step G.out b)
  have lz14 := (show Below _ _ _ from b).size
  clear b
  have cb0 := Pb.out.at (i := 0) rfl
  have cb1 := Pb.out.at (i := 1) rfl
  have cb2 := Pb.out.at (i := 2) rfl
  go_wp2_with fail
  clear cb0 cb1 cb2
  refine (of_no (w := w13) Bb.out).mono ?_
  rintro e w15 ⟨rfl, b⟩
  replace Pa := hid (Pa.out.step b)
  replace Pb := hid (Pb.out.step b)
  replace G := hid (below_step G.out b)
  have lz16 := (show Below _ _ _ from b).size
  clear b
  have ca0 := Pa.out.at (i := 0) rfl
  have ca1 := Pa.out.at (i := 1) rfl
  have ca2 := Pa.out.at (i := 2) rfl
  go_wp2_with fail
  clear ca0 ca1 ca2
  refine (check_no (w := w15) Ba.out).mono ?_
  rintro e w17 ⟨rfl, b⟩
  replace Pa := hid (Pa.out.step b)
  replace Pb := hid (Pb.out.step b)
  replace G := hid (below_step G.out b)
  have lz18 := (show Below _ _ _ from b).size
  clear b
  have cb0 := Pb.out.at (i := 0) rfl
  have cb1 := Pb.out.at (i := 1) rfl
  have cb2 := Pb.out.at (i := 2) rfl
  go_wp2_with fail
  clear cb0 cb1 cb2
  refine (check_no (w := w17) Bb.out).mono ?_
  rintro e w19 ⟨rfl, b⟩
  replace Pa := hid (Pa.out.step b)
  replace Pb := hid (Pb.out.step b)
  replace G := hid (below_step G.out b)
  have lz20 := (show Below _ _ _ from b).size
  clear b
  go_wp2
  go_ret
  exact ⟨rfl, G.out⟩
set_option maxHeartbeats 6400000 in
set_option maxRecDepth 100000 in
theorem ring_yn {w : World} {va : Value} {r m : Nat} {xs : List Int} (ha : Mx w va r m xs 1048576) {rb cb : Int} {ab : Option Addr} {lb qb : Nat} (hb : ¬ Snd rb cb lb) : Calls Try.prog 4 #[va, .agg #[.int .i64 rb, .int .i64 cb, .slice ab lb qb]] w (fun e w' => e = .returned (.bool true) ∧ Below w.heap.size w w') := by
  have Ma := hid ha
  obtain ⟨aa, qa, rfl, -, -⟩ := ha.form
  have Bb := hid hb
  obtain ⟨W0, hV⟩ : ∃ W0, (w.alloc (.cells #[.int .i64 (r : Int), .int .i64 (m : Int), .slice aa (r * m) qa] 24)).alloc (.cells #[.int .i64 (rb), .int .i64 (cb), .slice ab lb qb] 24) = W0 := ⟨_, rfl⟩
  obtain ⟨b0, sz0⟩ := alloc2 w (.cells #[.int .i64 (r : Int), .int .i64 (m : Int), .slice aa (r * m) qa] 24) (.cells #[.int .i64 (rb), .int .i64 (cb), .slice ab lb qb] 24)
  rw [hV] at b0 sz0
  obtain ⟨pa, pb⟩ := boxes2 (o1 := [.int .i64 (r : Int), .int .i64 (m : Int), .slice aa (r * m) qa]) (o2 := [.int .i64 (rb), .int .i64 (cb), .slice ab lb qb]) hV
  have Pa := hid pa
  have Pb := hid pb
  have G := hid b0
  have EV := hid hV
  replace Ma := hid (Ma.out.now b0)
  clear b0 pa pb hV ha hb
  go_enter Try.func4, Try.ntmps4
  go_wp2_with fail
  rw [EV.out]
  clear EV
  refine (awake10 W0).mono ?_
  rintro e w11 ⟨rfl, b⟩
  replace Ma := hid (Ma.out.now b)
  replace Pa := hid (Pa.out.step b)
  replace Pb := hid (Pb.out.step b)
  replace G := hid (below_step G.out b)
  have lz12 := (show Below _ _ _ from b).size
  clear b
  have ca0 := Pa.out.at (i := 0) rfl
  have ca1 := Pa.out.at (i := 1) rfl
  have ca2 := Pa.out.at (i := 2) rfl
  go_wp2_with fail
  clear ca0 ca1 ca2
  refine (of_any Ma.out).mono ?_
  rintro e w13 ⟨gg, bg, rfl, hq, hgg, hbb, b⟩
  replace Ma := hid (Ma.out.now b)
  replace Pa := hid (Pa.out.step b)
  replace Pb := hid (Pb.out.step b)
  replace G := hid (below_step G.out b)
  have lz14 := (show Below _ _ _ from b).size
  have Qg := hid hq
  clear hq hgg hbb b
  have cb0 := Pb.out.at (i := 0) rfl
  have cb1 := Pb.out.at (i := 1) rfl
  have cb2 := Pb.out.at (i := 2) rfl
  go_wp2_with fail
  clear cb0 cb1 cb2
  refine (of_no (w := w13) Bb.out).mono ?_
  rintro e w15 ⟨rfl, b⟩
  replace Qg := hid (Qg.out.now b)
  replace Ma := hid (Ma.out.now b)
  replace Pa := hid (Pa.out.step b)
  replace Pb := hid (Pb.out.step b)
  replace G := hid (below_step G.out b)
  have lz16 := (show Below _ _ _ from b).size
  clear b
  have ca0 := Pa.out.at (i := 0) rfl
  have ca1 := Pa.out.at (i := 1) rfl
  have ca2 := Pa.out.at (i := 2) rfl
  go_wp2_with fail
  clear ca0 ca1 ca2
  refine (check_yes Ma.out).mono ?_
  rintro e w17 ⟨rfl, b⟩
  replace Qg := hid (Qg.out.now b)
  replace Ma := hid (Ma.out.now b)
  replace Pa := hid (Pa.out.step b)
  replace Pb := hid (Pb.out.step b)
  replace G := hid (below_step G.out b)
  have lz18 := (show Below _ _ _ from b).size
  clear b
  have cb0 := Pb.out.at (i := 0) rfl
  have cb1 := Pb.out.at (i := 1) rfl
  have cb2 := Pb.out.at (i := 2) rfl
  go_wp2_with fail
  clear cb0 cb1 cb2
  refine (check_no (w := w17) Bb.out).mono ?_
  rintro e w19 ⟨rfl, b⟩
  replace Qg := hid (Qg.out.now b)
  replace Ma := hid (Ma.out.now b)
  replace Pa := hid (Pa.out.step b)
  replace Pb := hid (Pb.out.step b)
  replace G := hid (below_step G.out b)
  have lz20 := (show Below _ _ _ from b).size
  clear b
  go_wp2
  go_ret
  exact ⟨rfl, G.out⟩
set_option maxHeartbeats 6400000 in
set_option maxRecDepth 100000 in
theorem ring_ma {w : World} {va vb : Value} {r : Nat} {xs ys : List Int} (ha : Mx w va r r xs 1048576) (hb : Mx w vb r r ys 1048576) : Calls Try.prog 4 #[va, vb] w (fun e w' => e = .returned (.bool true) ∧ Below w.heap.size w w') := by
  have Ma := hid ha
  have Mb := hid hb
  obtain ⟨aa, qa, rfl, sa1, sa2⟩ := ha.form
  obtain ⟨ab, qb, rfl, sb1, sb2⟩ := hb.form
  have LX := hid ha.len10
  obtain ⟨W0, hV⟩ : ∃ W0, (w.alloc (.cells #[.int .i64 (r : Int), .int .i64 (r : Int), .slice aa (r * r) qa] 24)).alloc (.cells #[.int .i64 (r : Int), .int .i64 (r : Int), .slice ab (r * r) qb] 24) = W0 := ⟨_, rfl⟩
  obtain ⟨b0, sz0⟩ := alloc2 w (.cells #[.int .i64 (r : Int), .int .i64 (r : Int), .slice aa (r * r) qa] 24) (.cells #[.int .i64 (r : Int), .int .i64 (r : Int), .slice ab (r * r) qb] 24)
  rw [hV] at b0 sz0
  obtain ⟨pa, pb⟩ := boxes2 (o1 := [.int .i64 (r : Int), .int .i64 (r : Int), .slice aa (r * r) qa]) (o2 := [.int .i64 (r : Int), .int .i64 (r : Int), .slice ab (r * r) qb]) hV
  have Pa := hid pa
  have Pb := hid pb
  have G := hid b0
  have EV := hid hV
  replace Ma := hid (Ma.out.now b0)
  replace Mb := hid (Mb.out.now b0)
  clear b0 pa pb hV ha hb
  go_enter Try.func4, Try.ntmps4
  go_wp2_with fail
  rw [EV.out]
  clear EV
  refine (awake10 W0).mono ?_
  rintro e w11 ⟨rfl, b⟩
  replace Ma := hid (Ma.out.now b)
  replace Mb := hid (Mb.out.now b)
  replace Pa := hid (Pa.out.step b)
  replace Pb := hid (Pb.out.step b)
  replace G := hid (below_step G.out b)
  have lz12 := (show Below _ _ _ from b).size
  clear b
  have ca0 := Pa.out.at (i := 0) rfl
  have ca1 := Pa.out.at (i := 1) rfl
  have ca2 := Pa.out.at (i := 2) rfl
  go_wp2_with fail
  clear ca0 ca1 ca2
  refine (of_any Ma.out).mono ?_
  rintro e w13 ⟨gg, bg, rfl, hq, hgg, hbb, b⟩
  replace Ma := hid (Ma.out.now b)
  replace Mb := hid (Mb.out.now b)
  replace Pa := hid (Pa.out.step b)
  replace Pb := hid (Pb.out.step b)
  replace G := hid (below_step G.out b)
  have lz14 := (show Below _ _ _ from b).size
  have Qg := hid hq
  clear hq hgg hbb b
  have cb0 := Pb.out.at (i := 0) rfl
  have cb1 := Pb.out.at (i := 1) rfl
  have cb2 := Pb.out.at (i := 2) rfl
  go_wp2_with fail
  clear cb0 cb1 cb2
  refine (of_any Mb.out).mono ?_
  rintro e w15 ⟨gh, bh, rfl, hq, hgg, hbb, b⟩
  replace Qg := hid (Qg.out.now b)
  replace Ma := hid (Ma.out.now b)
  replace Mb := hid (Mb.out.now b)
  replace Pa := hid (Pa.out.step b)
  replace Pb := hid (Pb.out.step b)
  replace G := hid (below_step G.out b)
  have lz16 := (show Below _ _ _ from b).size
  have Qh := hid hq
  clear hq hgg hbb b
  go_wp2_with fail
  refine (mulG_yes Qg.out Qh.out (by omega) (by omega) (by omega) (by omega)).mono ?_
  rintro e w17 ⟨gp, bp, rfl, hq, hgg, hbb, b⟩
  replace Qg := hid (Qg.out.now b)
  replace Qh := hid (Qh.out.now b)
  replace Ma := hid (Ma.out.now b)
  replace Mb := hid (Mb.out.now b)
  replace Pa := hid (Pa.out.step b)
  replace Pb := hid (Pb.out.step b)
  replace G := hid (below_step G.out b)
  have lz18 := (show Below _ _ _ from b).size
  have Qp := hid hq
  clear hq hgg hbb b
  have ca0 := Pa.out.at (i := 0) rfl
  have ca1 := Pa.out.at (i := 1) rfl
  have ca2 := Pa.out.at (i := 2) rfl
  have cb0 := Pb.out.at (i := 0) rfl
  have cb1 := Pb.out.at (i := 1) rfl
  have cb2 := Pb.out.at (i := 2) rfl
  go_wp2_with fail
  clear ca0 ca1 ca2 cb0 cb1 cb2
  refine (mul_yes Ma.out Mb.out (by omega)).mono ?_
  rintro e w19 ⟨v, rfl, hm, b⟩
  obtain ⟨au, qu, rfl, -, -⟩ := hm.mx.form
  replace Qg := hid (Qg.out.now b)
  replace Qh := hid (Qh.out.now b)
  replace Qp := hid (Qp.out.now b)
  replace Ma := hid (Ma.out.now b)
  replace Mb := hid (Mb.out.now b)
  replace Pa := hid (Pa.out.step b)
  replace Pb := hid (Pb.out.step b)
  replace G := hid (below_step G.out b)
  have lz20 := (show Below _ _ _ from b).size
  obtain ⟨zu, hz⟩ : ∃ zu, prodL r r r xs ys = zu := ⟨_, rfl⟩
  rw [hz] at hm
  have Eu := hid hz
  have Mu := hid hm
  clear hm hz b
  obtain ⟨V21, hV⟩ : ∃ V21, w19.alloc (matO r r (.slice au (r * r) qu)) = V21 := ⟨_, rfl⟩
  obtain ⟨b, sz21⟩ := alo1 w19 (matO r r (.slice au (r * r) qu))
  rw [hV] at b sz21
  replace Qg := hid (Qg.out.now b)
  replace Qh := hid (Qh.out.now b)
  replace Qp := hid (Qp.out.now b)
  replace Ma := hid (Ma.out.now b)
  replace Mb := hid (Mb.out.now b)
  replace Mu := hid (Mu.out.now b)
  replace Pa := hid (Pa.out.step b)
  replace Pb := hid (Pb.out.step b)
  replace G := hid (below_step G.out b)
  have lz22 := (show Below _ _ _ from b).size
  have Pu : Hid (Cel V21 w19.heap.size 24 (matc r r (.slice au (r * r) qu))) := by unfold Hid; rw [← hV]; exact Cel.new w19 _ _
  clear b
  have EV := hid hV
  clear hV
  go_wp2_with fail
  rw [EV.out]
  clear EV
  refine (dense_any Qp.out (by omega) (by omega)).mono ?_
  rintro e w23 ⟨v, rfl, hm, b⟩
  obtain ⟨ax, qx, rfl, -, -⟩ := hm.mx.form
  replace Qg := hid (Qg.out.now b)
  replace Qh := hid (Qh.out.now b)
  replace Qp := hid (Qp.out.now b)
  replace Ma := hid (Ma.out.now b)
  replace Mb := hid (Mb.out.now b)
  replace Mu := hid (Mu.out.now b)
  replace Pa := hid (Pa.out.step b)
  replace Pb := hid (Pb.out.step b)
  replace Pu := hid (Pu.out.step b)
  replace G := hid (below_step G.out b)
  have lz24 := (show Below _ _ _ from b).size
  obtain ⟨zx, hz⟩ : ∃ zx, dnL r r (piS r (fun _ => false) (ofF r xs (r * r)) (ofF r ys (r * r))) = zx := ⟨_, rfl⟩
  rw [hz] at hm
  have Ex := hid hz
  have Mx := hid hm
  clear hm hz b
  obtain ⟨V25, hV⟩ : ∃ V25, w23.alloc (matO r r (.slice ax (r * r) qx)) = V25 := ⟨_, rfl⟩
  obtain ⟨b, sz25⟩ := alo1 w23 (matO r r (.slice ax (r * r) qx))
  rw [hV] at b sz25
  replace Qg := hid (Qg.out.now b)
  replace Qh := hid (Qh.out.now b)
  replace Qp := hid (Qp.out.now b)
  replace Ma := hid (Ma.out.now b)
  replace Mb := hid (Mb.out.now b)
  replace Mu := hid (Mu.out.now b)
  replace Mx := hid (Mx.out.now b)
  replace Pa := hid (Pa.out.step b)
  replace Pb := hid (Pb.out.step b)
  replace Pu := hid (Pu.out.step b)
  replace G := hid (below_step G.out b)
  have lz26 := (show Below _ _ _ from b).size
  have Px : Hid (Cel V25 w23.heap.size 24 (matc r r (.slice ax (r * r) qx))) := by unfold Hid; rw [← hV]; exact Cel.new w23 _ _
  clear b
  have cx0 := Px.out.at (i := 0) rfl
  have cx1 := Px.out.at (i := 1) rfl
  have cx2 := Px.out.at (i := 2) rfl
  have cu0 := Pu.out.at (i := 0) rfl
  have cu1 := Pu.out.at (i := 1) rfl
  have cu2 := Pu.out.at (i := 2) rfl
  rw [← hV] at cx0 cx1 cx2 cu0 cu1 cu2
  have EV := hid hV
  clear hV
  go_wp2_with fail
  rw [EV.out]
  clear EV
  clear cx0 cx1 cx2 cu0 cu1 cu2
  refine (mats10_yes Mx.out Mu.out (by rw [← Ex.out, ← Eu.out]; exact dn_mul LX.out)).mono ?_
  rintro e w27 ⟨rfl, b⟩
  replace Qg := hid (Qg.out.now b)
  replace Qh := hid (Qh.out.now b)
  replace Qp := hid (Qp.out.now b)
  replace Ma := hid (Ma.out.now b)
  replace Mb := hid (Mb.out.now b)
  replace Mu := hid (Mu.out.now b)
  replace Mx := hid (Mx.out.now b)
  replace Pa := hid (Pa.out.step b)
  replace Pb := hid (Pb.out.step b)
  replace Pu := hid (Pu.out.step b)
  replace Px := hid (Px.out.step b)
  replace G := hid (below_step G.out b)
  have lz28 := (show Below _ _ _ from b).size
  clear b
  clear Mx
  clear Mu
  clear Ex Eu
  clear Qp
  go_wp2_with fail
  refine (addG_yes Qg.out Qh.out (by omega) (by omega) (by omega)).mono ?_
  rintro e w29 ⟨gp, bp, rfl, hq, hgg, hbb, b⟩
  replace Qg := hid (Qg.out.now b)
  replace Qh := hid (Qh.out.now b)
  replace Ma := hid (Ma.out.now b)
  replace Mb := hid (Mb.out.now b)
  replace Pa := hid (Pa.out.step b)
  replace Pb := hid (Pb.out.step b)
  replace Pu := hid (Pu.out.step b)
  replace Px := hid (Px.out.step b)
  replace G := hid (below_step G.out b)
  have lz30 := (show Below _ _ _ from b).size
  have Qp := hid hq
  clear hq hgg hbb b
  have ca0 := Pa.out.at (i := 0) rfl
  have ca1 := Pa.out.at (i := 1) rfl
  have ca2 := Pa.out.at (i := 2) rfl
  have cb0 := Pb.out.at (i := 0) rfl
  have cb1 := Pb.out.at (i := 1) rfl
  have cb2 := Pb.out.at (i := 2) rfl
  go_wp2_with fail
  clear ca0 ca1 ca2 cb0 cb1 cb2
  refine (add_yes Ma.out Mb.out (by omega)).mono ?_
  rintro e w31 ⟨v, rfl, hm, b⟩
  obtain ⟨au, qu, rfl, -, -⟩ := hm.mx.form
  replace Qg := hid (Qg.out.now b)
  replace Qh := hid (Qh.out.now b)
  replace Qp := hid (Qp.out.now b)
  replace Ma := hid (Ma.out.now b)
  replace Mb := hid (Mb.out.now b)
  replace Pa := hid (Pa.out.step b)
  replace Pb := hid (Pb.out.step b)
  replace Pu := hid (Pu.out.step b)
  replace Px := hid (Px.out.step b)
  replace G := hid (below_step G.out b)
  have lz32 := (show Below _ _ _ from b).size
  obtain ⟨zu, hz⟩ : ∃ zu, addL (r * r) xs ys = zu := ⟨_, rfl⟩
  rw [hz] at hm
  have Eu := hid hz
  have Mu := hid hm
  clear hm hz b
  have du0 := Pu.out.at (i := 0) rfl
  have fu0 := Pu.out.fz 0
  have du1 := Pu.out.at (i := 1) rfl
  have fu1 := Pu.out.fz 1
  have du2 := Pu.out.at (i := 2) rfl
  have fu2 := Pu.out.fz 2
  replace Qg := hid (Qg.out.off3 Pu.out (.int .i64 (r : Int)) (.int .i64 (r : Int)) (.slice au (r * r) qu))
  replace Qh := hid (Qh.out.off3 Pu.out (.int .i64 (r : Int)) (.int .i64 (r : Int)) (.slice au (r * r) qu))
  replace Qp := hid (Qp.out.off3 Pu.out (.int .i64 (r : Int)) (.int .i64 (r : Int)) (.slice au (r * r) qu))
  obtain ⟨V33, hV⟩ : ∃ V33, put3 w31 (w19.heap.size) (.int .i64 (r : Int)) (.int .i64 (r : Int)) (.slice au (r * r) qu) = V33 := ⟨_, rfl⟩
  replace Ma := hid (Ma.out.wk Pu.out (.int .i64 (r : Int)) (.int .i64 (r : Int)) (.slice au (r * r) qu))
  replace Mb := hid (Mb.out.wk Pu.out (.int .i64 (r : Int)) (.int .i64 (r : Int)) (.slice au (r * r) qu))
  replace Mu := hid (Mu.out.wk Pu.out (.int .i64 (r : Int)) (.int .i64 (r : Int)) (.slice au (r * r) qu))
  replace Pa := hid (Pa.out.away3 (b' := w19.heap.size) (by omega) (.int .i64 (r : Int)) (.int .i64 (r : Int)) (.slice au (r * r) qu))
  replace Pb := hid (Pb.out.away3 (b' := w19.heap.size) (by omega) (.int .i64 (r : Int)) (.int .i64 (r : Int)) (.slice au (r * r) qu))
  replace Px := hid (Px.out.away3 (b' := w19.heap.size) (by omega) (.int .i64 (r : Int)) (.int .i64 (r : Int)) (.slice au (r * r) qu))
  replace Pu := hid (Pu.out.put3 (.int .i64 (r : Int)) (.int .i64 (r : Int)) (.slice au (r * r) qu))
  replace G := hid (below_put3 G.out (b := w19.heap.size) (by omega) (.int .i64 (r : Int)) (.int .i64 (r : Int)) (.slice au (r * r) qu))
  rw [hV] at G Ma Mb Mu Pa Pb Pu Px
  have lz33 : V33.heap.size = w31.heap.size := by rw [← hV]; simp
  rw [hV] at Qg Qh Qp
  have EV : Hid (((w31.setCell ⟨w19.heap.size, 0, none⟩ (.int .i64 (r : Int))).setCell ⟨w19.heap.size, 1, none⟩ (.int .i64 (r : Int))).setCell ⟨w19.heap.size, 2, none⟩ (.slice au (r * r) qu) = V33) := hV
  clear hV
  go_wp2_with fail
  rw [EV.out]
  clear EV du0 fu0 du1 fu1 du2 fu2
  refine (dense_any Qp.out (by omega) (by omega)).mono ?_
  rintro e w34 ⟨v, rfl, hm, b⟩
  obtain ⟨ax, qx, rfl, -, -⟩ := hm.mx.form
  replace Qg := hid (Qg.out.now b)
  replace Qh := hid (Qh.out.now b)
  replace Qp := hid (Qp.out.now b)
  replace Ma := hid (Ma.out.now b)
  replace Mb := hid (Mb.out.now b)
  replace Mu := hid (Mu.out.now b)
  replace Pa := hid (Pa.out.step b)
  replace Pb := hid (Pb.out.step b)
  replace Pu := hid (Pu.out.step b)
  replace Px := hid (Px.out.step b)
  replace G := hid (below_step G.out b)
  have lz35 := (show Below _ _ _ from b).size
  obtain ⟨zx, hz⟩ : ∃ zx, dnL r r (fun i j => ofF r xs (r * r) i j + ofF r ys (r * r) i j) = zx := ⟨_, rfl⟩
  rw [hz] at hm
  have Ex := hid hz
  have Mx := hid hm
  clear hm hz b
  have dx0 := Px.out.at (i := 0) rfl
  have fx0 := Px.out.fz 0
  have dx1 := Px.out.at (i := 1) rfl
  have fx1 := Px.out.fz 1
  have dx2 := Px.out.at (i := 2) rfl
  have fx2 := Px.out.fz 2
  replace Qg := hid (Qg.out.off3 Px.out (.int .i64 (r : Int)) (.int .i64 (r : Int)) (.slice ax (r * r) qx))
  replace Qh := hid (Qh.out.off3 Px.out (.int .i64 (r : Int)) (.int .i64 (r : Int)) (.slice ax (r * r) qx))
  replace Qp := hid (Qp.out.off3 Px.out (.int .i64 (r : Int)) (.int .i64 (r : Int)) (.slice ax (r * r) qx))
  obtain ⟨V36, hV⟩ : ∃ V36, put3 w34 (w23.heap.size) (.int .i64 (r : Int)) (.int .i64 (r : Int)) (.slice ax (r * r) qx) = V36 := ⟨_, rfl⟩
  replace Ma := hid (Ma.out.wk Px.out (.int .i64 (r : Int)) (.int .i64 (r : Int)) (.slice ax (r * r) qx))
  replace Mb := hid (Mb.out.wk Px.out (.int .i64 (r : Int)) (.int .i64 (r : Int)) (.slice ax (r * r) qx))
  replace Mu := hid (Mu.out.wk Px.out (.int .i64 (r : Int)) (.int .i64 (r : Int)) (.slice ax (r * r) qx))
  replace Mx := hid (Mx.out.wk Px.out (.int .i64 (r : Int)) (.int .i64 (r : Int)) (.slice ax (r * r) qx))
  replace Pa := hid (Pa.out.away3 (b' := w23.heap.size) (by omega) (.int .i64 (r : Int)) (.int .i64 (r : Int)) (.slice ax (r * r) qx))
  replace Pb := hid (Pb.out.away3 (b' := w23.heap.size) (by omega) (.int .i64 (r : Int)) (.int .i64 (r : Int)) (.slice ax (r * r) qx))
  replace Pu := hid (Pu.out.away3 (b' := w23.heap.size) (by omega) (.int .i64 (r : Int)) (.int .i64 (r : Int)) (.slice ax (r * r) qx))
  replace Px := hid (Px.out.put3 (.int .i64 (r : Int)) (.int .i64 (r : Int)) (.slice ax (r * r) qx))
  replace G := hid (below_put3 G.out (b := w23.heap.size) (by omega) (.int .i64 (r : Int)) (.int .i64 (r : Int)) (.slice ax (r * r) qx))
  rw [hV] at G Ma Mb Mu Mx Pa Pb Pu Px
  have lz36 : V36.heap.size = w34.heap.size := by rw [← hV]; simp
  rw [hV] at Qg Qh Qp
  have cx0 := Px.out.at (i := 0) rfl
  have cx1 := Px.out.at (i := 1) rfl
  have cx2 := Px.out.at (i := 2) rfl
  have cu0 := Pu.out.at (i := 0) rfl
  have cu1 := Pu.out.at (i := 1) rfl
  have cu2 := Pu.out.at (i := 2) rfl
  rw [← hV] at cx0 cx1 cx2 cu0 cu1 cu2
  have EV : Hid (((w34.setCell ⟨w23.heap.size, 0, none⟩ (.int .i64 (r : Int))).setCell ⟨w23.heap.size, 1, none⟩ (.int .i64 (r : Int))).setCell ⟨w23.heap.size, 2, none⟩ (.slice ax (r * r) qx) = V36) := hV
  clear hV
  go_wp2_with fail
  rw [EV.out]
  clear EV dx0 fx0 dx1 fx1 dx2 fx2 cx0 cx1 cx2 cu0 cu1 cu2
  refine (mats10_yes Mx.out Mu.out (by rw [← Ex.out, ← Eu.out]; exact dn_add)).mono ?_
  rintro e w37 ⟨rfl, b⟩
  replace Qg := hid (Qg.out.now b)
  replace Qh := hid (Qh.out.now b)
  replace Qp := hid (Qp.out.now b)
  replace Ma := hid (Ma.out.now b)
  replace Mb := hid (Mb.out.now b)
  replace Mu := hid (Mu.out.now b)
  replace Mx := hid (Mx.out.now b)
  replace Pa := hid (Pa.out.step b)
  replace Pb := hid (Pb.out.step b)
  replace Pu := hid (Pu.out.step b)
  replace Px := hid (Px.out.step b)
  replace G := hid (below_step G.out b)
  have lz38 := (show Below _ _ _ from b).size
  clear b
  clear Mx
  clear Mu
  clear Ex Eu
  clear Qp
  go_wp2_with fail
  refine (turn_any Qg.out).mono ?_
  rintro e w39 ⟨gp, bp, rfl, hq, hgg, hbb, b⟩
  replace Qg := hid (Qg.out.now b)
  replace Qh := hid (Qh.out.now b)
  replace Ma := hid (Ma.out.now b)
  replace Mb := hid (Mb.out.now b)
  replace Pa := hid (Pa.out.step b)
  replace Pb := hid (Pb.out.step b)
  replace Pu := hid (Pu.out.step b)
  replace Px := hid (Px.out.step b)
  replace G := hid (below_step G.out b)
  have lz40 := (show Below _ _ _ from b).size
  have Qp := hid hq
  clear hq hgg hbb b
  have ca0 := Pa.out.at (i := 0) rfl
  have ca1 := Pa.out.at (i := 1) rfl
  have ca2 := Pa.out.at (i := 2) rfl
  go_wp2_with fail
  clear ca0 ca1 ca2
  refine (turn_yes Ma.out).mono ?_
  rintro e w41 ⟨v, rfl, hm, b⟩
  obtain ⟨au, qu, rfl, -, -⟩ := hm.mx.form
  replace Qg := hid (Qg.out.now b)
  replace Qh := hid (Qh.out.now b)
  replace Qp := hid (Qp.out.now b)
  replace Ma := hid (Ma.out.now b)
  replace Mb := hid (Mb.out.now b)
  replace Pa := hid (Pa.out.step b)
  replace Pb := hid (Pb.out.step b)
  replace Pu := hid (Pu.out.step b)
  replace Px := hid (Px.out.step b)
  replace G := hid (below_step G.out b)
  have lz42 := (show Below _ _ _ from b).size
  obtain ⟨zu, hz⟩ : ∃ zu, turnL9 r r xs = zu := ⟨_, rfl⟩
  rw [hz] at hm
  have Eu := hid hz
  have Mu := hid hm
  clear hm hz b
  have du0 := Pu.out.at (i := 0) rfl
  have fu0 := Pu.out.fz 0
  have du1 := Pu.out.at (i := 1) rfl
  have fu1 := Pu.out.fz 1
  have du2 := Pu.out.at (i := 2) rfl
  have fu2 := Pu.out.fz 2
  replace Qg := hid (Qg.out.off3 Pu.out (.int .i64 (r : Int)) (.int .i64 (r : Int)) (.slice au (r * r) qu))
  replace Qh := hid (Qh.out.off3 Pu.out (.int .i64 (r : Int)) (.int .i64 (r : Int)) (.slice au (r * r) qu))
  replace Qp := hid (Qp.out.off3 Pu.out (.int .i64 (r : Int)) (.int .i64 (r : Int)) (.slice au (r * r) qu))
  obtain ⟨V43, hV⟩ : ∃ V43, put3 w41 (w19.heap.size) (.int .i64 (r : Int)) (.int .i64 (r : Int)) (.slice au (r * r) qu) = V43 := ⟨_, rfl⟩
  replace Ma := hid (Ma.out.wk Pu.out (.int .i64 (r : Int)) (.int .i64 (r : Int)) (.slice au (r * r) qu))
  replace Mb := hid (Mb.out.wk Pu.out (.int .i64 (r : Int)) (.int .i64 (r : Int)) (.slice au (r * r) qu))
  replace Mu := hid (Mu.out.wk Pu.out (.int .i64 (r : Int)) (.int .i64 (r : Int)) (.slice au (r * r) qu))
  replace Pa := hid (Pa.out.away3 (b' := w19.heap.size) (by omega) (.int .i64 (r : Int)) (.int .i64 (r : Int)) (.slice au (r * r) qu))
  replace Pb := hid (Pb.out.away3 (b' := w19.heap.size) (by omega) (.int .i64 (r : Int)) (.int .i64 (r : Int)) (.slice au (r * r) qu))
  replace Px := hid (Px.out.away3 (b' := w19.heap.size) (by omega) (.int .i64 (r : Int)) (.int .i64 (r : Int)) (.slice au (r * r) qu))
  replace Pu := hid (Pu.out.put3 (.int .i64 (r : Int)) (.int .i64 (r : Int)) (.slice au (r * r) qu))
  replace G := hid (below_put3 G.out (b := w19.heap.size) (by omega) (.int .i64 (r : Int)) (.int .i64 (r : Int)) (.slice au (r * r) qu))
  rw [hV] at G Ma Mb Mu Pa Pb Pu Px
  have lz43 : V43.heap.size = w41.heap.size := by rw [← hV]; simp
  rw [hV] at Qg Qh Qp
  have EV : Hid (((w41.setCell ⟨w19.heap.size, 0, none⟩ (.int .i64 (r : Int))).setCell ⟨w19.heap.size, 1, none⟩ (.int .i64 (r : Int))).setCell ⟨w19.heap.size, 2, none⟩ (.slice au (r * r) qu) = V43) := hV
  clear hV
  go_wp2_with fail
  rw [EV.out]
  clear EV du0 fu0 du1 fu1 du2 fu2
  refine (dense_any Qp.out (by omega) (by omega)).mono ?_
  rintro e w44 ⟨v, rfl, hm, b⟩
  obtain ⟨ax, qx, rfl, -, -⟩ := hm.mx.form
  replace Qg := hid (Qg.out.now b)
  replace Qh := hid (Qh.out.now b)
  replace Qp := hid (Qp.out.now b)
  replace Ma := hid (Ma.out.now b)
  replace Mb := hid (Mb.out.now b)
  replace Mu := hid (Mu.out.now b)
  replace Pa := hid (Pa.out.step b)
  replace Pb := hid (Pb.out.step b)
  replace Pu := hid (Pu.out.step b)
  replace Px := hid (Px.out.step b)
  replace G := hid (below_step G.out b)
  have lz45 := (show Below _ _ _ from b).size
  obtain ⟨zx, hz⟩ : ∃ zx, dnL r r (fun i j => ofF r xs (r * r) j i) = zx := ⟨_, rfl⟩
  rw [hz] at hm
  have Ex := hid hz
  have Mx := hid hm
  clear hm hz b
  have dx0 := Px.out.at (i := 0) rfl
  have fx0 := Px.out.fz 0
  have dx1 := Px.out.at (i := 1) rfl
  have fx1 := Px.out.fz 1
  have dx2 := Px.out.at (i := 2) rfl
  have fx2 := Px.out.fz 2
  replace Qg := hid (Qg.out.off3 Px.out (.int .i64 (r : Int)) (.int .i64 (r : Int)) (.slice ax (r * r) qx))
  replace Qh := hid (Qh.out.off3 Px.out (.int .i64 (r : Int)) (.int .i64 (r : Int)) (.slice ax (r * r) qx))
  replace Qp := hid (Qp.out.off3 Px.out (.int .i64 (r : Int)) (.int .i64 (r : Int)) (.slice ax (r * r) qx))
  obtain ⟨V46, hV⟩ : ∃ V46, put3 w44 (w23.heap.size) (.int .i64 (r : Int)) (.int .i64 (r : Int)) (.slice ax (r * r) qx) = V46 := ⟨_, rfl⟩
  replace Ma := hid (Ma.out.wk Px.out (.int .i64 (r : Int)) (.int .i64 (r : Int)) (.slice ax (r * r) qx))
  replace Mb := hid (Mb.out.wk Px.out (.int .i64 (r : Int)) (.int .i64 (r : Int)) (.slice ax (r * r) qx))
  replace Mu := hid (Mu.out.wk Px.out (.int .i64 (r : Int)) (.int .i64 (r : Int)) (.slice ax (r * r) qx))
  replace Mx := hid (Mx.out.wk Px.out (.int .i64 (r : Int)) (.int .i64 (r : Int)) (.slice ax (r * r) qx))
  replace Pa := hid (Pa.out.away3 (b' := w23.heap.size) (by omega) (.int .i64 (r : Int)) (.int .i64 (r : Int)) (.slice ax (r * r) qx))
  replace Pb := hid (Pb.out.away3 (b' := w23.heap.size) (by omega) (.int .i64 (r : Int)) (.int .i64 (r : Int)) (.slice ax (r * r) qx))
  replace Pu := hid (Pu.out.away3 (b' := w23.heap.size) (by omega) (.int .i64 (r : Int)) (.int .i64 (r : Int)) (.slice ax (r * r) qx))
  replace Px := hid (Px.out.put3 (.int .i64 (r : Int)) (.int .i64 (r : Int)) (.slice ax (r * r) qx))
  replace G := hid (below_put3 G.out (b := w23.heap.size) (by omega) (.int .i64 (r : Int)) (.int .i64 (r : Int)) (.slice ax (r * r) qx))
  rw [hV] at G Ma Mb Mu Mx Pa Pb Pu Px
  have lz46 : V46.heap.size = w44.heap.size := by rw [← hV]; simp
  rw [hV] at Qg Qh Qp
  have cx0 := Px.out.at (i := 0) rfl
  have cx1 := Px.out.at (i := 1) rfl
  have cx2 := Px.out.at (i := 2) rfl
  have cu0 := Pu.out.at (i := 0) rfl
  have cu1 := Pu.out.at (i := 1) rfl
  have cu2 := Pu.out.at (i := 2) rfl
  rw [← hV] at cx0 cx1 cx2 cu0 cu1 cu2
  have EV : Hid (((w44.setCell ⟨w23.heap.size, 0, none⟩ (.int .i64 (r : Int))).setCell ⟨w23.heap.size, 1, none⟩ (.int .i64 (r : Int))).setCell ⟨w23.heap.size, 2, none⟩ (.slice ax (r * r) qx) = V46) := hV
  clear hV
  go_wp2_with fail
  rw [EV.out]
  clear EV dx0 fx0 dx1 fx1 dx2 fx2 cx0 cx1 cx2 cu0 cu1 cu2
  refine (mats10_yes Mx.out Mu.out (by rw [← Ex.out, ← Eu.out]; exact dn_turn)).mono ?_
  rintro e w47 ⟨rfl, b⟩
  replace Qg := hid (Qg.out.now b)
  replace Qh := hid (Qh.out.now b)
  replace Qp := hid (Qp.out.now b)
  replace Ma := hid (Ma.out.now b)
  replace Mb := hid (Mb.out.now b)
  replace Mu := hid (Mu.out.now b)
  replace Mx := hid (Mx.out.now b)
  replace Pa := hid (Pa.out.step b)
  replace Pb := hid (Pb.out.step b)
  replace Pu := hid (Pu.out.step b)
  replace Px := hid (Px.out.step b)
  replace G := hid (below_step G.out b)
  have lz48 := (show Below _ _ _ from b).size
  clear b
  clear Mx
  clear Mu
  clear Ex Eu
  go_wp2
  go_ret
  exact ⟨rfl, G.out⟩
set_option maxHeartbeats 6400000 in
set_option maxRecDepth 100000 in
theorem ring_ka {w : World} {va vb : Value} {m r : Nat} {xs ys : List Int} (ha : Mx w va r m xs 1048576) (hb : Mx w vb r m ys 1048576) (hm : m ≠ r) : Calls Try.prog 4 #[va, vb] w (fun e w' => e = .returned (.bool true) ∧ Below w.heap.size w w') := by
  have Ma := hid ha
  have Mb := hid hb
  obtain ⟨aa, qa, rfl, sa1, sa2⟩ := ha.form
  obtain ⟨ab, qb, rfl, sb1, sb2⟩ := hb.form
  have LX := hid ha.len10
  obtain ⟨W0, hV⟩ : ∃ W0, (w.alloc (.cells #[.int .i64 (r : Int), .int .i64 (m : Int), .slice aa (r * m) qa] 24)).alloc (.cells #[.int .i64 (r : Int), .int .i64 (m : Int), .slice ab (r * m) qb] 24) = W0 := ⟨_, rfl⟩
  obtain ⟨b0, sz0⟩ := alloc2 w (.cells #[.int .i64 (r : Int), .int .i64 (m : Int), .slice aa (r * m) qa] 24) (.cells #[.int .i64 (r : Int), .int .i64 (m : Int), .slice ab (r * m) qb] 24)
  rw [hV] at b0 sz0
  obtain ⟨pa, pb⟩ := boxes2 (o1 := [.int .i64 (r : Int), .int .i64 (m : Int), .slice aa (r * m) qa]) (o2 := [.int .i64 (r : Int), .int .i64 (m : Int), .slice ab (r * m) qb]) hV
  have Pa := hid pa
  have Pb := hid pb
  have G := hid b0
  have EV := hid hV
  replace Ma := hid (Ma.out.now b0)
  replace Mb := hid (Mb.out.now b0)
  clear b0 pa pb hV ha hb
  have HMM := hid hm
  clear hm
  go_enter Try.func4, Try.ntmps4
  go_wp2_with fail
  rw [EV.out]
  clear EV
  refine (awake10 W0).mono ?_
  rintro e w11 ⟨rfl, b⟩
  replace Ma := hid (Ma.out.now b)
  replace Mb := hid (Mb.out.now b)
  replace Pa := hid (Pa.out.step b)
  replace Pb := hid (Pb.out.step b)
  replace G := hid (below_step G.out b)
  have lz12 := (show Below _ _ _ from b).size
  clear b
  have ca0 := Pa.out.at (i := 0) rfl
  have ca1 := Pa.out.at (i := 1) rfl
  have ca2 := Pa.out.at (i := 2) rfl
  go_wp2_with fail
  clear ca0 ca1 ca2
  refine (of_any Ma.out).mono ?_
  rintro e w13 ⟨gg, bg, rfl, hq, hgg, hbb, b⟩
  replace Ma := hid (Ma.out.now b)
  replace Mb := hid (Mb.out.now b)
  replace Pa := hid (Pa.out.step b)
  replace Pb := hid (Pb.out.step b)
  replace G := hid (below_step G.out b)
  have lz14 := (show Below _ _ _ from b).size
  have Qg := hid hq
  clear hq hgg hbb b
  have cb0 := Pb.out.at (i := 0) rfl
  have cb1 := Pb.out.at (i := 1) rfl
  have cb2 := Pb.out.at (i := 2) rfl
  go_wp2_with fail
  clear cb0 cb1 cb2
  refine (of_any Mb.out).mono ?_
  rintro e w15 ⟨gh, bh, rfl, hq, hgg, hbb, b⟩
  replace Qg := hid (Qg.out.now b)
  replace Ma := hid (Ma.out.now b)
  replace Mb := hid (Mb.out.now b)
  replace Pa := hid (Pa.out.step b)
  replace Pb := hid (Pb.out.step b)
  replace G := hid (below_step G.out b)
  have lz16 := (show Below _ _ _ from b).size
  have Qh := hid hq
  clear hq hgg hbb b
  go_wp2_with fail
  have hne : ((m : Int) != (r : Int)) = true := by have := HMM.out; simp; omega
  refine (mulG_no Qg.out Qh.out hne).mono ?_
  rintro e w17 ⟨rfl, b⟩
  replace Qg := hid (Qg.out.now b)
  replace Qh := hid (Qh.out.now b)
  replace Ma := hid (Ma.out.now b)
  replace Mb := hid (Mb.out.now b)
  replace Pa := hid (Pa.out.step b)
  replace Pb := hid (Pb.out.step b)
  replace G := hid (below_step G.out b)
  have lz18 := (show Below _ _ _ from b).size
  clear b
  clear hne
  have ca0 := Pa.out.at (i := 0) rfl
  have ca1 := Pa.out.at (i := 1) rfl
  have ca2 := Pa.out.at (i := 2) rfl
  have cb0 := Pb.out.at (i := 0) rfl
  have cb1 := Pb.out.at (i := 1) rfl
  have cb2 := Pb.out.at (i := 2) rfl
  go_wp2_with fail
  clear ca0 ca1 ca2 cb0 cb1 cb2
  refine (mul_no Ma.out Mb.out HMM.out).mono ?_
  rintro e w19 ⟨rfl, b⟩
  replace Qg := hid (Qg.out.now b)
  replace Qh := hid (Qh.out.now b)
  replace Ma := hid (Ma.out.now b)
  replace Mb := hid (Mb.out.now b)
  replace Pa := hid (Pa.out.step b)
  replace Pb := hid (Pb.out.step b)
  replace G := hid (below_step G.out b)
  have lz20 := (show Below _ _ _ from b).size
  clear b
  have Mu := hid (mc_zero w19 0)
  obtain ⟨V21, hV⟩ : ∃ V21, w19.alloc mbox = V21 := ⟨_, rfl⟩
  obtain ⟨b, sz21⟩ := alo1 w19 mbox
  rw [hV] at b sz21
  replace Qg := hid (Qg.out.now b)
  replace Qh := hid (Qh.out.now b)
  replace Ma := hid (Ma.out.now b)
  replace Mb := hid (Mb.out.now b)
  replace Mu := hid (Mu.out.now b)
  replace Pa := hid (Pa.out.step b)
  replace Pb := hid (Pb.out.step b)
  replace G := hid (below_step G.out b)
  have lz22 := (show Below _ _ _ from b).size
  have Pu : Hid (Cel V21 w19.heap.size 24 ([.int .i64 0, .int .i64 0, .slice none 0 0])) := by unfold Hid; rw [← hV]; exact Cel.new w19 _ _
  clear b
  have EV := hid hV
  clear hV
  go_wp2_with fail
  rw [EV.out]
  clear EV
  refine (dense_nil (w := V21)).mono ?_
  rintro e w23 ⟨rfl, b⟩
  replace Qg := hid (Qg.out.now b)
  replace Qh := hid (Qh.out.now b)
  replace Ma := hid (Ma.out.now b)
  replace Mb := hid (Mb.out.now b)
  replace Mu := hid (Mu.out.now b)
  replace Pa := hid (Pa.out.step b)
  replace Pb := hid (Pb.out.step b)
  replace Pu := hid (Pu.out.step b)
  replace G := hid (below_step G.out b)
  have lz24 := (show Below _ _ _ from b).size
  clear b
  have Mx := hid (mc_zero w23 0)
  obtain ⟨V25, hV⟩ : ∃ V25, w23.alloc mbox = V25 := ⟨_, rfl⟩
  obtain ⟨b, sz25⟩ := alo1 w23 mbox
  rw [hV] at b sz25
  replace Qg := hid (Qg.out.now b)
  replace Qh := hid (Qh.out.now b)
  replace Ma := hid (Ma.out.now b)
  replace Mb := hid (Mb.out.now b)
  replace Mu := hid (Mu.out.now b)
  replace Mx := hid (Mx.out.now b)
  replace Pa := hid (Pa.out.step b)
  replace Pb := hid (Pb.out.step b)
  replace Pu := hid (Pu.out.step b)
  replace G := hid (below_step G.out b)
  have lz26 := (show Below _ _ _ from b).size
  have Px : Hid (Cel V25 w23.heap.size 24 ([.int .i64 0, .int .i64 0, .slice none 0 0])) := by unfold Hid; rw [← hV]; exact Cel.new w23 _ _
  clear b
  have cx0 := Px.out.at (i := 0) rfl
  have cx1 := Px.out.at (i := 1) rfl
  have cx2 := Px.out.at (i := 2) rfl
  have cu0 := Pu.out.at (i := 0) rfl
  have cu1 := Pu.out.at (i := 1) rfl
  have cu2 := Pu.out.at (i := 2) rfl
  rw [← hV] at cx0 cx1 cx2 cu0 cu1 cu2
  have EV := hid hV
  clear hV
  go_wp2_with fail
  rw [EV.out]
  clear EV
  clear cx0 cx1 cx2 cu0 cu1 cu2
  refine (mats10_yes Mx.out Mu.out rfl).mono ?_
  rintro e w27 ⟨rfl, b⟩
  replace Qg := hid (Qg.out.now b)
  replace Qh := hid (Qh.out.now b)
  replace Ma := hid (Ma.out.now b)
  replace Mb := hid (Mb.out.now b)
  replace Mu := hid (Mu.out.now b)
  replace Mx := hid (Mx.out.now b)
  replace Pa := hid (Pa.out.step b)
  replace Pb := hid (Pb.out.step b)
  replace Pu := hid (Pu.out.step b)
  replace Px := hid (Px.out.step b)
  replace G := hid (below_step G.out b)
  have lz28 := (show Below _ _ _ from b).size
  clear b
  clear Mx
  clear Mu
  go_wp2_with fail
  refine (addG_yes Qg.out Qh.out (by omega) (by omega) (by omega)).mono ?_
  rintro e w29 ⟨gp, bp, rfl, hq, hgg, hbb, b⟩
  replace Qg := hid (Qg.out.now b)
  replace Qh := hid (Qh.out.now b)
  replace Ma := hid (Ma.out.now b)
  replace Mb := hid (Mb.out.now b)
  replace Pa := hid (Pa.out.step b)
  replace Pb := hid (Pb.out.step b)
  replace Pu := hid (Pu.out.step b)
  replace Px := hid (Px.out.step b)
  replace G := hid (below_step G.out b)
  have lz30 := (show Below _ _ _ from b).size
  have Qp := hid hq
  clear hq hgg hbb b
  have ca0 := Pa.out.at (i := 0) rfl
  have ca1 := Pa.out.at (i := 1) rfl
  have ca2 := Pa.out.at (i := 2) rfl
  have cb0 := Pb.out.at (i := 0) rfl
  have cb1 := Pb.out.at (i := 1) rfl
  have cb2 := Pb.out.at (i := 2) rfl
  go_wp2_with fail
  clear ca0 ca1 ca2 cb0 cb1 cb2
  refine (add_yes Ma.out Mb.out (by omega)).mono ?_
  rintro e w31 ⟨v, rfl, hm, b⟩
  obtain ⟨au, qu, rfl, -, -⟩ := hm.mx.form
  replace Qg := hid (Qg.out.now b)
  replace Qh := hid (Qh.out.now b)
  replace Qp := hid (Qp.out.now b)
  replace Ma := hid (Ma.out.now b)
  replace Mb := hid (Mb.out.now b)
  replace Pa := hid (Pa.out.step b)
  replace Pb := hid (Pb.out.step b)
  replace Pu := hid (Pu.out.step b)
  replace Px := hid (Px.out.step b)
  replace G := hid (below_step G.out b)
  have lz32 := (show Below _ _ _ from b).size
  obtain ⟨zu, hz⟩ : ∃ zu, addL (r * m) xs ys = zu := ⟨_, rfl⟩
  rw [hz] at hm
  have Eu := hid hz
  have Mu := hid hm
  clear hm hz b
  have du0 := Pu.out.at (i := 0) rfl
  have fu0 := Pu.out.fz 0
  have du1 := Pu.out.at (i := 1) rfl
  have fu1 := Pu.out.fz 1
  have du2 := Pu.out.at (i := 2) rfl
  have fu2 := Pu.out.fz 2
  replace Qg := hid (Qg.out.off3 Pu.out (.int .i64 (r : Int)) (.int .i64 (m : Int)) (.slice au (r * m) qu))
  replace Qh := hid (Qh.out.off3 Pu.out (.int .i64 (r : Int)) (.int .i64 (m : Int)) (.slice au (r * m) qu))
  replace Qp := hid (Qp.out.off3 Pu.out (.int .i64 (r : Int)) (.int .i64 (m : Int)) (.slice au (r * m) qu))
  obtain ⟨V33, hV⟩ : ∃ V33, put3 w31 (w19.heap.size) (.int .i64 (r : Int)) (.int .i64 (m : Int)) (.slice au (r * m) qu) = V33 := ⟨_, rfl⟩
  replace Ma := hid (Ma.out.wk Pu.out (.int .i64 (r : Int)) (.int .i64 (m : Int)) (.slice au (r * m) qu))
  replace Mb := hid (Mb.out.wk Pu.out (.int .i64 (r : Int)) (.int .i64 (m : Int)) (.slice au (r * m) qu))
  replace Mu := hid (Mu.out.wk Pu.out (.int .i64 (r : Int)) (.int .i64 (m : Int)) (.slice au (r * m) qu))
  replace Pa := hid (Pa.out.away3 (b' := w19.heap.size) (by omega) (.int .i64 (r : Int)) (.int .i64 (m : Int)) (.slice au (r * m) qu))
  replace Pb := hid (Pb.out.away3 (b' := w19.heap.size) (by omega) (.int .i64 (r : Int)) (.int .i64 (m : Int)) (.slice au (r * m) qu))
  replace Px := hid (Px.out.away3 (b' := w19.heap.size) (by omega) (.int .i64 (r : Int)) (.int .i64 (m : Int)) (.slice au (r * m) qu))
  replace Pu := hid (Pu.out.put3 (.int .i64 (r : Int)) (.int .i64 (m : Int)) (.slice au (r * m) qu))
  replace G := hid (below_put3 G.out (b := w19.heap.size) (by omega) (.int .i64 (r : Int)) (.int .i64 (m : Int)) (.slice au (r * m) qu))
  rw [hV] at G Ma Mb Mu Pa Pb Pu Px
  have lz33 : V33.heap.size = w31.heap.size := by rw [← hV]; simp
  rw [hV] at Qg Qh Qp
  have EV : Hid (((w31.setCell ⟨w19.heap.size, 0, none⟩ (.int .i64 (r : Int))).setCell ⟨w19.heap.size, 1, none⟩ (.int .i64 (m : Int))).setCell ⟨w19.heap.size, 2, none⟩ (.slice au (r * m) qu) = V33) := hV
  clear hV
  go_wp2_with fail
  rw [EV.out]
  clear EV du0 fu0 du1 fu1 du2 fu2
  refine (dense_any Qp.out (by omega) (by omega)).mono ?_
  rintro e w34 ⟨v, rfl, hm, b⟩
  obtain ⟨ax, qx, rfl, -, -⟩ := hm.mx.form
  replace Qg := hid (Qg.out.now b)
  replace Qh := hid (Qh.out.now b)
  replace Qp := hid (Qp.out.now b)
  replace Ma := hid (Ma.out.now b)
  replace Mb := hid (Mb.out.now b)
  replace Mu := hid (Mu.out.now b)
  replace Pa := hid (Pa.out.step b)
  replace Pb := hid (Pb.out.step b)
  replace Pu := hid (Pu.out.step b)
  replace Px := hid (Px.out.step b)
  replace G := hid (below_step G.out b)
  have lz35 := (show Below _ _ _ from b).size
  obtain ⟨zx, hz⟩ : ∃ zx, dnL r m (fun i j => ofF m xs (r * m) i j + ofF m ys (r * m) i j) = zx := ⟨_, rfl⟩
  rw [hz] at hm
  have Ex := hid hz
  have Mx := hid hm
  clear hm hz b
  have dx0 := Px.out.at (i := 0) rfl
  have fx0 := Px.out.fz 0
  have dx1 := Px.out.at (i := 1) rfl
  have fx1 := Px.out.fz 1
  have dx2 := Px.out.at (i := 2) rfl
  have fx2 := Px.out.fz 2
  replace Qg := hid (Qg.out.off3 Px.out (.int .i64 (r : Int)) (.int .i64 (m : Int)) (.slice ax (r * m) qx))
  replace Qh := hid (Qh.out.off3 Px.out (.int .i64 (r : Int)) (.int .i64 (m : Int)) (.slice ax (r * m) qx))
  replace Qp := hid (Qp.out.off3 Px.out (.int .i64 (r : Int)) (.int .i64 (m : Int)) (.slice ax (r * m) qx))
  obtain ⟨V36, hV⟩ : ∃ V36, put3 w34 (w23.heap.size) (.int .i64 (r : Int)) (.int .i64 (m : Int)) (.slice ax (r * m) qx) = V36 := ⟨_, rfl⟩
  replace Ma := hid (Ma.out.wk Px.out (.int .i64 (r : Int)) (.int .i64 (m : Int)) (.slice ax (r * m) qx))
  replace Mb := hid (Mb.out.wk Px.out (.int .i64 (r : Int)) (.int .i64 (m : Int)) (.slice ax (r * m) qx))
  replace Mu := hid (Mu.out.wk Px.out (.int .i64 (r : Int)) (.int .i64 (m : Int)) (.slice ax (r * m) qx))
  replace Mx := hid (Mx.out.wk Px.out (.int .i64 (r : Int)) (.int .i64 (m : Int)) (.slice ax (r * m) qx))
  replace Pa := hid (Pa.out.away3 (b' := w23.heap.size) (by omega) (.int .i64 (r : Int)) (.int .i64 (m : Int)) (.slice ax (r * m) qx))
  replace Pb := hid (Pb.out.away3 (b' := w23.heap.size) (by omega) (.int .i64 (r : Int)) (.int .i64 (m : Int)) (.slice ax (r * m) qx))
  replace Pu := hid (Pu.out.away3 (b' := w23.heap.size) (by omega) (.int .i64 (r : Int)) (.int .i64 (m : Int)) (.slice ax (r * m) qx))
  replace Px := hid (Px.out.put3 (.int .i64 (r : Int)) (.int .i64 (m : Int)) (.slice ax (r * m) qx))
  replace G := hid (below_put3 G.out (b := w23.heap.size) (by omega) (.int .i64 (r : Int)) (.int .i64 (m : Int)) (.slice ax (r * m) qx))
  rw [hV] at G Ma Mb Mu Mx Pa Pb Pu Px
  have lz36 : V36.heap.size = w34.heap.size := by rw [← hV]; simp
  rw [hV] at Qg Qh Qp
  have cx0 := Px.out.at (i := 0) rfl
  have cx1 := Px.out.at (i := 1) rfl
  have cx2 := Px.out.at (i := 2) rfl
  have cu0 := Pu.out.at (i := 0) rfl
  have cu1 := Pu.out.at (i := 1) rfl
  have cu2 := Pu.out.at (i := 2) rfl
  rw [← hV] at cx0 cx1 cx2 cu0 cu1 cu2
  have EV : Hid (((w34.setCell ⟨w23.heap.size, 0, none⟩ (.int .i64 (r : Int))).setCell ⟨w23.heap.size, 1, none⟩ (.int .i64 (m : Int))).setCell ⟨w23.heap.size, 2, none⟩ (.slice ax (r * m) qx) = V36) := hV
  clear hV
  go_wp2_with fail
  rw [EV.out]
  clear EV dx0 fx0 dx1 fx1 dx2 fx2 cx0 cx1 cx2 cu0 cu1 cu2
  refine (mats10_yes Mx.out Mu.out (by rw [← Ex.out, ← Eu.out]; exact dn_add)).mono ?_
  rintro e w37 ⟨rfl, b⟩
  replace Qg := hid (Qg.out.now b)
  replace Qh := hid (Qh.out.now b)
  replace Qp := hid (Qp.out.now b)
  replace Ma := hid (Ma.out.now b)
  replace Mb := hid (Mb.out.now b)
  replace Mu := hid (Mu.out.now b)
  replace Mx := hid (Mx.out.now b)
  replace Pa := hid (Pa.out.step b)
  replace Pb := hid (Pb.out.step b)
  replace Pu := hid (Pu.out.step b)
  replace Px := hid (Px.out.step b)
  replace G := hid (below_step G.out b)
  have lz38 := (show Below _ _ _ from b).size
  clear b
  clear Mx
  clear Mu
  clear Ex Eu
  clear Qp
  go_wp2_with fail
  refine (turn_any Qg.out).mono ?_
  rintro e w39 ⟨gp, bp, rfl, hq, hgg, hbb, b⟩
  replace Qg := hid (Qg.out.now b)
  replace Qh := hid (Qh.out.now b)
  replace Ma := hid (Ma.out.now b)
  replace Mb := hid (Mb.out.now b)
  replace Pa := hid (Pa.out.step b)
  replace Pb := hid (Pb.out.step b)
  replace Pu := hid (Pu.out.step b)
  replace Px := hid (Px.out.step b)
  replace G := hid (below_step G.out b)
  have lz40 := (show Below _ _ _ from b).size
  have Qp := hid hq
  clear hq hgg hbb b
  have ca0 := Pa.out.at (i := 0) rfl
  have ca1 := Pa.out.at (i := 1) rfl
  have ca2 := Pa.out.at (i := 2) rfl
  go_wp2_with fail
  clear ca0 ca1 ca2
  refine (turn_yes Ma.out).mono ?_
  rintro e w41 ⟨v, rfl, hm, b⟩
  obtain ⟨au, qu, rfl, -, -⟩ := hm.mx.form
  replace Qg := hid (Qg.out.now b)
  replace Qh := hid (Qh.out.now b)
  replace Qp := hid (Qp.out.now b)
  replace Ma := hid (Ma.out.now b)
  replace Mb := hid (Mb.out.now b)
  replace Pa := hid (Pa.out.step b)
  replace Pb := hid (Pb.out.step b)
  replace Pu := hid (Pu.out.step b)
  replace Px := hid (Px.out.step b)
  replace G := hid (below_step G.out b)
  have lz42 := (show Below _ _ _ from b).size
  obtain ⟨zu, hz⟩ : ∃ zu, turnL9 r m xs = zu := ⟨_, rfl⟩
  rw [hz] at hm
  have Eu := hid hz
  have Mu := hid hm
  clear hm hz b
  have du0 := Pu.out.at (i := 0) rfl
  have fu0 := Pu.out.fz 0
  have du1 := Pu.out.at (i := 1) rfl
  have fu1 := Pu.out.fz 1
  have du2 := Pu.out.at (i := 2) rfl
  have fu2 := Pu.out.fz 2
  replace Qg := hid (Qg.out.off3 Pu.out (.int .i64 (m : Int)) (.int .i64 (r : Int)) (.slice au (m * r) qu))
  replace Qh := hid (Qh.out.off3 Pu.out (.int .i64 (m : Int)) (.int .i64 (r : Int)) (.slice au (m * r) qu))
  replace Qp := hid (Qp.out.off3 Pu.out (.int .i64 (m : Int)) (.int .i64 (r : Int)) (.slice au (m * r) qu))
  obtain ⟨V43, hV⟩ : ∃ V43, put3 w41 (w19.heap.size) (.int .i64 (m : Int)) (.int .i64 (r : Int)) (.slice au (m * r) qu) = V43 := ⟨_, rfl⟩
  replace Ma := hid (Ma.out.wk Pu.out (.int .i64 (m : Int)) (.int .i64 (r : Int)) (.slice au (m * r) qu))
  replace Mb := hid (Mb.out.wk Pu.out (.int .i64 (m : Int)) (.int .i64 (r : Int)) (.slice au (m * r) qu))
  replace Mu := hid (Mu.out.wk Pu.out (.int .i64 (m : Int)) (.int .i64 (r : Int)) (.slice au (m * r) qu))
  replace Pa := hid (Pa.out.away3 (b' := w19.heap.size) (by omega) (.int .i64 (m : Int)) (.int .i64 (r : Int)) (.slice au (m * r) qu))
  replace Pb := hid (Pb.out.away3 (b' := w19.heap.size) (by omega) (.int .i64 (m : Int)) (.int .i64 (r : Int)) (.slice au (m * r) qu))
  replace Px := hid (Px.out.away3 (b' := w19.heap.size) (by omega) (.int .i64 (m : Int)) (.int .i64 (r : Int)) (.slice au (m * r) qu))
  replace Pu := hid (Pu.out.put3 (.int .i64 (m : Int)) (.int .i64 (r : Int)) (.slice au (m * r) qu))
  replace G := hid (below_put3 G.out (b := w19.heap.size) (by omega) (.int .i64 (m : Int)) (.int .i64 (r : Int)) (.slice au (m * r) qu))
  rw [hV] at G Ma Mb Mu Pa Pb Pu Px
  have lz43 : V43.heap.size = w41.heap.size := by rw [← hV]; simp
  rw [hV] at Qg Qh Qp
  have EV : Hid (((w41.setCell ⟨w19.heap.size, 0, none⟩ (.int .i64 (m : Int))).setCell ⟨w19.heap.size, 1, none⟩ (.int .i64 (r : Int))).setCell ⟨w19.heap.size, 2, none⟩ (.slice au (m * r) qu) = V43) := hV
  clear hV
  go_wp2_with fail
  rw [EV.out]
  clear EV du0 fu0 du1 fu1 du2 fu2
  refine (dense_any Qp.out (by omega) (by omega)).mono ?_
  rintro e w44 ⟨v, rfl, hm, b⟩
  obtain ⟨ax, qx, rfl, -, -⟩ := hm.mx.form
  replace Qg := hid (Qg.out.now b)
  replace Qh := hid (Qh.out.now b)
  replace Qp := hid (Qp.out.now b)
  replace Ma := hid (Ma.out.now b)
  replace Mb := hid (Mb.out.now b)
  replace Mu := hid (Mu.out.now b)
  replace Pa := hid (Pa.out.step b)
  replace Pb := hid (Pb.out.step b)
  replace Pu := hid (Pu.out.step b)
  replace Px := hid (Px.out.step b)
  replace G := hid (below_step G.out b)
  have lz45 := (show Below _ _ _ from b).size
  obtain ⟨zx, hz⟩ : ∃ zx, dnL m r (fun i j => ofF m xs (r * m) j i) = zx := ⟨_, rfl⟩
  rw [hz] at hm
  have Ex := hid hz
  have Mx := hid hm
  clear hm hz b
  have dx0 := Px.out.at (i := 0) rfl
  have fx0 := Px.out.fz 0
  have dx1 := Px.out.at (i := 1) rfl
  have fx1 := Px.out.fz 1
  have dx2 := Px.out.at (i := 2) rfl
  have fx2 := Px.out.fz 2
  replace Qg := hid (Qg.out.off3 Px.out (.int .i64 (m : Int)) (.int .i64 (r : Int)) (.slice ax (m * r) qx))
  replace Qh := hid (Qh.out.off3 Px.out (.int .i64 (m : Int)) (.int .i64 (r : Int)) (.slice ax (m * r) qx))
  replace Qp := hid (Qp.out.off3 Px.out (.int .i64 (m : Int)) (.int .i64 (r : Int)) (.slice ax (m * r) qx))
  obtain ⟨V46, hV⟩ : ∃ V46, put3 w44 (w23.heap.size) (.int .i64 (m : Int)) (.int .i64 (r : Int)) (.slice ax (m * r) qx) = V46 := ⟨_, rfl⟩
  replace Ma := hid (Ma.out.wk Px.out (.int .i64 (m : Int)) (.int .i64 (r : Int)) (.slice ax (m * r) qx))
  replace Mb := hid (Mb.out.wk Px.out (.int .i64 (m : Int)) (.int .i64 (r : Int)) (.slice ax (m * r) qx))
  replace Mu := hid (Mu.out.wk Px.out (.int .i64 (m : Int)) (.int .i64 (r : Int)) (.slice ax (m * r) qx))
  replace Mx := hid (Mx.out.wk Px.out (.int .i64 (m : Int)) (.int .i64 (r : Int)) (.slice ax (m * r) qx))
  replace Pa := hid (Pa.out.away3 (b' := w23.heap.size) (by omega) (.int .i64 (m : Int)) (.int .i64 (r : Int)) (.slice ax (m * r) qx))
  replace Pb := hid (Pb.out.away3 (b' := w23.heap.size) (by omega) (.int .i64 (m : Int)) (.int .i64 (r : Int)) (.slice ax (m * r) qx))
  replace Pu := hid (Pu.out.away3 (b' := w23.heap.size) (by omega) (.int .i64 (m : Int)) (.int .i64 (r : Int)) (.slice ax (m * r) qx))
  replace Px := hid (Px.out.put3 (.int .i64 (m : Int)) (.int .i64 (r : Int)) (.slice ax (m * r) qx))
  replace G := hid (below_put3 G.out (b := w23.heap.size) (by omega) (.int .i64 (m : Int)) (.int .i64 (r : Int)) (.slice ax (m * r) qx))
  rw [hV] at G Ma Mb Mu Mx Pa Pb Pu Px
  have lz46 : V46.heap.size = w44.heap.size := by rw [← hV]; simp
  rw [hV] at Qg Qh Qp
  have cx0 := Px.out.at (i := 0) rfl
  have cx1 := Px.out.at (i := 1) rfl
  have cx2 := Px.out.at (i := 2) rfl
  have cu0 := Pu.out.at (i := 0) rfl
  have cu1 := Pu.out.at (i := 1) rfl
  have cu2 := Pu.out.at (i := 2) rfl
  rw [← hV] at cx0 cx1 cx2 cu0 cu1 cu2
  have EV : Hid (((w44.setCell ⟨w23.heap.size, 0, none⟩ (.int .i64 (m : Int))).setCell ⟨w23.heap.size, 1, none⟩ (.int .i64 (r : Int))).setCell ⟨w23.heap.size, 2, none⟩ (.slice ax (m * r) qx) = V46) := hV
  clear hV
  go_wp2_with fail
  rw [EV.out]
  clear EV dx0 fx0 dx1 fx1 dx2 fx2 cx0 cx1 cx2 cu0 cu1 cu2
  refine (mats10_yes Mx.out Mu.out (by rw [← Ex.out, ← Eu.out]; exact dn_turn)).mono ?_
  rintro e w47 ⟨rfl, b⟩
  replace Qg := hid (Qg.out.now b)
  replace Qh := hid (Qh.out.now b)
  replace Qp := hid (Qp.out.now b)
  replace Ma := hid (Ma.out.now b)
  replace Mb := hid (Mb.out.now b)
  replace Mu := hid (Mu.out.now b)
  replace Mx := hid (Mx.out.now b)
  replace Pa := hid (Pa.out.step b)
  replace Pb := hid (Pb.out.step b)
  replace Pu := hid (Pu.out.step b)
  replace Px := hid (Px.out.step b)
  replace G := hid (below_step G.out b)
  have lz48 := (show Below _ _ _ from b).size
  clear b
  clear Mx
  clear Mu
  clear Ex Eu
  go_wp2
  go_ret
  exact ⟨rfl, G.out⟩
set_option maxHeartbeats 6400000 in
set_option maxRecDepth 100000 in
theorem ring_mor {w : World} {va vb : Value} {c m r : Nat} {xs ys : List Int} (ha : Mx w va r m xs 1048576) (hb : Mx w vb m c ys 1048576) (hs : r ≠ m) : Calls Try.prog 4 #[va, vb] w (fun e w' => e = .returned (.bool true) ∧ Below w.heap.size w w') := by
  have Ma := hid ha
  have Mb := hid hb
  obtain ⟨aa, qa, rfl, sa1, sa2⟩ := ha.form
  obtain ⟨ab, qb, rfl, sb1, sb2⟩ := hb.form
  have LX := hid ha.len10
  obtain ⟨W0, hV⟩ : ∃ W0, (w.alloc (.cells #[.int .i64 (r : Int), .int .i64 (m : Int), .slice aa (r * m) qa] 24)).alloc (.cells #[.int .i64 (m : Int), .int .i64 (c : Int), .slice ab (m * c) qb] 24) = W0 := ⟨_, rfl⟩
  obtain ⟨b0, sz0⟩ := alloc2 w (.cells #[.int .i64 (r : Int), .int .i64 (m : Int), .slice aa (r * m) qa] 24) (.cells #[.int .i64 (m : Int), .int .i64 (c : Int), .slice ab (m * c) qb] 24)
  rw [hV] at b0 sz0
  obtain ⟨pa, pb⟩ := boxes2 (o1 := [.int .i64 (r : Int), .int .i64 (m : Int), .slice aa (r * m) qa]) (o2 := [.int .i64 (m : Int), .int .i64 (c : Int), .slice ab (m * c) qb]) hV
  have Pa := hid pa
  have Pb := hid pb
  have G := hid b0
  have EV := hid hV
  replace Ma := hid (Ma.out.now b0)
  replace Mb := hid (Mb.out.now b0)
  clear b0 pa pb hV ha hb
  have HSS := hid hs
  clear hs
  go_enter Try.func4, Try.ntmps4
  go_wp2_with fail
  rw [EV.out]
  clear EV
  refine (awake10 W0).mono ?_
  rintro e w11 ⟨rfl, b⟩
  replace Ma := hid (Ma.out.now b)
  replace Mb := hid (Mb.out.now b)
  replace Pa := hid (Pa.out.step b)
  replace Pb := hid (Pb.out.step b)
  replace G := hid (below_step G.out b)
  have lz12 := (show Below _ _ _ from b).size
  clear b
  have ca0 := Pa.out.at (i := 0) rfl
  have ca1 := Pa.out.at (i := 1) rfl
  have ca2 := Pa.out.at (i := 2) rfl
  go_wp2_with fail
  clear ca0 ca1 ca2
  refine (of_any Ma.out).mono ?_
  rintro e w13 ⟨gg, bg, rfl, hq, hgg, hbb, b⟩
  replace Ma := hid (Ma.out.now b)
  replace Mb := hid (Mb.out.now b)
  replace Pa := hid (Pa.out.step b)
  replace Pb := hid (Pb.out.step b)
  replace G := hid (below_step G.out b)
  have lz14 := (show Below _ _ _ from b).size
  have Qg := hid hq
  clear hq hgg hbb b
  have cb0 := Pb.out.at (i := 0) rfl
  have cb1 := Pb.out.at (i := 1) rfl
  have cb2 := Pb.out.at (i := 2) rfl
  go_wp2_with fail
  clear cb0 cb1 cb2
  refine (of_any Mb.out).mono ?_
  rintro e w15 ⟨gh, bh, rfl, hq, hgg, hbb, b⟩
  replace Qg := hid (Qg.out.now b)
  replace Ma := hid (Ma.out.now b)
  replace Mb := hid (Mb.out.now b)
  replace Pa := hid (Pa.out.step b)
  replace Pb := hid (Pb.out.step b)
  replace G := hid (below_step G.out b)
  have lz16 := (show Below _ _ _ from b).size
  have Qh := hid hq
  clear hq hgg hbb b
  go_wp2_with fail
  refine (mulG_yes Qg.out Qh.out (by omega) (by omega) (by omega) (by omega)).mono ?_
  rintro e w17 ⟨gp, bp, rfl, hq, hgg, hbb, b⟩
  replace Qg := hid (Qg.out.now b)
  replace Qh := hid (Qh.out.now b)
  replace Ma := hid (Ma.out.now b)
  replace Mb := hid (Mb.out.now b)
  replace Pa := hid (Pa.out.step b)
  replace Pb := hid (Pb.out.step b)
  replace G := hid (below_step G.out b)
  have lz18 := (show Below _ _ _ from b).size
  have Qp := hid hq
  clear hq hgg hbb b
  have ca0 := Pa.out.at (i := 0) rfl
  have ca1 := Pa.out.at (i := 1) rfl
  have ca2 := Pa.out.at (i := 2) rfl
  have cb0 := Pb.out.at (i := 0) rfl
  have cb1 := Pb.out.at (i := 1) rfl
  have cb2 := Pb.out.at (i := 2) rfl
  go_wp2_with fail
  clear ca0 ca1 ca2 cb0 cb1 cb2
  refine (mul_yes Ma.out Mb.out (by omega)).mono ?_
  rintro e w19 ⟨v, rfl, hm, b⟩
  obtain ⟨au, qu, rfl, -, -⟩ := hm.mx.form
  replace Qg := hid (Qg.out.now b)
  replace Qh := hid (Qh.out.now b)
  replace Qp := hid (Qp.out.now b)
  replace Ma := hid (Ma.out.now b)
  replace Mb := hid (Mb.out.now b)
  replace Pa := hid (Pa.out.step b)
  replace Pb := hid (Pb.out.step b)
  replace G := hid (below_step G.out b)
  have lz20 := (show Below _ _ _ from b).size
  obtain ⟨zu, hz⟩ : ∃ zu, prodL r m c xs ys = zu := ⟨_, rfl⟩
  rw [hz] at hm
  have Eu := hid hz
  have Mu := hid hm
  clear hm hz b
  obtain ⟨V21, hV⟩ : ∃ V21, w19.alloc (matO r c (.slice au (r * c) qu)) = V21 := ⟨_, rfl⟩
  obtain ⟨b, sz21⟩ := alo1 w19 (matO r c (.slice au (r * c) qu))
  rw [hV] at b sz21
  replace Qg := hid (Qg.out.now b)
  replace Qh := hid (Qh.out.now b)
  replace Qp := hid (Qp.out.now b)
  replace Ma := hid (Ma.out.now b)
  replace Mb := hid (Mb.out.now b)
  replace Mu := hid (Mu.out.now b)
  replace Pa := hid (Pa.out.step b)
  replace Pb := hid (Pb.out.step b)
  replace G := hid (below_step G.out b)
  have lz22 := (show Below _ _ _ from b).size
  have Pu : Hid (Cel V21 w19.heap.size 24 (matc r c (.slice au (r * c) qu))) := by unfold Hid; rw [← hV]; exact Cel.new w19 _ _
  clear b
  have EV := hid hV
  clear hV
  go_wp2_with fail
  rw [EV.out]
  clear EV
  refine (dense_any Qp.out (by omega) (by omega)).mono ?_
  rintro e w23 ⟨v, rfl, hm, b⟩
  obtain ⟨ax, qx, rfl, -, -⟩ := hm.mx.form
  replace Qg := hid (Qg.out.now b)
  replace Qh := hid (Qh.out.now b)
  replace Qp := hid (Qp.out.now b)
  replace Ma := hid (Ma.out.now b)
  replace Mb := hid (Mb.out.now b)
  replace Mu := hid (Mu.out.now b)
  replace Pa := hid (Pa.out.step b)
  replace Pb := hid (Pb.out.step b)
  replace Pu := hid (Pu.out.step b)
  replace G := hid (below_step G.out b)
  have lz24 := (show Below _ _ _ from b).size
  obtain ⟨zx, hz⟩ : ∃ zx, dnL r c (piS m (fun _ => false) (ofF m xs (r * m)) (ofF c ys (m * c))) = zx := ⟨_, rfl⟩
  rw [hz] at hm
  have Ex := hid hz
  have Mx := hid hm
  clear hm hz b
  obtain ⟨V25, hV⟩ : ∃ V25, w23.alloc (matO r c (.slice ax (r * c) qx)) = V25 := ⟨_, rfl⟩
  obtain ⟨b, sz25⟩ := alo1 w23 (matO r c (.slice ax (r * c) qx))
  rw [hV] at b sz25
  replace Qg := hid (Qg.out.now b)
  replace Qh := hid (Qh.out.now b)
  replace Qp := hid (Qp.out.now b)
  replace Ma := hid (Ma.out.now b)
  replace Mb := hid (Mb.out.now b)
  replace Mu := hid (Mu.out.now b)
  replace Mx := hid (Mx.out.now b)
  replace Pa := hid (Pa.out.step b)
  replace Pb := hid (Pb.out.step b)
  replace Pu := hid (Pu.out.step b)
  replace G := hid (below_step G.out b)
  have lz26 := (show Below _ _ _ from b).size
  have Px : Hid (Cel V25 w23.heap.size 24 (matc r c (.slice ax (r * c) qx))) := by unfold Hid; rw [← hV]; exact Cel.new w23 _ _
  clear b
  have cx0 := Px.out.at (i := 0) rfl
  have cx1 := Px.out.at (i := 1) rfl
  have cx2 := Px.out.at (i := 2) rfl
  have cu0 := Pu.out.at (i := 0) rfl
  have cu1 := Pu.out.at (i := 1) rfl
  have cu2 := Pu.out.at (i := 2) rfl
  rw [← hV] at cx0 cx1 cx2 cu0 cu1 cu2
  have EV := hid hV
  clear hV
  go_wp2_with fail
  rw [EV.out]
  clear EV
  clear cx0 cx1 cx2 cu0 cu1 cu2
  refine (mats10_yes Mx.out Mu.out (by rw [← Ex.out, ← Eu.out]; exact dn_mul LX.out)).mono ?_
  rintro e w27 ⟨rfl, b⟩
  replace Qg := hid (Qg.out.now b)
  replace Qh := hid (Qh.out.now b)
  replace Qp := hid (Qp.out.now b)
  replace Ma := hid (Ma.out.now b)
  replace Mb := hid (Mb.out.now b)
  replace Mu := hid (Mu.out.now b)
  replace Mx := hid (Mx.out.now b)
  replace Pa := hid (Pa.out.step b)
  replace Pb := hid (Pb.out.step b)
  replace Pu := hid (Pu.out.step b)
  replace Px := hid (Px.out.step b)
  replace G := hid (below_step G.out b)
  have lz28 := (show Below _ _ _ from b).size
  clear b
  clear Mx
  clear Mu
  clear Ex Eu
  clear Qp
  go_wp2_with fail
  have hne : ((r : Int) != (m : Int)) = true := by have := HSS.out; simp; omega
  refine (addG_rows Qg.out Qh.out hne).mono ?_
  rintro e w29 ⟨rfl, b⟩
  replace Qg := hid (Qg.out.now b)
  replace Qh := hid (Qh.out.now b)
  replace Ma := hid (Ma.out.now b)
  replace Mb := hid (Mb.out.now b)
  replace Pa := hid (Pa.out.step b)
  replace Pb := hid (Pb.out.step b)
  replace Pu := hid (Pu.out.step b)
  replace Px := hid (Px.out.step b)
  replace G := hid (below_step G.out b)
  have lz30 := (show Below _ _ _ from b).size
  clear b
  clear hne
  have ca0 := Pa.out.at (i := 0) rfl
  have ca1 := Pa.out.at (i := 1) rfl
  have ca2 := Pa.out.at (i := 2) rfl
  have cb0 := Pb.out.at (i := 0) rfl
  have cb1 := Pb.out.at (i := 1) rfl
  have cb2 := Pb.out.at (i := 2) rfl
  go_wp2_with fail
  clear ca0 ca1 ca2 cb0 cb1 cb2
  refine (add_no Ma.out Mb.out (.inl HSS.out)).mono ?_
  rintro e w31 ⟨rfl, b⟩
  replace Qg := hid (Qg.out.now b)
  replace Qh := hid (Qh.out.now b)
  replace Ma := hid (Ma.out.now b)
  replace Mb := hid (Mb.out.now b)
  replace Pa := hid (Pa.out.step b)
  replace Pb := hid (Pb.out.step b)
  replace Pu := hid (Pu.out.step b)
  replace Px := hid (Px.out.step b)
  replace G := hid (below_step G.out b)
  have lz32 := (show Below _ _ _ from b).size
  clear b
  have Mu := hid (mc_zero w31 0)
  have du0 := Pu.out.at (i := 0) rfl
  have fu0 := Pu.out.fz 0
  have du1 := Pu.out.at (i := 1) rfl
  have fu1 := Pu.out.fz 1
  have du2 := Pu.out.at (i := 2) rfl
  have fu2 := Pu.out.fz 2
  replace Qg := hid (Qg.out.off3 Pu.out (.int .i64 (0 : Int)) (.int .i64 (0 : Int)) (.slice none (0) 0))
  replace Qh := hid (Qh.out.off3 Pu.out (.int .i64 (0 : Int)) (.int .i64 (0 : Int)) (.slice none (0) 0))
  obtain ⟨V33, hV⟩ : ∃ V33, put3 w31 (w19.heap.size) (.int .i64 (0 : Int)) (.int .i64 (0 : Int)) (.slice none (0) 0) = V33 := ⟨_, rfl⟩
  replace Ma := hid (Ma.out.wk Pu.out (.int .i64 (0 : Int)) (.int .i64 (0 : Int)) (.slice none (0) 0))
  replace Mb := hid (Mb.out.wk Pu.out (.int .i64 (0 : Int)) (.int .i64 (0 : Int)) (.slice none (0) 0))
  replace Mu := hid (Mu.out.wk Pu.out (.int .i64 (0 : Int)) (.int .i64 (0 : Int)) (.slice none (0) 0))
  replace Pa := hid (Pa.out.away3 (b' := w19.heap.size) (by omega) (.int .i64 (0 : Int)) (.int .i64 (0 : Int)) (.slice none (0) 0))
  replace Pb := hid (Pb.out.away3 (b' := w19.heap.size) (by omega) (.int .i64 (0 : Int)) (.int .i64 (0 : Int)) (.slice none (0) 0))
  replace Px := hid (Px.out.away3 (b' := w19.heap.size) (by omega) (.int .i64 (0 : Int)) (.int .i64 (0 : Int)) (.slice none (0) 0))
  replace Pu := hid (Pu.out.put3 (.int .i64 (0 : Int)) (.int .i64 (0 : Int)) (.slice none (0) 0))
  replace G := hid (below_put3 G.out (b := w19.heap.size) (by omega) (.int .i64 (0 : Int)) (.int .i64 (0 : Int)) (.slice none (0) 0))
  rw [hV] at G Ma Mb Mu Pa Pb Pu Px
  have lz33 : V33.heap.size = w31.heap.size := by rw [← hV]; simp
  rw [hV] at Qg Qh
  have EV : Hid (((w31.setCell ⟨w19.heap.size, 0, none⟩ (.int .i64 (0 : Int))).setCell ⟨w19.heap.size, 1, none⟩ (.int .i64 (0 : Int))).setCell ⟨w19.heap.size, 2, none⟩ (.slice none (0) 0) = V33) := hV
  clear hV
  go_wp2_with fail
  rw [EV.out]
  clear EV du0 fu0 du1 fu1 du2 fu2
  refine (dense_nil (w := V33)).mono ?_
  rintro e w34 ⟨rfl, b⟩
  replace Qg := hid (Qg.out.now b)
  replace Qh := hid (Qh.out.now b)
  replace Ma := hid (Ma.out.now b)
  replace Mb := hid (Mb.out.now b)
  replace Mu := hid (Mu.out.now b)
  replace Pa := hid (Pa.out.step b)
  replace Pb := hid (Pb.out.step b)
  replace Pu := hid (Pu.out.step b)
  replace Px := hid (Px.out.step b)
  replace G := hid (below_step G.out b)
  have lz35 := (show Below _ _ _ from b).size
  clear b
  have Mx := hid (mc_zero w34 0)
  have dx0 := Px.out.at (i := 0) rfl
  have fx0 := Px.out.fz 0
  have dx1 := Px.out.at (i := 1) rfl
  have fx1 := Px.out.fz 1
  have dx2 := Px.out.at (i := 2) rfl
  have fx2 := Px.out.fz 2
  replace Qg := hid (Qg.out.off3 Px.out (.int .i64 (0 : Int)) (.int .i64 (0 : Int)) (.slice none (0) 0))
  replace Qh := hid (Qh.out.off3 Px.out (.int .i64 (0 : Int)) (.int .i64 (0 : Int)) (.slice none (0) 0))
  obtain ⟨V36, hV⟩ : ∃ V36, put3 w34 (w23.heap.size) (.int .i64 (0 : Int)) (.int .i64 (0 : Int)) (.slice none (0) 0) = V36 := ⟨_, rfl⟩
  replace Ma := hid (Ma.out.wk Px.out (.int .i64 (0 : Int)) (.int .i64 (0 : Int)) (.slice none (0) 0))
  replace Mb := hid (Mb.out.wk Px.out (.int .i64 (0 : Int)) (.int .i64 (0 : Int)) (.slice none (0) 0))
  replace Mu := hid (Mu.out.wk Px.out (.int .i64 (0 : Int)) (.int .i64 (0 : Int)) (.slice none (0) 0))
  replace Mx := hid (Mx.out.wk Px.out (.int .i64 (0 : Int)) (.int .i64 (0 : Int)) (.slice none (0) 0))
  replace Pa := hid (Pa.out.away3 (b' := w23.heap.size) (by omega) (.int .i64 (0 : Int)) (.int .i64 (0 : Int)) (.slice none (0) 0))
  replace Pb := hid (Pb.out.away3 (b' := w23.heap.size) (by omega) (.int .i64 (0 : Int)) (.int .i64 (0 : Int)) (.slice none (0) 0))
  replace Pu := hid (Pu.out.away3 (b' := w23.heap.size) (by omega) (.int .i64 (0 : Int)) (.int .i64 (0 : Int)) (.slice none (0) 0))
  replace Px := hid (Px.out.put3 (.int .i64 (0 : Int)) (.int .i64 (0 : Int)) (.slice none (0) 0))
  replace G := hid (below_put3 G.out (b := w23.heap.size) (by omega) (.int .i64 (0 : Int)) (.int .i64 (0 : Int)) (.slice none (0) 0))
  rw [hV] at G Ma Mb Mu Mx Pa Pb Pu Px
  have lz36 : V36.heap.size = w34.heap.size := by rw [← hV]; simp
  rw [hV] at Qg Qh
  have cx0 := Px.out.at (i := 0) rfl
  have cx1 := Px.out.at (i := 1) rfl
  have cx2 := Px.out.at (i := 2) rfl
  have cu0 := Pu.out.at (i := 0) rfl
  have cu1 := Pu.out.at (i := 1) rfl
  have cu2 := Pu.out.at (i := 2) rfl
  rw [← hV] at cx0 cx1 cx2 cu0 cu1 cu2
  have EV : Hid (((w34.setCell ⟨w23.heap.size, 0, none⟩ (.int .i64 (0 : Int))).setCell ⟨w23.heap.size, 1, none⟩ (.int .i64 (0 : Int))).setCell ⟨w23.heap.size, 2, none⟩ (.slice none (0) 0) = V36) := hV
  clear hV
  go_wp2_with fail
  rw [EV.out]
  clear EV dx0 fx0 dx1 fx1 dx2 fx2 cx0 cx1 cx2 cu0 cu1 cu2
  refine (mats10_yes Mx.out Mu.out rfl).mono ?_
  rintro e w37 ⟨rfl, b⟩
  replace Qg := hid (Qg.out.now b)
  replace Qh := hid (Qh.out.now b)
  replace Ma := hid (Ma.out.now b)
  replace Mb := hid (Mb.out.now b)
  replace Mu := hid (Mu.out.now b)
  replace Mx := hid (Mx.out.now b)
  replace Pa := hid (Pa.out.step b)
  replace Pb := hid (Pb.out.step b)
  replace Pu := hid (Pu.out.step b)
  replace Px := hid (Px.out.step b)
  replace G := hid (below_step G.out b)
  have lz38 := (show Below _ _ _ from b).size
  clear b
  clear Mx
  clear Mu
  go_wp2_with fail
  refine (turn_any Qg.out).mono ?_
  rintro e w39 ⟨gp, bp, rfl, hq, hgg, hbb, b⟩
  replace Qg := hid (Qg.out.now b)
  replace Qh := hid (Qh.out.now b)
  replace Ma := hid (Ma.out.now b)
  replace Mb := hid (Mb.out.now b)
  replace Pa := hid (Pa.out.step b)
  replace Pb := hid (Pb.out.step b)
  replace Pu := hid (Pu.out.step b)
  replace Px := hid (Px.out.step b)
  replace G := hid (below_step G.out b)
  have lz40 := (show Below _ _ _ from b).size
  have Qp := hid hq
  clear hq hgg hbb b
  have ca0 := Pa.out.at (i := 0) rfl
  have ca1 := Pa.out.at (i := 1) rfl
  have ca2 := Pa.out.at (i := 2) rfl
  go_wp2_with fail
  clear ca0 ca1 ca2
  refine (turn_yes Ma.out).mono ?_
  rintro e w41 ⟨v, rfl, hm, b⟩
  obtain ⟨au, qu, rfl, -, -⟩ := hm.mx.form
  replace Qg := hid (Qg.out.now b)
  replace Qh := hid (Qh.out.now b)
  replace Qp := hid (Qp.out.now b)
  replace Ma := hid (Ma.out.now b)
  replace Mb := hid (Mb.out.now b)
  replace Pa := hid (Pa.out.step b)
  replace Pb := hid (Pb.out.step b)
  replace Pu := hid (Pu.out.step b)
  replace Px := hid (Px.out.step b)
  replace G := hid (below_step G.out b)
  have lz42 := (show Below _ _ _ from b).size
  obtain ⟨zu, hz⟩ : ∃ zu, turnL9 r m xs = zu := ⟨_, rfl⟩
  rw [hz] at hm
  have Eu := hid hz
  have Mu := hid hm
  clear hm hz b
  have du0 := Pu.out.at (i := 0) rfl
  have fu0 := Pu.out.fz 0
  have du1 := Pu.out.at (i := 1) rfl
  have fu1 := Pu.out.fz 1
  have du2 := Pu.out.at (i := 2) rfl
  have fu2 := Pu.out.fz 2
  replace Qg := hid (Qg.out.off3 Pu.out (.int .i64 (m : Int)) (.int .i64 (r : Int)) (.slice au (m * r) qu))
  replace Qh := hid (Qh.out.off3 Pu.out (.int .i64 (m : Int)) (.int .i64 (r : Int)) (.slice au (m * r) qu))
  replace Qp := hid (Qp.out.off3 Pu.out (.int .i64 (m : Int)) (.int .i64 (r : Int)) (.slice au (m * r) qu))
  obtain ⟨V43, hV⟩ : ∃ V43, put3 w41 (w19.heap.size) (.int .i64 (m : Int)) (.int .i64 (r : Int)) (.slice au (m * r) qu) = V43 := ⟨_, rfl⟩
  replace Ma := hid (Ma.out.wk Pu.out (.int .i64 (m : Int)) (.int .i64 (r : Int)) (.slice au (m * r) qu))
  replace Mb := hid (Mb.out.wk Pu.out (.int .i64 (m : Int)) (.int .i64 (r : Int)) (.slice au (m * r) qu))
  replace Mu := hid (Mu.out.wk Pu.out (.int .i64 (m : Int)) (.int .i64 (r : Int)) (.slice au (m * r) qu))
  replace Pa := hid (Pa.out.away3 (b' := w19.heap.size) (by omega) (.int .i64 (m : Int)) (.int .i64 (r : Int)) (.slice au (m * r) qu))
  replace Pb := hid (Pb.out.away3 (b' := w19.heap.size) (by omega) (.int .i64 (m : Int)) (.int .i64 (r : Int)) (.slice au (m * r) qu))
  replace Px := hid (Px.out.away3 (b' := w19.heap.size) (by omega) (.int .i64 (m : Int)) (.int .i64 (r : Int)) (.slice au (m * r) qu))
  replace Pu := hid (Pu.out.put3 (.int .i64 (m : Int)) (.int .i64 (r : Int)) (.slice au (m * r) qu))
  replace G := hid (below_put3 G.out (b := w19.heap.size) (by omega) (.int .i64 (m : Int)) (.int .i64 (r : Int)) (.slice au (m * r) qu))
  rw [hV] at G Ma Mb Mu Pa Pb Pu Px
  have lz43 : V43.heap.size = w41.heap.size := by rw [← hV]; simp
  rw [hV] at Qg Qh Qp
  have EV : Hid (((w41.setCell ⟨w19.heap.size, 0, none⟩ (.int .i64 (m : Int))).setCell ⟨w19.heap.size, 1, none⟩ (.int .i64 (r : Int))).setCell ⟨w19.heap.size, 2, none⟩ (.slice au (m * r) qu) = V43) := hV
  clear hV
  go_wp2_with fail
  rw [EV.out]
  clear EV du0 fu0 du1 fu1 du2 fu2
  refine (dense_any Qp.out (by omega) (by omega)).mono ?_
  rintro e w44 ⟨v, rfl, hm, b⟩
  obtain ⟨ax, qx, rfl, -, -⟩ := hm.mx.form
  replace Qg := hid (Qg.out.now b)
  replace Qh := hid (Qh.out.now b)
  replace Qp := hid (Qp.out.now b)
  replace Ma := hid (Ma.out.now b)
  replace Mb := hid (Mb.out.now b)
  replace Mu := hid (Mu.out.now b)
  replace Pa := hid (Pa.out.step b)
  replace Pb := hid (Pb.out.step b)
  replace Pu := hid (Pu.out.step b)
  replace Px := hid (Px.out.step b)
  replace G := hid (below_step G.out b)
  have lz45 := (show Below _ _ _ from b).size
  obtain ⟨zx, hz⟩ : ∃ zx, dnL m r (fun i j => ofF m xs (r * m) j i) = zx := ⟨_, rfl⟩
  rw [hz] at hm
  have Ex := hid hz
  have Mx := hid hm
  clear hm hz b
  have dx0 := Px.out.at (i := 0) rfl
  have fx0 := Px.out.fz 0
  have dx1 := Px.out.at (i := 1) rfl
  have fx1 := Px.out.fz 1
  have dx2 := Px.out.at (i := 2) rfl
  have fx2 := Px.out.fz 2
  replace Qg := hid (Qg.out.off3 Px.out (.int .i64 (m : Int)) (.int .i64 (r : Int)) (.slice ax (m * r) qx))
  replace Qh := hid (Qh.out.off3 Px.out (.int .i64 (m : Int)) (.int .i64 (r : Int)) (.slice ax (m * r) qx))
  replace Qp := hid (Qp.out.off3 Px.out (.int .i64 (m : Int)) (.int .i64 (r : Int)) (.slice ax (m * r) qx))
  obtain ⟨V46, hV⟩ : ∃ V46, put3 w44 (w23.heap.size) (.int .i64 (m : Int)) (.int .i64 (r : Int)) (.slice ax (m * r) qx) = V46 := ⟨_, rfl⟩
  replace Ma := hid (Ma.out.wk Px.out (.int .i64 (m : Int)) (.int .i64 (r : Int)) (.slice ax (m * r) qx))
  replace Mb := hid (Mb.out.wk Px.out (.int .i64 (m : Int)) (.int .i64 (r : Int)) (.slice ax (m * r) qx))
  replace Mu := hid (Mu.out.wk Px.out (.int .i64 (m : Int)) (.int .i64 (r : Int)) (.slice ax (m * r) qx))
  replace Mx := hid (Mx.out.wk Px.out (.int .i64 (m : Int)) (.int .i64 (r : Int)) (.slice ax (m * r) qx))
  replace Pa := hid (Pa.out.away3 (b' := w23.heap.size) (by omega) (.int .i64 (m : Int)) (.int .i64 (r : Int)) (.slice ax (m * r) qx))
  replace Pb := hid (Pb.out.away3 (b' := w23.heap.size) (by omega) (.int .i64 (m : Int)) (.int .i64 (r : Int)) (.slice ax (m * r) qx))
  replace Pu := hid (Pu.out.away3 (b' := w23.heap.size) (by omega) (.int .i64 (m : Int)) (.int .i64 (r : Int)) (.slice ax (m * r) qx))
  replace Px := hid (Px.out.put3 (.int .i64 (m : Int)) (.int .i64 (r : Int)) (.slice ax (m * r) qx))
  replace G := hid (below_put3 G.out (b := w23.heap.size) (by omega) (.int .i64 (m : Int)) (.int .i64 (r : Int)) (.slice ax (m * r) qx))
  rw [hV] at G Ma Mb Mu Mx Pa Pb Pu Px
  have lz46 : V46.heap.size = w44.heap.size := by rw [← hV]; simp
  rw [hV] at Qg Qh Qp
  have cx0 := Px.out.at (i := 0) rfl
  have cx1 := Px.out.at (i := 1) rfl
  have cx2 := Px.out.at (i := 2) rfl
  have cu0 := Pu.out.at (i := 0) rfl
  have cu1 := Pu.out.at (i := 1) rfl
  have cu2 := Pu.out.at (i := 2) rfl
  rw [← hV] at cx0 cx1 cx2 cu0 cu1 cu2
  have EV : Hid (((w44.setCell ⟨w23.heap.size, 0, none⟩ (.int .i64 (m : Int))).setCell ⟨w23.heap.size, 1, none⟩ (.int .i64 (r : Int))).setCell ⟨w23.heap.size, 2, none⟩ (.slice ax (m * r) qx) = V46) := hV
  clear hV
  go_wp2_with fail
  rw [EV.out]
  clear EV dx0 fx0 dx1 fx1 dx2 fx2 cx0 cx1 cx2 cu0 cu1 cu2
  refine (mats10_yes Mx.out Mu.out (by rw [← Ex.out, ← Eu.out]; exact dn_turn)).mono ?_
  rintro e w47 ⟨rfl, b⟩
  replace Qg := hid (Qg.out.now b)
  replace Qh := hid (Qh.out.now b)
  replace Qp := hid (Qp.out.now b)
  replace Ma := hid (Ma.out.now b)
  replace Mb := hid (Mb.out.now b)
  replace Mu := hid (Mu.out.now b)
  replace Mx := hid (Mx.out.now b)
  replace Pa := hid (Pa.out.step b)
  replace Pb := hid (Pb.out.step b)
  replace Pu := hid (Pu.out.step b)
  replace Px := hid (Px.out.step b)
  replace G := hid (below_step G.out b)
  have lz48 := (show Below _ _ _ from b).size
  clear b
  clear Mx
  clear Mu
  clear Ex Eu
  go_wp2
  go_ret
  exact ⟨rfl, G.out⟩
set_option maxHeartbeats 6400000 in
set_option maxRecDepth 100000 in
theorem ring_moc {w : World} {va vb : Value} {c r : Nat} {xs ys : List Int} (ha : Mx w va r r xs 1048576) (hb : Mx w vb r c ys 1048576) (hs : r ≠ c) : Calls Try.prog 4 #[va, vb] w (fun e w' => e = .returned (.bool true) ∧ Below w.heap.size w w') := by
  have Ma := hid ha
  have Mb := hid hb
  obtain ⟨aa, qa, rfl, sa1, sa2⟩ := ha.form
  obtain ⟨ab, qb, rfl, sb1, sb2⟩ := hb.form
  have LX := hid ha.len10
  obtain ⟨W0, hV⟩ : ∃ W0, (w.alloc (.cells #[.int .i64 (r : Int), .int .i64 (r : Int), .slice aa (r * r) qa] 24)).alloc (.cells #[.int .i64 (r : Int), .int .i64 (c : Int), .slice ab (r * c) qb] 24) = W0 := ⟨_, rfl⟩
  obtain ⟨b0, sz0⟩ := alloc2 w (.cells #[.int .i64 (r : Int), .int .i64 (r : Int), .slice aa (r * r) qa] 24) (.cells #[.int .i64 (r : Int), .int .i64 (c : Int), .slice ab (r * c) qb] 24)
  rw [hV] at b0 sz0
  obtain ⟨pa, pb⟩ := boxes2 (o1 := [.int .i64 (r : Int), .int .i64 (r : Int), .slice aa (r * r) qa]) (o2 := [.int .i64 (r : Int), .int .i64 (c : Int), .slice ab (r * c) qb]) hV
  have Pa := hid pa
  have Pb := hid pb
  have G := hid b0
  have EV := hid hV
  replace Ma := hid (Ma.out.now b0)
  replace Mb := hid (Mb.out.now b0)
  clear b0 pa pb hV ha hb
  have HSS := hid hs
  clear hs
  go_enter Try.func4, Try.ntmps4
  go_wp2_with fail
  rw [EV.out]
  clear EV
  refine (awake10 W0).mono ?_
  rintro e w11 ⟨rfl, b⟩
  replace Ma := hid (Ma.out.now b)
  replace Mb := hid (Mb.out.now b)
  replace Pa := hid (Pa.out.step b)
  replace Pb := hid (Pb.out.step b)
  replace G := hid (below_step G.out b)
  have lz12 := (show Below _ _ _ from b).size
  clear b
  have ca0 := Pa.out.at (i := 0) rfl
  have ca1 := Pa.out.at (i := 1) rfl
  have ca2 := Pa.out.at (i := 2) rfl
  go_wp2_with fail
  clear ca0 ca1 ca2
  refine (of_any Ma.out).mono ?_
  rintro e w13 ⟨gg, bg, rfl, hq, hgg, hbb, b⟩
  replace Ma := hid (Ma.out.now b)
  replace Mb := hid (Mb.out.now b)
  replace Pa := hid (Pa.out.step b)
  replace Pb := hid (Pb.out.step b)
  replace G := hid (below_step G.out b)
  have lz14 := (show Below _ _ _ from b).size
  have Qg := hid hq
  clear hq hgg hbb b
  have cb0 := Pb.out.at (i := 0) rfl
  have cb1 := Pb.out.at (i := 1) rfl
  have cb2 := Pb.out.at (i := 2) rfl
  go_wp2_with fail
  clear cb0 cb1 cb2
  refine (of_any Mb.out).mono ?_
  rintro e w15 ⟨gh, bh, rfl, hq, hgg, hbb, b⟩
  replace Qg := hid (Qg.out.now b)
  replace Ma := hid (Ma.out.now b)
  replace Mb := hid (Mb.out.now b)
  replace Pa := hid (Pa.out.step b)
  replace Pb := hid (Pb.out.step b)
  replace G := hid (below_step G.out b)
  have lz16 := (show Below _ _ _ from b).size
  have Qh := hid hq
  clear hq hgg hbb b
  go_wp2_with fail
  refine (mulG_yes Qg.out Qh.out (by omega) (by omega) (by omega) (by omega)).mono ?_
  rintro e w17 ⟨gp, bp, rfl, hq, hgg, hbb, b⟩
  replace Qg := hid (Qg.out.now b)
  replace Qh := hid (Qh.out.now b)
  replace Ma := hid (Ma.out.now b)
  replace Mb := hid (Mb.out.now b)
  replace Pa := hid (Pa.out.step b)
  replace Pb := hid (Pb.out.step b)
  replace G := hid (below_step G.out b)
  have lz18 := (show Below _ _ _ from b).size
  have Qp := hid hq
  clear hq hgg hbb b
  have ca0 := Pa.out.at (i := 0) rfl
  have ca1 := Pa.out.at (i := 1) rfl
  have ca2 := Pa.out.at (i := 2) rfl
  have cb0 := Pb.out.at (i := 0) rfl
  have cb1 := Pb.out.at (i := 1) rfl
  have cb2 := Pb.out.at (i := 2) rfl
  go_wp2_with fail
  clear ca0 ca1 ca2 cb0 cb1 cb2
  refine (mul_yes Ma.out Mb.out (by omega)).mono ?_
  rintro e w19 ⟨v, rfl, hm, b⟩
  obtain ⟨au, qu, rfl, -, -⟩ := hm.mx.form
  replace Qg := hid (Qg.out.now b)
  replace Qh := hid (Qh.out.now b)
  replace Qp := hid (Qp.out.now b)
  replace Ma := hid (Ma.out.now b)
  replace Mb := hid (Mb.out.now b)
  replace Pa := hid (Pa.out.step b)
  replace Pb := hid (Pb.out.step b)
  replace G := hid (below_step G.out b)
  have lz20 := (show Below _ _ _ from b).size
  obtain ⟨zu, hz⟩ : ∃ zu, prodL r r c xs ys = zu := ⟨_, rfl⟩
  rw [hz] at hm
  have Eu := hid hz
  have Mu := hid hm
  clear hm hz b
  obtain ⟨V21, hV⟩ : ∃ V21, w19.alloc (matO r c (.slice au (r * c) qu)) = V21 := ⟨_, rfl⟩
  obtain ⟨b, sz21⟩ := alo1 w19 (matO r c (.slice au (r * c) qu))
  rw [hV] at b sz21
  replace Qg := hid (Qg.out.now b)
  replace Qh := hid (Qh.out.now b)
  replace Qp := hid (Qp.out.now b)
  replace Ma := hid (Ma.out.now b)
  replace Mb := hid (Mb.out.now b)
  replace Mu := hid (Mu.out.now b)
  replace Pa := hid (Pa.out.step b)
  replace Pb := hid (Pb.out.step b)
  replace G := hid (below_step G.out b)
  have lz22 := (show Below _ _ _ from b).size
  have Pu : Hid (Cel V21 w19.heap.size 24 (matc r c (.slice au (r * c) qu))) := by unfold Hid; rw [← hV]; exact Cel.new w19 _ _
  clear b
  have EV := hid hV
  clear hV
  go_wp2_with fail
  rw [EV.out]
  clear EV
  refine (dense_any Qp.out (by omega) (by omega)).mono ?_
  rintro e w23 ⟨v, rfl, hm, b⟩
  obtain ⟨ax, qx, rfl, -, -⟩ := hm.mx.form
  replace Qg := hid (Qg.out.now b)
  replace Qh := hid (Qh.out.now b)
  replace Qp := hid (Qp.out.now b)
  replace Ma := hid (Ma.out.now b)
  replace Mb := hid (Mb.out.now b)
  replace Mu := hid (Mu.out.now b)
  replace Pa := hid (Pa.out.step b)
  replace Pb := hid (Pb.out.step b)
  replace Pu := hid (Pu.out.step b)
  replace G := hid (below_step G.out b)
  have lz24 := (show Below _ _ _ from b).size
  obtain ⟨zx, hz⟩ : ∃ zx, dnL r c (piS r (fun _ => false) (ofF r xs (r * r)) (ofF c ys (r * c))) = zx := ⟨_, rfl⟩
  rw [hz] at hm
  have Ex := hid hz
  have Mx := hid hm
  clear hm hz b
  obtain ⟨V25, hV⟩ : ∃ V25, w23.alloc (matO r c (.slice ax (r * c) qx)) = V25 := ⟨_, rfl⟩
  obtain ⟨b, sz25⟩ := alo1 w23 (matO r c (.slice ax (r * c) qx))
  rw [hV] at b sz25
  replace Qg := hid (Qg.out.now b)
  replace Qh := hid (Qh.out.now b)
  replace Qp := hid (Qp.out.now b)
  replace Ma := hid (Ma.out.now b)
  replace Mb := hid (Mb.out.now b)
  replace Mu := hid (Mu.out.now b)
  replace Mx := hid (Mx.out.now b)
  replace Pa := hid (Pa.out.step b)
  replace Pb := hid (Pb.out.step b)
  replace Pu := hid (Pu.out.step b)
  replace G := hid (below_step G.out b)
  have lz26 := (show Below _ _ _ from b).size
  have Px : Hid (Cel V25 w23.heap.size 24 (matc r c (.slice ax (r * c) qx))) := by unfold Hid; rw [← hV]; exact Cel.new w23 _ _
  clear b
  have cx0 := Px.out.at (i := 0) rfl
  have cx1 := Px.out.at (i := 1) rfl
  have cx2 := Px.out.at (i := 2) rfl
  have cu0 := Pu.out.at (i := 0) rfl
  have cu1 := Pu.out.at (i := 1) rfl
  have cu2 := Pu.out.at (i := 2) rfl
  rw [← hV] at cx0 cx1 cx2 cu0 cu1 cu2
  have EV := hid hV
  clear hV
  go_wp2_with fail
  rw [EV.out]
  clear EV
  clear cx0 cx1 cx2 cu0 cu1 cu2
  refine (mats10_yes Mx.out Mu.out (by rw [← Ex.out, ← Eu.out]; exact dn_mul LX.out)).mono ?_
  rintro e w27 ⟨rfl, b⟩
  replace Qg := hid (Qg.out.now b)
  replace Qh := hid (Qh.out.now b)
  replace Qp := hid (Qp.out.now b)
  replace Ma := hid (Ma.out.now b)
  replace Mb := hid (Mb.out.now b)
  replace Mu := hid (Mu.out.now b)
  replace Mx := hid (Mx.out.now b)
  replace Pa := hid (Pa.out.step b)
  replace Pb := hid (Pb.out.step b)
  replace Pu := hid (Pu.out.step b)
  replace Px := hid (Px.out.step b)
  replace G := hid (below_step G.out b)
  have lz28 := (show Below _ _ _ from b).size
  clear b
  clear Mx
  clear Mu
  clear Ex Eu
  clear Qp
  go_wp2_with fail
  have hne : ((r : Int) != (c : Int)) = true := by have := HSS.out; simp; omega
  refine (addG_cols Qg.out Qh.out hne).mono ?_
  rintro e w29 ⟨rfl, b⟩
  replace Qg := hid (Qg.out.now b)
  replace Qh := hid (Qh.out.now b)
  replace Ma := hid (Ma.out.now b)
  replace Mb := hid (Mb.out.now b)
  replace Pa := hid (Pa.out.step b)
  replace Pb := hid (Pb.out.step b)
  replace Pu := hid (Pu.out.step b)
  replace Px := hid (Px.out.step b)
  replace G := hid (below_step G.out b)
  have lz30 := (show Below _ _ _ from b).size
  clear b
  clear hne
  have ca0 := Pa.out.at (i := 0) rfl
  have ca1 := Pa.out.at (i := 1) rfl
  have ca2 := Pa.out.at (i := 2) rfl
  have cb0 := Pb.out.at (i := 0) rfl
  have cb1 := Pb.out.at (i := 1) rfl
  have cb2 := Pb.out.at (i := 2) rfl
  go_wp2_with fail
  clear ca0 ca1 ca2 cb0 cb1 cb2
  refine (add_no Ma.out Mb.out (.inr HSS.out)).mono ?_
  rintro e w31 ⟨rfl, b⟩
  replace Qg := hid (Qg.out.now b)
  replace Qh := hid (Qh.out.now b)
  replace Ma := hid (Ma.out.now b)
  replace Mb := hid (Mb.out.now b)
  replace Pa := hid (Pa.out.step b)
  replace Pb := hid (Pb.out.step b)
  replace Pu := hid (Pu.out.step b)
  replace Px := hid (Px.out.step b)
  replace G := hid (below_step G.out b)
  have lz32 := (show Below _ _ _ from b).size
  clear b
  have Mu := hid (mc_zero w31 0)
  have du0 := Pu.out.at (i := 0) rfl
  have fu0 := Pu.out.fz 0
  have du1 := Pu.out.at (i := 1) rfl
  have fu1 := Pu.out.fz 1
  have du2 := Pu.out.at (i := 2) rfl
  have fu2 := Pu.out.fz 2
  replace Qg := hid (Qg.out.off3 Pu.out (.int .i64 (0 : Int)) (.int .i64 (0 : Int)) (.slice none (0) 0))
  replace Qh := hid (Qh.out.off3 Pu.out (.int .i64 (0 : Int)) (.int .i64 (0 : Int)) (.slice none (0) 0))
  obtain ⟨V33, hV⟩ : ∃ V33, put3 w31 (w19.heap.size) (.int .i64 (0 : Int)) (.int .i64 (0 : Int)) (.slice none (0) 0) = V33 := ⟨_, rfl⟩
  replace Ma := hid (Ma.out.wk Pu.out (.int .i64 (0 : Int)) (.int .i64 (0 : Int)) (.slice none (0) 0))
  replace Mb := hid (Mb.out.wk Pu.out (.int .i64 (0 : Int)) (.int .i64 (0 : Int)) (.slice none (0) 0))
  replace Mu := hid (Mu.out.wk Pu.out (.int .i64 (0 : Int)) (.int .i64 (0 : Int)) (.slice none (0) 0))
  replace Pa := hid (Pa.out.away3 (b' := w19.heap.size) (by omega) (.int .i64 (0 : Int)) (.int .i64 (0 : Int)) (.slice none (0) 0))
  replace Pb := hid (Pb.out.away3 (b' := w19.heap.size) (by omega) (.int .i64 (0 : Int)) (.int .i64 (0 : Int)) (.slice none (0) 0))
  replace Px := hid (Px.out.away3 (b' := w19.heap.size) (by omega) (.int .i64 (0 : Int)) (.int .i64 (0 : Int)) (.slice none (0) 0))
  replace Pu := hid (Pu.out.put3 (.int .i64 (0 : Int)) (.int .i64 (0 : Int)) (.slice none (0) 0))
  replace G := hid (below_put3 G.out (b := w19.heap.size) (by omega) (.int .i64 (0 : Int)) (.int .i64 (0 : Int)) (.slice none (0) 0))
  rw [hV] at G Ma Mb Mu Pa Pb Pu Px
  have lz33 : V33.heap.size = w31.heap.size := by rw [← hV]; simp
  rw [hV] at Qg Qh
  have EV : Hid (((w31.setCell ⟨w19.heap.size, 0, none⟩ (.int .i64 (0 : Int))).setCell ⟨w19.heap.size, 1, none⟩ (.int .i64 (0 : Int))).setCell ⟨w19.heap.size, 2, none⟩ (.slice none (0) 0) = V33) := hV
  clear hV
  go_wp2_with fail
  rw [EV.out]
  clear EV du0 fu0 du1 fu1 du2 fu2
  refine (dense_nil (w := V33)).mono ?_
  rintro e w34 ⟨rfl, b⟩
  replace Qg := hid (Qg.out.now b)
  replace Qh := hid (Qh.out.now b)
  replace Ma := hid (Ma.out.now b)
  replace Mb := hid (Mb.out.now b)
  replace Mu := hid (Mu.out.now b)
  replace Pa := hid (Pa.out.step b)
  replace Pb := hid (Pb.out.step b)
  replace Pu := hid (Pu.out.step b)
  replace Px := hid (Px.out.step b)
  replace G := hid (below_step G.out b)
  have lz35 := (show Below _ _ _ from b).size
  clear b
  have Mx := hid (mc_zero w34 0)
  have dx0 := Px.out.at (i := 0) rfl
  have fx0 := Px.out.fz 0
  have dx1 := Px.out.at (i := 1) rfl
  have fx1 := Px.out.fz 1
  have dx2 := Px.out.at (i := 2) rfl
  have fx2 := Px.out.fz 2
  replace Qg := hid (Qg.out.off3 Px.out (.int .i64 (0 : Int)) (.int .i64 (0 : Int)) (.slice none (0) 0))
  replace Qh := hid (Qh.out.off3 Px.out (.int .i64 (0 : Int)) (.int .i64 (0 : Int)) (.slice none (0) 0))
  obtain ⟨V36, hV⟩ : ∃ V36, put3 w34 (w23.heap.size) (.int .i64 (0 : Int)) (.int .i64 (0 : Int)) (.slice none (0) 0) = V36 := ⟨_, rfl⟩
  replace Ma := hid (Ma.out.wk Px.out (.int .i64 (0 : Int)) (.int .i64 (0 : Int)) (.slice none (0) 0))
  replace Mb := hid (Mb.out.wk Px.out (.int .i64 (0 : Int)) (.int .i64 (0 : Int)) (.slice none (0) 0))
  replace Mu := hid (Mu.out.wk Px.out (.int .i64 (0 : Int)) (.int .i64 (0 : Int)) (.slice none (0) 0))
  replace Mx := hid (Mx.out.wk Px.out (.int .i64 (0 : Int)) (.int .i64 (0 : Int)) (.slice none (0) 0))
  replace Pa := hid (Pa.out.away3 (b' := w23.heap.size) (by omega) (.int .i64 (0 : Int)) (.int .i64 (0 : Int)) (.slice none (0) 0))
  replace Pb := hid (Pb.out.away3 (b' := w23.heap.size) (by omega) (.int .i64 (0 : Int)) (.int .i64 (0 : Int)) (.slice none (0) 0))
  replace Pu := hid (Pu.out.away3 (b' := w23.heap.size) (by omega) (.int .i64 (0 : Int)) (.int .i64 (0 : Int)) (.slice none (0) 0))
  replace Px := hid (Px.out.put3 (.int .i64 (0 : Int)) (.int .i64 (0 : Int)) (.slice none (0) 0))
  replace G := hid (below_put3 G.out (b := w23.heap.size) (by omega) (.int .i64 (0 : Int)) (.int .i64 (0 : Int)) (.slice none (0) 0))
  rw [hV] at G Ma Mb Mu Mx Pa Pb Pu Px
  have lz36 : V36.heap.size = w34.heap.size := by rw [← hV]; simp
  rw [hV] at Qg Qh
  have cx0 := Px.out.at (i := 0) rfl
  have cx1 := Px.out.at (i := 1) rfl
  have cx2 := Px.out.at (i := 2) rfl
  have cu0 := Pu.out.at (i := 0) rfl
  have cu1 := Pu.out.at (i := 1) rfl
  have cu2 := Pu.out.at (i := 2) rfl
  rw [← hV] at cx0 cx1 cx2 cu0 cu1 cu2
  have EV : Hid (((w34.setCell ⟨w23.heap.size, 0, none⟩ (.int .i64 (0 : Int))).setCell ⟨w23.heap.size, 1, none⟩ (.int .i64 (0 : Int))).setCell ⟨w23.heap.size, 2, none⟩ (.slice none (0) 0) = V36) := hV
  clear hV
  go_wp2_with fail
  rw [EV.out]
  clear EV dx0 fx0 dx1 fx1 dx2 fx2 cx0 cx1 cx2 cu0 cu1 cu2
  refine (mats10_yes Mx.out Mu.out rfl).mono ?_
  rintro e w37 ⟨rfl, b⟩
  replace Qg := hid (Qg.out.now b)
  replace Qh := hid (Qh.out.now b)
  replace Ma := hid (Ma.out.now b)
  replace Mb := hid (Mb.out.now b)
  replace Mu := hid (Mu.out.now b)
  replace Mx := hid (Mx.out.now b)
  replace Pa := hid (Pa.out.step b)
  replace Pb := hid (Pb.out.step b)
  replace Pu := hid (Pu.out.step b)
  replace Px := hid (Px.out.step b)
  replace G := hid (below_step G.out b)
  have lz38 := (show Below _ _ _ from b).size
  clear b
  clear Mx
  clear Mu
  go_wp2_with fail
  refine (turn_any Qg.out).mono ?_
  rintro e w39 ⟨gp, bp, rfl, hq, hgg, hbb, b⟩
  replace Qg := hid (Qg.out.now b)
  replace Qh := hid (Qh.out.now b)
  replace Ma := hid (Ma.out.now b)
  replace Mb := hid (Mb.out.now b)
  replace Pa := hid (Pa.out.step b)
  replace Pb := hid (Pb.out.step b)
  replace Pu := hid (Pu.out.step b)
  replace Px := hid (Px.out.step b)
  replace G := hid (below_step G.out b)
  have lz40 := (show Below _ _ _ from b).size
  have Qp := hid hq
  clear hq hgg hbb b
  have ca0 := Pa.out.at (i := 0) rfl
  have ca1 := Pa.out.at (i := 1) rfl
  have ca2 := Pa.out.at (i := 2) rfl
  go_wp2_with fail
  clear ca0 ca1 ca2
  refine (turn_yes Ma.out).mono ?_
  rintro e w41 ⟨v, rfl, hm, b⟩
  obtain ⟨au, qu, rfl, -, -⟩ := hm.mx.form
  replace Qg := hid (Qg.out.now b)
  replace Qh := hid (Qh.out.now b)
  replace Qp := hid (Qp.out.now b)
  replace Ma := hid (Ma.out.now b)
  replace Mb := hid (Mb.out.now b)
  replace Pa := hid (Pa.out.step b)
  replace Pb := hid (Pb.out.step b)
  replace Pu := hid (Pu.out.step b)
  replace Px := hid (Px.out.step b)
  replace G := hid (below_step G.out b)
  have lz42 := (show Below _ _ _ from b).size
  obtain ⟨zu, hz⟩ : ∃ zu, turnL9 r r xs = zu := ⟨_, rfl⟩
  rw [hz] at hm
  have Eu := hid hz
  have Mu := hid hm
  clear hm hz b
  have du0 := Pu.out.at (i := 0) rfl
  have fu0 := Pu.out.fz 0
  have du1 := Pu.out.at (i := 1) rfl
  have fu1 := Pu.out.fz 1
  have du2 := Pu.out.at (i := 2) rfl
  have fu2 := Pu.out.fz 2
  replace Qg := hid (Qg.out.off3 Pu.out (.int .i64 (r : Int)) (.int .i64 (r : Int)) (.slice au (r * r) qu))
  replace Qh := hid (Qh.out.off3 Pu.out (.int .i64 (r : Int)) (.int .i64 (r : Int)) (.slice au (r * r) qu))
  replace Qp := hid (Qp.out.off3 Pu.out (.int .i64 (r : Int)) (.int .i64 (r : Int)) (.slice au (r * r) qu))
  obtain ⟨V43, hV⟩ : ∃ V43, put3 w41 (w19.heap.size) (.int .i64 (r : Int)) (.int .i64 (r : Int)) (.slice au (r * r) qu) = V43 := ⟨_, rfl⟩
  replace Ma := hid (Ma.out.wk Pu.out (.int .i64 (r : Int)) (.int .i64 (r : Int)) (.slice au (r * r) qu))
  replace Mb := hid (Mb.out.wk Pu.out (.int .i64 (r : Int)) (.int .i64 (r : Int)) (.slice au (r * r) qu))
  replace Mu := hid (Mu.out.wk Pu.out (.int .i64 (r : Int)) (.int .i64 (r : Int)) (.slice au (r * r) qu))
  replace Pa := hid (Pa.out.away3 (b' := w19.heap.size) (by omega) (.int .i64 (r : Int)) (.int .i64 (r : Int)) (.slice au (r * r) qu))
  replace Pb := hid (Pb.out.away3 (b' := w19.heap.size) (by omega) (.int .i64 (r : Int)) (.int .i64 (r : Int)) (.slice au (r * r) qu))
  replace Px := hid (Px.out.away3 (b' := w19.heap.size) (by omega) (.int .i64 (r : Int)) (.int .i64 (r : Int)) (.slice au (r * r) qu))
  replace Pu := hid (Pu.out.put3 (.int .i64 (r : Int)) (.int .i64 (r : Int)) (.slice au (r * r) qu))
  replace G := hid (below_put3 G.out (b := w19.heap.size) (by omega) (.int .i64 (r : Int)) (.int .i64 (r : Int)) (.slice au (r * r) qu))
  rw [hV] at G Ma Mb Mu Pa Pb Pu Px
  have lz43 : V43.heap.size = w41.heap.size := by rw [← hV]; simp
  rw [hV] at Qg Qh Qp
  have EV : Hid (((w41.setCell ⟨w19.heap.size, 0, none⟩ (.int .i64 (r : Int))).setCell ⟨w19.heap.size, 1, none⟩ (.int .i64 (r : Int))).setCell ⟨w19.heap.size, 2, none⟩ (.slice au (r * r) qu) = V43) := hV
  clear hV
  go_wp2_with fail
  rw [EV.out]
  clear EV du0 fu0 du1 fu1 du2 fu2
  refine (dense_any Qp.out (by omega) (by omega)).mono ?_
  rintro e w44 ⟨v, rfl, hm, b⟩
  obtain ⟨ax, qx, rfl, -, -⟩ := hm.mx.form
  replace Qg := hid (Qg.out.now b)
  replace Qh := hid (Qh.out.now b)
  replace Qp := hid (Qp.out.now b)
  replace Ma := hid (Ma.out.now b)
  replace Mb := hid (Mb.out.now b)
  replace Mu := hid (Mu.out.now b)
  replace Pa := hid (Pa.out.step b)
  replace Pb := hid (Pb.out.step b)
  replace Pu := hid (Pu.out.step b)
  replace Px := hid (Px.out.step b)
  replace G := hid (below_step G.out b)
  have lz45 := (show Below _ _ _ from b).size
  obtain ⟨zx, hz⟩ : ∃ zx, dnL r r (fun i j => ofF r xs (r * r) j i) = zx := ⟨_, rfl⟩
  rw [hz] at hm
  have Ex := hid hz
  have Mx := hid hm
  clear hm hz b
  have dx0 := Px.out.at (i := 0) rfl
  have fx0 := Px.out.fz 0
  have dx1 := Px.out.at (i := 1) rfl
  have fx1 := Px.out.fz 1
  have dx2 := Px.out.at (i := 2) rfl
  have fx2 := Px.out.fz 2
  replace Qg := hid (Qg.out.off3 Px.out (.int .i64 (r : Int)) (.int .i64 (r : Int)) (.slice ax (r * r) qx))
  replace Qh := hid (Qh.out.off3 Px.out (.int .i64 (r : Int)) (.int .i64 (r : Int)) (.slice ax (r * r) qx))
  replace Qp := hid (Qp.out.off3 Px.out (.int .i64 (r : Int)) (.int .i64 (r : Int)) (.slice ax (r * r) qx))
  obtain ⟨V46, hV⟩ : ∃ V46, put3 w44 (w23.heap.size) (.int .i64 (r : Int)) (.int .i64 (r : Int)) (.slice ax (r * r) qx) = V46 := ⟨_, rfl⟩
  replace Ma := hid (Ma.out.wk Px.out (.int .i64 (r : Int)) (.int .i64 (r : Int)) (.slice ax (r * r) qx))
  replace Mb := hid (Mb.out.wk Px.out (.int .i64 (r : Int)) (.int .i64 (r : Int)) (.slice ax (r * r) qx))
  replace Mu := hid (Mu.out.wk Px.out (.int .i64 (r : Int)) (.int .i64 (r : Int)) (.slice ax (r * r) qx))
  replace Mx := hid (Mx.out.wk Px.out (.int .i64 (r : Int)) (.int .i64 (r : Int)) (.slice ax (r * r) qx))
  replace Pa := hid (Pa.out.away3 (b' := w23.heap.size) (by omega) (.int .i64 (r : Int)) (.int .i64 (r : Int)) (.slice ax (r * r) qx))
  replace Pb := hid (Pb.out.away3 (b' := w23.heap.size) (by omega) (.int .i64 (r : Int)) (.int .i64 (r : Int)) (.slice ax (r * r) qx))
  replace Pu := hid (Pu.out.away3 (b' := w23.heap.size) (by omega) (.int .i64 (r : Int)) (.int .i64 (r : Int)) (.slice ax (r * r) qx))
  replace Px := hid (Px.out.put3 (.int .i64 (r : Int)) (.int .i64 (r : Int)) (.slice ax (r * r) qx))
  replace G := hid (below_put3 G.out (b := w23.heap.size) (by omega) (.int .i64 (r : Int)) (.int .i64 (r : Int)) (.slice ax (r * r) qx))
  rw [hV] at G Ma Mb Mu Mx Pa Pb Pu Px
  have lz46 : V46.heap.size = w44.heap.size := by rw [← hV]; simp
  rw [hV] at Qg Qh Qp
  have cx0 := Px.out.at (i := 0) rfl
  have cx1 := Px.out.at (i := 1) rfl
  have cx2 := Px.out.at (i := 2) rfl
  have cu0 := Pu.out.at (i := 0) rfl
  have cu1 := Pu.out.at (i := 1) rfl
  have cu2 := Pu.out.at (i := 2) rfl
  rw [← hV] at cx0 cx1 cx2 cu0 cu1 cu2
  have EV : Hid (((w44.setCell ⟨w23.heap.size, 0, none⟩ (.int .i64 (r : Int))).setCell ⟨w23.heap.size, 1, none⟩ (.int .i64 (r : Int))).setCell ⟨w23.heap.size, 2, none⟩ (.slice ax (r * r) qx) = V46) := hV
  clear hV
  go_wp2_with fail
  rw [EV.out]
  clear EV dx0 fx0 dx1 fx1 dx2 fx2 cx0 cx1 cx2 cu0 cu1 cu2
  refine (mats10_yes Mx.out Mu.out (by rw [← Ex.out, ← Eu.out]; exact dn_turn)).mono ?_
  rintro e w47 ⟨rfl, b⟩
  replace Qg := hid (Qg.out.now b)
  replace Qh := hid (Qh.out.now b)
  replace Qp := hid (Qp.out.now b)
  replace Ma := hid (Ma.out.now b)
  replace Mb := hid (Mb.out.now b)
  replace Mu := hid (Mu.out.now b)
  replace Mx := hid (Mx.out.now b)
  replace Pa := hid (Pa.out.step b)
  replace Pb := hid (Pb.out.step b)
  replace Pu := hid (Pu.out.step b)
  replace Px := hid (Px.out.step b)
  replace G := hid (below_step G.out b)
  have lz48 := (show Below _ _ _ from b).size
  clear b
  clear Mx
  clear Mu
  clear Ex Eu
  go_wp2
  go_ret
  exact ⟨rfl, G.out⟩
set_option maxHeartbeats 6400000 in
set_option maxRecDepth 100000 in
theorem ring_kor {w : World} {va vb : Value} {c m m' r : Nat} {xs ys : List Int} (ha : Mx w va r m xs 1048576) (hb : Mx w vb m' c ys 1048576) (hm : m ≠ m') (hs : r ≠ m') : Calls Try.prog 4 #[va, vb] w (fun e w' => e = .returned (.bool true) ∧ Below w.heap.size w w') := by
  have Ma := hid ha
  have Mb := hid hb
  obtain ⟨aa, qa, rfl, sa1, sa2⟩ := ha.form
  obtain ⟨ab, qb, rfl, sb1, sb2⟩ := hb.form
  have LX := hid ha.len10
  obtain ⟨W0, hV⟩ : ∃ W0, (w.alloc (.cells #[.int .i64 (r : Int), .int .i64 (m : Int), .slice aa (r * m) qa] 24)).alloc (.cells #[.int .i64 (m' : Int), .int .i64 (c : Int), .slice ab (m' * c) qb] 24) = W0 := ⟨_, rfl⟩
  obtain ⟨b0, sz0⟩ := alloc2 w (.cells #[.int .i64 (r : Int), .int .i64 (m : Int), .slice aa (r * m) qa] 24) (.cells #[.int .i64 (m' : Int), .int .i64 (c : Int), .slice ab (m' * c) qb] 24)
  rw [hV] at b0 sz0
  obtain ⟨pa, pb⟩ := boxes2 (o1 := [.int .i64 (r : Int), .int .i64 (m : Int), .slice aa (r * m) qa]) (o2 := [.int .i64 (m' : Int), .int .i64 (c : Int), .slice ab (m' * c) qb]) hV
  have Pa := hid pa
  have Pb := hid pb
  have G := hid b0
  have EV := hid hV
  replace Ma := hid (Ma.out.now b0)
  replace Mb := hid (Mb.out.now b0)
  clear b0 pa pb hV ha hb
  have HMM := hid hm
  clear hm
  have HSS := hid hs
  clear hs
  go_enter Try.func4, Try.ntmps4
  go_wp2_with fail
  rw [EV.out]
  clear EV
  refine (awake10 W0).mono ?_
  rintro e w11 ⟨rfl, b⟩
  replace Ma := hid (Ma.out.now b)
  replace Mb := hid (Mb.out.now b)
  replace Pa := hid (Pa.out.step b)
  replace Pb := hid (Pb.out.step b)
  replace G := hid (below_step G.out b)
  have lz12 := (show Below _ _ _ from b).size
  clear b
  have ca0 := Pa.out.at (i := 0) rfl
  have ca1 := Pa.out.at (i := 1) rfl
  have ca2 := Pa.out.at (i := 2) rfl
  go_wp2_with fail
  clear ca0 ca1 ca2
  refine (of_any Ma.out).mono ?_
  rintro e w13 ⟨gg, bg, rfl, hq, hgg, hbb, b⟩
  replace Ma := hid (Ma.out.now b)
  replace Mb := hid (Mb.out.now b)
  replace Pa := hid (Pa.out.step b)
  replace Pb := hid (Pb.out.step b)
  replace G := hid (below_step G.out b)
  have lz14 := (show Below _ _ _ from b).size
  have Qg := hid hq
  clear hq hgg hbb b
  have cb0 := Pb.out.at (i := 0) rfl
  have cb1 := Pb.out.at (i := 1) rfl
  have cb2 := Pb.out.at (i := 2) rfl
  go_wp2_with fail
  clear cb0 cb1 cb2
  refine (of_any Mb.out).mono ?_
  rintro e w15 ⟨gh, bh, rfl, hq, hgg, hbb, b⟩
  replace Qg := hid (Qg.out.now b)
  replace Ma := hid (Ma.out.now b)
  replace Mb := hid (Mb.out.now b)
  replace Pa := hid (Pa.out.step b)
  replace Pb := hid (Pb.out.step b)
  replace G := hid (below_step G.out b)
  have lz16 := (show Below _ _ _ from b).size
  have Qh := hid hq
  clear hq hgg hbb b
  go_wp2_with fail
  have hne : ((m : Int) != (m' : Int)) = true := by have := HMM.out; simp; omega
  refine (mulG_no Qg.out Qh.out hne).mono ?_
  rintro e w17 ⟨rfl, b⟩
  replace Qg := hid (Qg.out.now b)
  replace Qh := hid (Qh.out.now b)
  replace Ma := hid (Ma.out.now b)
  replace Mb := hid (Mb.out.now b)
  replace Pa := hid (Pa.out.step b)
  replace Pb := hid (Pb.out.step b)
  replace G := hid (below_step G.out b)
  have lz18 := (show Below _ _ _ from b).size
  clear b
  clear hne
  have ca0 := Pa.out.at (i := 0) rfl
  have ca1 := Pa.out.at (i := 1) rfl
  have ca2 := Pa.out.at (i := 2) rfl
  have cb0 := Pb.out.at (i := 0) rfl
  have cb1 := Pb.out.at (i := 1) rfl
  have cb2 := Pb.out.at (i := 2) rfl
  go_wp2_with fail
  clear ca0 ca1 ca2 cb0 cb1 cb2
  refine (mul_no Ma.out Mb.out HMM.out).mono ?_
  rintro e w19 ⟨rfl, b⟩
  replace Qg := hid (Qg.out.now b)
  replace Qh := hid (Qh.out.now b)
  replace Ma := hid (Ma.out.now b)
  replace Mb := hid (Mb.out.now b)
  replace Pa := hid (Pa.out.step b)
  replace Pb := hid (Pb.out.step b)
  replace G := hid (below_step G.out b)
  have lz20 := (show Below _ _ _ from b).size
  clear b
  have Mu := hid (mc_zero w19 0)
  obtain ⟨V21, hV⟩ : ∃ V21, w19.alloc mbox = V21 := ⟨_, rfl⟩
  obtain ⟨b, sz21⟩ := alo1 w19 mbox
  rw [hV] at b sz21
  replace Qg := hid (Qg.out.now b)
  replace Qh := hid (Qh.out.now b)
  replace Ma := hid (Ma.out.now b)
  replace Mb := hid (Mb.out.now b)
  replace Mu := hid (Mu.out.now b)
  replace Pa := hid (Pa.out.step b)
  replace Pb := hid (Pb.out.step b)
  replace G := hid (below_step G.out b)
  have lz22 := (show Below _ _ _ from b).size
  have Pu : Hid (Cel V21 w19.heap.size 24 ([.int .i64 0, .int .i64 0, .slice none 0 0])) := by unfold Hid; rw [← hV]; exact Cel.new w19 _ _
  clear b
  have EV := hid hV
  clear hV
  go_wp2_with fail
  rw [EV.out]
  clear EV
  refine (dense_nil (w := V21)).mono ?_
  rintro e w23 ⟨rfl, b⟩
  replace Qg := hid (Qg.out.now b)
  replace Qh := hid (Qh.out.now b)
  replace Ma := hid (Ma.out.now b)
  replace Mb := hid (Mb.out.now b)
  replace Mu := hid (Mu.out.now b)
  replace Pa := hid (Pa.out.step b)
  replace Pb := hid (Pb.out.step b)
  replace Pu := hid (Pu.out.step b)
  replace G := hid (below_step G.out b)
  have lz24 := (show Below _ _ _ from b).size
  clear b
  have Mx := hid (mc_zero w23 0)
  obtain ⟨V25, hV⟩ : ∃ V25, w23.alloc mbox = V25 := ⟨_, rfl⟩
  obtain ⟨b, sz25⟩ := alo1 w23 mbox
  rw [hV] at b sz25
  replace Qg := hid (Qg.out.now b)
  replace Qh := hid (Qh.out.now b)
  replace Ma := hid (Ma.out.now b)
  replace Mb := hid (Mb.out.now b)
  replace Mu := hid (Mu.out.now b)
  replace Mx := hid (Mx.out.now b)
  replace Pa := hid (Pa.out.step b)
  replace Pb := hid (Pb.out.step b)
  replace Pu := hid (Pu.out.step b)
  replace G := hid (below_step G.out b)
  have lz26 := (show Below _ _ _ from b).size
  have Px : Hid (Cel V25 w23.heap.size 24 ([.int .i64 0, .int .i64 0, .slice none 0 0])) := by unfold Hid; rw [← hV]; exact Cel.new w23 _ _
  clear b
  have cx0 := Px.out.at (i := 0) rfl
  have cx1 := Px.out.at (i := 1) rfl
  have cx2 := Px.out.at (i := 2) rfl
  have cu0 := Pu.out.at (i := 0) rfl
  have cu1 := Pu.out.at (i := 1) rfl
  have cu2 := Pu.out.at (i := 2) rfl
  rw [← hV] at cx0 cx1 cx2 cu0 cu1 cu2
  have EV := hid hV
  clear hV
  go_wp2_with fail
  rw [EV.out]
  clear EV
  clear cx0 cx1 cx2 cu0 cu1 cu2
  refine (mats10_yes Mx.out Mu.out rfl).mono ?_
  rintro e w27 ⟨rfl, b⟩
  replace Qg := hid (Qg.out.now b)
  replace Qh := hid (Qh.out.now b)
  replace Ma := hid (Ma.out.now b)
  replace Mb := hid (Mb.out.now b)
  replace Mu := hid (Mu.out.now b)
  replace Mx := hid (Mx.out.now b)
  replace Pa := hid (Pa.out.step b)
  replace Pb := hid (Pb.out.step b)
  replace Pu := hid (Pu.out.step b)
  replace Px := hid (Px.out.step b)
  replace G := hid (below_step G.out b)
  have lz28 := (show Below _ _ _ from b).size
  clear b
  clear Mx
  clear Mu
  go_wp2_with fail
  have hne : ((r : Int) != (m' : Int)) = true := by have := HSS.out; simp; omega
  refine (addG_rows Qg.out Qh.out hne).mono ?_
  rintro e w29 ⟨rfl, b⟩
  replace Qg := hid (Qg.out.now b)
  replace Qh := hid (Qh.out.now b)
  replace Ma := hid (Ma.out.now b)
  replace Mb := hid (Mb.out.now b)
  replace Pa := hid (Pa.out.step b)
  replace Pb := hid (Pb.out.step b)
  replace Pu := hid (Pu.out.step b)
  replace Px := hid (Px.out.step b)
  replace G := hid (below_step G.out b)
  have lz30 := (show Below _ _ _ from b).size
  clear b
  clear hne
  have ca0 := Pa.out.at (i := 0) rfl
  have ca1 := Pa.out.at (i := 1) rfl
  have ca2 := Pa.out.at (i := 2) rfl
  have cb0 := Pb.out.at (i := 0) rfl
  have cb1 := Pb.out.at (i := 1) rfl
  have cb2 := Pb.out.at (i := 2) rfl
  go_wp2_with fail
  clear ca0 ca1 ca2 cb0 cb1 cb2
  refine (add_no Ma.out Mb.out (.inl HSS.out)).mono ?_
  rintro e w31 ⟨rfl, b⟩
  replace Qg := hid (Qg.out.now b)
  replace Qh := hid (Qh.out.now b)
  replace Ma := hid (Ma.out.now b)
  replace Mb := hid (Mb.out.now b)
  replace Pa := hid (Pa.out.step b)
  replace Pb := hid (Pb.out.step b)
  replace Pu := hid (Pu.out.step b)
  replace Px := hid (Px.out.step b)
  replace G := hid (below_step G.out b)
  have lz32 := (show Below _ _ _ from b).size
  clear b
  have Mu := hid (mc_zero w31 0)
  have du0 := Pu.out.at (i := 0) rfl
  have fu0 := Pu.out.fz 0
  have du1 := Pu.out.at (i := 1) rfl
  have fu1 := Pu.out.fz 1
  have du2 := Pu.out.at (i := 2) rfl
  have fu2 := Pu.out.fz 2
  replace Qg := hid (Qg.out.off3 Pu.out (.int .i64 (0 : Int)) (.int .i64 (0 : Int)) (.slice none (0) 0))
  replace Qh := hid (Qh.out.off3 Pu.out (.int .i64 (0 : Int)) (.int .i64 (0 : Int)) (.slice none (0) 0))
  obtain ⟨V33, hV⟩ : ∃ V33, put3 w31 (w19.heap.size) (.int .i64 (0 : Int)) (.int .i64 (0 : Int)) (.slice none (0) 0) = V33 := ⟨_, rfl⟩
  replace Ma := hid (Ma.out.wk Pu.out (.int .i64 (0 : Int)) (.int .i64 (0 : Int)) (.slice none (0) 0))
  replace Mb := hid (Mb.out.wk Pu.out (.int .i64 (0 : Int)) (.int .i64 (0 : Int)) (.slice none (0) 0))
  replace Mu := hid (Mu.out.wk Pu.out (.int .i64 (0 : Int)) (.int .i64 (0 : Int)) (.slice none (0) 0))
  replace Pa := hid (Pa.out.away3 (b' := w19.heap.size) (by omega) (.int .i64 (0 : Int)) (.int .i64 (0 : Int)) (.slice none (0) 0))
  replace Pb := hid (Pb.out.away3 (b' := w19.heap.size) (by omega) (.int .i64 (0 : Int)) (.int .i64 (0 : Int)) (.slice none (0) 0))
  replace Px := hid (Px.out.away3 (b' := w19.heap.size) (by omega) (.int .i64 (0 : Int)) (.int .i64 (0 : Int)) (.slice none (0) 0))
  replace Pu := hid (Pu.out.put3 (.int .i64 (0 : Int)) (.int .i64 (0 : Int)) (.slice none (0) 0))
  replace G := hid (below_put3 G.out (b := w19.heap.size) (by omega) (.int .i64 (0 : Int)) (.int .i64 (0 : Int)) (.slice none (0) 0))
  rw [hV] at G Ma Mb Mu Pa Pb Pu Px
  have lz33 : V33.heap.size = w31.heap.size := by rw [← hV]; simp
  rw [hV] at Qg Qh
  have EV : Hid (((w31.setCell ⟨w19.heap.size, 0, none⟩ (.int .i64 (0 : Int))).setCell ⟨w19.heap.size, 1, none⟩ (.int .i64 (0 : Int))).setCell ⟨w19.heap.size, 2, none⟩ (.slice none (0) 0) = V33) := hV
  clear hV
  go_wp2_with fail
  rw [EV.out]
  clear EV du0 fu0 du1 fu1 du2 fu2
  refine (dense_nil (w := V33)).mono ?_
  rintro e w34 ⟨rfl, b⟩
  replace Qg := hid (Qg.out.now b)
  replace Qh := hid (Qh.out.now b)
  replace Ma := hid (Ma.out.now b)
  replace Mb := hid (Mb.out.now b)
  replace Mu := hid (Mu.out.now b)
  replace Pa := hid (Pa.out.step b)
  replace Pb := hid (Pb.out.step b)
  replace Pu := hid (Pu.out.step b)
  replace Px := hid (Px.out.step b)
  replace G := hid (below_step G.out b)
  have lz35 := (show Below _ _ _ from b).size
  clear b
  have Mx := hid (mc_zero w34 0)
  have dx0 := Px.out.at (i := 0) rfl
  have fx0 := Px.out.fz 0
  have dx1 := Px.out.at (i := 1) rfl
  have fx1 := Px.out.fz 1
  have dx2 := Px.out.at (i := 2) rfl
  have fx2 := Px.out.fz 2
  replace Qg := hid (Qg.out.off3 Px.out (.int .i64 (0 : Int)) (.int .i64 (0 : Int)) (.slice none (0) 0))
  replace Qh := hid (Qh.out.off3 Px.out (.int .i64 (0 : Int)) (.int .i64 (0 : Int)) (.slice none (0) 0))
  obtain ⟨V36, hV⟩ : ∃ V36, put3 w34 (w23.heap.size) (.int .i64 (0 : Int)) (.int .i64 (0 : Int)) (.slice none (0) 0) = V36 := ⟨_, rfl⟩
  replace Ma := hid (Ma.out.wk Px.out (.int .i64 (0 : Int)) (.int .i64 (0 : Int)) (.slice none (0) 0))
  replace Mb := hid (Mb.out.wk Px.out (.int .i64 (0 : Int)) (.int .i64 (0 : Int)) (.slice none (0) 0))
  replace Mu := hid (Mu.out.wk Px.out (.int .i64 (0 : Int)) (.int .i64 (0 : Int)) (.slice none (0) 0))
  replace Mx := hid (Mx.out.wk Px.out (.int .i64 (0 : Int)) (.int .i64 (0 : Int)) (.slice none (0) 0))
  replace Pa := hid (Pa.out.away3 (b' := w23.heap.size) (by omega) (.int .i64 (0 : Int)) (.int .i64 (0 : Int)) (.slice none (0) 0))
  replace Pb := hid (Pb.out.away3 (b' := w23.heap.size) (by omega) (.int .i64 (0 : Int)) (.int .i64 (0 : Int)) (.slice none (0) 0))
  replace Pu := hid (Pu.out.away3 (b' := w23.heap.size) (by omega) (.int .i64 (0 : Int)) (.int .i64 (0 : Int)) (.slice none (0) 0))
  replace Px := hid (Px.out.put3 (.int .i64 (0 : Int)) (.int .i64 (0 : Int)) (.slice none (0) 0))
  replace G := hid (below_put3 G.out (b := w23.heap.size) (by omega) (.int .i64 (0 : Int)) (.int .i64 (0 : Int)) (.slice none (0) 0))
  rw [hV] at G Ma Mb Mu Mx Pa Pb Pu Px
  have lz36 : V36.heap.size = w34.heap.size := by rw [← hV]; simp
  rw [hV] at Qg Qh
  have cx0 := Px.out.at (i := 0) rfl
  have cx1 := Px.out.at (i := 1) rfl
  have cx2 := Px.out.at (i := 2) rfl
  have cu0 := Pu.out.at (i := 0) rfl
  have cu1 := Pu.out.at (i := 1) rfl
  have cu2 := Pu.out.at (i := 2) rfl
  rw [← hV] at cx0 cx1 cx2 cu0 cu1 cu2
  have EV : Hid (((w34.setCell ⟨w23.heap.size, 0, none⟩ (.int .i64 (0 : Int))).setCell ⟨w23.heap.size, 1, none⟩ (.int .i64 (0 : Int))).setCell ⟨w23.heap.size, 2, none⟩ (.slice none (0) 0) = V36) := hV
  clear hV
  go_wp2_with fail
  rw [EV.out]
  clear EV dx0 fx0 dx1 fx1 dx2 fx2 cx0 cx1 cx2 cu0 cu1 cu2
  refine (mats10_yes Mx.out Mu.out rfl).mono ?_
  rintro e w37 ⟨rfl, b⟩
  replace Qg := hid (Qg.out.now b)
  replace Qh := hid (Qh.out.now b)
  replace Ma := hid (Ma.out.now b)
  replace Mb := hid (Mb.out.now b)
  replace Mu := hid (Mu.out.now b)
  replace Mx := hid (Mx.out.now b)
  replace Pa := hid (Pa.out.step b)
  replace Pb := hid (Pb.out.step b)
  replace Pu := hid (Pu.out.step b)
  replace Px := hid (Px.out.step b)
  replace G := hid (below_step G.out b)
  have lz38 := (show Below _ _ _ from b).size
  clear b
  clear Mx
  clear Mu
  go_wp2_with fail
  refine (turn_any Qg.out).mono ?_
  rintro e w39 ⟨gp, bp, rfl, hq, hgg, hbb, b⟩
  replace Qg := hid (Qg.out.now b)
  replace Qh := hid (Qh.out.now b)
  replace Ma := hid (Ma.out.now b)
  replace Mb := hid (Mb.out.now b)
  replace Pa := hid (Pa.out.step b)
  replace Pb := hid (Pb.out.step b)
  replace Pu := hid (Pu.out.step b)
  replace Px := hid (Px.out.step b)
  replace G := hid (below_step G.out b)
  have lz40 := (show Below _ _ _ from b).size
  have Qp := hid hq
  clear hq hgg hbb b
  have ca0 := Pa.out.at (i := 0) rfl
  have ca1 := Pa.out.at (i := 1) rfl
  have ca2 := Pa.out.at (i := 2) rfl
  go_wp2_with fail
  clear ca0 ca1 ca2
  refine (turn_yes Ma.out).mono ?_
  rintro e w41 ⟨v, rfl, hm, b⟩
  obtain ⟨au, qu, rfl, -, -⟩ := hm.mx.form
  replace Qg := hid (Qg.out.now b)
  replace Qh := hid (Qh.out.now b)
  replace Qp := hid (Qp.out.now b)
  replace Ma := hid (Ma.out.now b)
  replace Mb := hid (Mb.out.now b)
  replace Pa := hid (Pa.out.step b)
  replace Pb := hid (Pb.out.step b)
  replace Pu := hid (Pu.out.step b)
  replace Px := hid (Px.out.step b)
  replace G := hid (below_step G.out b)
  have lz42 := (show Below _ _ _ from b).size
  obtain ⟨zu, hz⟩ : ∃ zu, turnL9 r m xs = zu := ⟨_, rfl⟩
  rw [hz] at hm
  have Eu := hid hz
  have Mu := hid hm
  clear hm hz b
  have du0 := Pu.out.at (i := 0) rfl
  have fu0 := Pu.out.fz 0
  have du1 := Pu.out.at (i := 1) rfl
  have fu1 := Pu.out.fz 1
  have du2 := Pu.out.at (i := 2) rfl
  have fu2 := Pu.out.fz 2
  replace Qg := hid (Qg.out.off3 Pu.out (.int .i64 (m : Int)) (.int .i64 (r : Int)) (.slice au (m * r) qu))
  replace Qh := hid (Qh.out.off3 Pu.out (.int .i64 (m : Int)) (.int .i64 (r : Int)) (.slice au (m * r) qu))
  replace Qp := hid (Qp.out.off3 Pu.out (.int .i64 (m : Int)) (.int .i64 (r : Int)) (.slice au (m * r) qu))
  obtain ⟨V43, hV⟩ : ∃ V43, put3 w41 (w19.heap.size) (.int .i64 (m : Int)) (.int .i64 (r : Int)) (.slice au (m * r) qu) = V43 := ⟨_, rfl⟩
  replace Ma := hid (Ma.out.wk Pu.out (.int .i64 (m : Int)) (.int .i64 (r : Int)) (.slice au (m * r) qu))
  replace Mb := hid (Mb.out.wk Pu.out (.int .i64 (m : Int)) (.int .i64 (r : Int)) (.slice au (m * r) qu))
  replace Mu := hid (Mu.out.wk Pu.out (.int .i64 (m : Int)) (.int .i64 (r : Int)) (.slice au (m * r) qu))
  replace Pa := hid (Pa.out.away3 (b' := w19.heap.size) (by omega) (.int .i64 (m : Int)) (.int .i64 (r : Int)) (.slice au (m * r) qu))
  replace Pb := hid (Pb.out.away3 (b' := w19.heap.size) (by omega) (.int .i64 (m : Int)) (.int .i64 (r : Int)) (.slice au (m * r) qu))
  replace Px := hid (Px.out.away3 (b' := w19.heap.size) (by omega) (.int .i64 (m : Int)) (.int .i64 (r : Int)) (.slice au (m * r) qu))
  replace Pu := hid (Pu.out.put3 (.int .i64 (m : Int)) (.int .i64 (r : Int)) (.slice au (m * r) qu))
  replace G := hid (below_put3 G.out (b := w19.heap.size) (by omega) (.int .i64 (m : Int)) (.int .i64 (r : Int)) (.slice au (m * r) qu))
  rw [hV] at G Ma Mb Mu Pa Pb Pu Px
  have lz43 : V43.heap.size = w41.heap.size := by rw [← hV]; simp
  rw [hV] at Qg Qh Qp
  have EV : Hid (((w41.setCell ⟨w19.heap.size, 0, none⟩ (.int .i64 (m : Int))).setCell ⟨w19.heap.size, 1, none⟩ (.int .i64 (r : Int))).setCell ⟨w19.heap.size, 2, none⟩ (.slice au (m * r) qu) = V43) := hV
  clear hV
  go_wp2_with fail
  rw [EV.out]
  clear EV du0 fu0 du1 fu1 du2 fu2
  refine (dense_any Qp.out (by omega) (by omega)).mono ?_
  rintro e w44 ⟨v, rfl, hm, b⟩
  obtain ⟨ax, qx, rfl, -, -⟩ := hm.mx.form
  replace Qg := hid (Qg.out.now b)
  replace Qh := hid (Qh.out.now b)
  replace Qp := hid (Qp.out.now b)
  replace Ma := hid (Ma.out.now b)
  replace Mb := hid (Mb.out.now b)
  replace Mu := hid (Mu.out.now b)
  replace Pa := hid (Pa.out.step b)
  replace Pb := hid (Pb.out.step b)
  replace Pu := hid (Pu.out.step b)
  replace Px := hid (Px.out.step b)
  replace G := hid (below_step G.out b)
  have lz45 := (show Below _ _ _ from b).size
  obtain ⟨zx, hz⟩ : ∃ zx, dnL m r (fun i j => ofF m xs (r * m) j i) = zx := ⟨_, rfl⟩
  rw [hz] at hm
  have Ex := hid hz
  have Mx := hid hm
  clear hm hz b
  have dx0 := Px.out.at (i := 0) rfl
  have fx0 := Px.out.fz 0
  have dx1 := Px.out.at (i := 1) rfl
  have fx1 := Px.out.fz 1
  have dx2 := Px.out.at (i := 2) rfl
  have fx2 := Px.out.fz 2
  replace Qg := hid (Qg.out.off3 Px.out (.int .i64 (m : Int)) (.int .i64 (r : Int)) (.slice ax (m * r) qx))
  replace Qh := hid (Qh.out.off3 Px.out (.int .i64 (m : Int)) (.int .i64 (r : Int)) (.slice ax (m * r) qx))
  replace Qp := hid (Qp.out.off3 Px.out (.int .i64 (m : Int)) (.int .i64 (r : Int)) (.slice ax (m * r) qx))
  obtain ⟨V46, hV⟩ : ∃ V46, put3 w44 (w23.heap.size) (.int .i64 (m : Int)) (.int .i64 (r : Int)) (.slice ax (m * r) qx) = V46 := ⟨_, rfl⟩
  replace Ma := hid (Ma.out.wk Px.out (.int .i64 (m : Int)) (.int .i64 (r : Int)) (.slice ax (m * r) qx))
  replace Mb := hid (Mb.out.wk Px.out (.int .i64 (m : Int)) (.int .i64 (r : Int)) (.slice ax (m * r) qx))
  replace Mu := hid (Mu.out.wk Px.out (.int .i64 (m : Int)) (.int .i64 (r : Int)) (.slice ax (m * r) qx))
  replace Mx := hid (Mx.out.wk Px.out (.int .i64 (m : Int)) (.int .i64 (r : Int)) (.slice ax (m * r) qx))
  replace Pa := hid (Pa.out.away3 (b' := w23.heap.size) (by omega) (.int .i64 (m : Int)) (.int .i64 (r : Int)) (.slice ax (m * r) qx))
  replace Pb := hid (Pb.out.away3 (b' := w23.heap.size) (by omega) (.int .i64 (m : Int)) (.int .i64 (r : Int)) (.slice ax (m * r) qx))
  replace Pu := hid (Pu.out.away3 (b' := w23.heap.size) (by omega) (.int .i64 (m : Int)) (.int .i64 (r : Int)) (.slice ax (m * r) qx))
  replace Px := hid (Px.out.put3 (.int .i64 (m : Int)) (.int .i64 (r : Int)) (.slice ax (m * r) qx))
  replace G := hid (below_put3 G.out (b := w23.heap.size) (by omega) (.int .i64 (m : Int)) (.int .i64 (r : Int)) (.slice ax (m * r) qx))
  rw [hV] at G Ma Mb Mu Mx Pa Pb Pu Px
  have lz46 : V46.heap.size = w44.heap.size := by rw [← hV]; simp
  rw [hV] at Qg Qh Qp
  have cx0 := Px.out.at (i := 0) rfl
  have cx1 := Px.out.at (i := 1) rfl
  have cx2 := Px.out.at (i := 2) rfl
  have cu0 := Pu.out.at (i := 0) rfl
  have cu1 := Pu.out.at (i := 1) rfl
  have cu2 := Pu.out.at (i := 2) rfl
  rw [← hV] at cx0 cx1 cx2 cu0 cu1 cu2
  have EV : Hid (((w44.setCell ⟨w23.heap.size, 0, none⟩ (.int .i64 (m : Int))).setCell ⟨w23.heap.size, 1, none⟩ (.int .i64 (r : Int))).setCell ⟨w23.heap.size, 2, none⟩ (.slice ax (m * r) qx) = V46) := hV
  clear hV
  go_wp2_with fail
  rw [EV.out]
  clear EV dx0 fx0 dx1 fx1 dx2 fx2 cx0 cx1 cx2 cu0 cu1 cu2
  refine (mats10_yes Mx.out Mu.out (by rw [← Ex.out, ← Eu.out]; exact dn_turn)).mono ?_
  rintro e w47 ⟨rfl, b⟩
  replace Qg := hid (Qg.out.now b)
  replace Qh := hid (Qh.out.now b)
  replace Qp := hid (Qp.out.now b)
  replace Ma := hid (Ma.out.now b)
  replace Mb := hid (Mb.out.now b)
  replace Mu := hid (Mu.out.now b)
  replace Mx := hid (Mx.out.now b)
  replace Pa := hid (Pa.out.step b)
  replace Pb := hid (Pb.out.step b)
  replace Pu := hid (Pu.out.step b)
  replace Px := hid (Px.out.step b)
  replace G := hid (below_step G.out b)
  have lz48 := (show Below _ _ _ from b).size
  clear b
  clear Mx
  clear Mu
  clear Ex Eu
  go_wp2
  go_ret
  exact ⟨rfl, G.out⟩
set_option maxHeartbeats 6400000 in
set_option maxRecDepth 100000 in
theorem ring_koc {w : World} {va vb : Value} {c m r : Nat} {xs ys : List Int} (ha : Mx w va r m xs 1048576) (hb : Mx w vb r c ys 1048576) (hm : m ≠ r) (hs : m ≠ c) : Calls Try.prog 4 #[va, vb] w (fun e w' => e = .returned (.bool true) ∧ Below w.heap.size w w') := by
  have Ma := hid ha
  have Mb := hid hb
  obtain ⟨aa, qa, rfl, sa1, sa2⟩ := ha.form
  obtain ⟨ab, qb, rfl, sb1, sb2⟩ := hb.form
  have LX := hid ha.len10
  obtain ⟨W0, hV⟩ : ∃ W0, (w.alloc (.cells #[.int .i64 (r : Int), .int .i64 (m : Int), .slice aa (r * m) qa] 24)).alloc (.cells #[.int .i64 (r : Int), .int .i64 (c : Int), .slice ab (r * c) qb] 24) = W0 := ⟨_, rfl⟩
  obtain ⟨b0, sz0⟩ := alloc2 w (.cells #[.int .i64 (r : Int), .int .i64 (m : Int), .slice aa (r * m) qa] 24) (.cells #[.int .i64 (r : Int), .int .i64 (c : Int), .slice ab (r * c) qb] 24)
  rw [hV] at b0 sz0
  obtain ⟨pa, pb⟩ := boxes2 (o1 := [.int .i64 (r : Int), .int .i64 (m : Int), .slice aa (r * m) qa]) (o2 := [.int .i64 (r : Int), .int .i64 (c : Int), .slice ab (r * c) qb]) hV
  have Pa := hid pa
  have Pb := hid pb
  have G := hid b0
  have EV := hid hV
  replace Ma := hid (Ma.out.now b0)
  replace Mb := hid (Mb.out.now b0)
  clear b0 pa pb hV ha hb
  have HMM := hid hm
  clear hm
  have HSS := hid hs
  clear hs
  go_enter Try.func4, Try.ntmps4
  go_wp2_with fail
  rw [EV.out]
  clear EV
  refine (awake10 W0).mono ?_
  rintro e w11 ⟨rfl, b⟩
  replace Ma := hid (Ma.out.now b)
  replace Mb := hid (Mb.out.now b)
  replace Pa := hid (Pa.out.step b)
  replace Pb := hid (Pb.out.step b)
  replace G := hid (below_step G.out b)
  have lz12 := (show Below _ _ _ from b).size
  clear b
  have ca0 := Pa.out.at (i := 0) rfl
  have ca1 := Pa.out.at (i := 1) rfl
  have ca2 := Pa.out.at (i := 2) rfl
  go_wp2_with fail
  clear ca0 ca1 ca2
  refine (of_any Ma.out).mono ?_
  rintro e w13 ⟨gg, bg, rfl, hq, hgg, hbb, b⟩
  replace Ma := hid (Ma.out.now b)
  replace Mb := hid (Mb.out.now b)
  replace Pa := hid (Pa.out.step b)
  replace Pb := hid (Pb.out.step b)
  replace G := hid (below_step G.out b)
  have lz14 := (show Below _ _ _ from b).size
  have Qg := hid hq
  clear hq hgg hbb b
  have cb0 := Pb.out.at (i := 0) rfl
  have cb1 := Pb.out.at (i := 1) rfl
  have cb2 := Pb.out.at (i := 2) rfl
  go_wp2_with fail
  clear cb0 cb1 cb2
  refine (of_any Mb.out).mono ?_
  rintro e w15 ⟨gh, bh, rfl, hq, hgg, hbb, b⟩
  replace Qg := hid (Qg.out.now b)
  replace Ma := hid (Ma.out.now b)
  replace Mb := hid (Mb.out.now b)
  replace Pa := hid (Pa.out.step b)
  replace Pb := hid (Pb.out.step b)
  replace G := hid (below_step G.out b)
  have lz16 := (show Below _ _ _ from b).size
  have Qh := hid hq
  clear hq hgg hbb b
  go_wp2_with fail
  have hne : ((m : Int) != (r : Int)) = true := by have := HMM.out; simp; omega
  refine (mulG_no Qg.out Qh.out hne).mono ?_
  rintro e w17 ⟨rfl, b⟩
  replace Qg := hid (Qg.out.now b)
  replace Qh := hid (Qh.out.now b)
  replace Ma := hid (Ma.out.now b)
  replace Mb := hid (Mb.out.now b)
  replace Pa := hid (Pa.out.step b)
  replace Pb := hid (Pb.out.step b)
  replace G := hid (below_step G.out b)
  have lz18 := (show Below _ _ _ from b).size
  clear b
  clear hne
  have ca0 := Pa.out.at (i := 0) rfl
  have ca1 := Pa.out.at (i := 1) rfl
  have ca2 := Pa.out.at (i := 2) rfl
  have cb0 := Pb.out.at (i := 0) rfl
  have cb1 := Pb.out.at (i := 1) rfl
  have cb2 := Pb.out.at (i := 2) rfl
  go_wp2_with fail
  clear ca0 ca1 ca2 cb0 cb1 cb2
  refine (mul_no Ma.out Mb.out HMM.out).mono ?_
  rintro e w19 ⟨rfl, b⟩
  replace Qg := hid (Qg.out.now b)
  replace Qh := hid (Qh.out.now b)
  replace Ma := hid (Ma.out.now b)
  replace Mb := hid (Mb.out.now b)
  replace Pa := hid (Pa.out.step b)
  replace Pb := hid (Pb.out.step b)
  replace G := hid (below_step G.out b)
  have lz20 := (show Below _ _ _ from b).size
  clear b
  have Mu := hid (mc_zero w19 0)
  obtain ⟨V21, hV⟩ : ∃ V21, w19.alloc mbox = V21 := ⟨_, rfl⟩
  obtain ⟨b, sz21⟩ := alo1 w19 mbox
  rw [hV] at b sz21
  replace Qg := hid (Qg.out.now b)
  replace Qh := hid (Qh.out.now b)
  replace Ma := hid (Ma.out.now b)
  replace Mb := hid (Mb.out.now b)
  replace Mu := hid (Mu.out.now b)
  replace Pa := hid (Pa.out.step b)
  replace Pb := hid (Pb.out.step b)
  replace G := hid (below_step G.out b)
  have lz22 := (show Below _ _ _ from b).size
  have Pu : Hid (Cel V21 w19.heap.size 24 ([.int .i64 0, .int .i64 0, .slice none 0 0])) := by unfold Hid; rw [← hV]; exact Cel.new w19 _ _
  clear b
  have EV := hid hV
  clear hV
  go_wp2_with fail
  rw [EV.out]
  clear EV
  refine (dense_nil (w := V21)).mono ?_
  rintro e w23 ⟨rfl, b⟩
  replace Qg := hid (Qg.out.now b)
  replace Qh := hid (Qh.out.now b)
  replace Ma := hid (Ma.out.now b)
  replace Mb := hid (Mb.out.now b)
  replace Mu := hid (Mu.out.now b)
  replace Pa := hid (Pa.out.step b)
  replace Pb := hid (Pb.out.step b)
  replace Pu := hid (Pu.out.step b)
  replace G := hid (below_step G.out b)
  have lz24 := (show Below _ _ _ from b).size
  clear b
  have Mx := hid (mc_zero w23 0)
  obtain ⟨V25, hV⟩ : ∃ V25, w23.alloc mbox = V25 := ⟨_, rfl⟩
  obtain ⟨b, sz25⟩ := alo1 w23 mbox
  rw [hV] at b sz25
  replace Qg := hid (Qg.out.now b)
  replace Qh := hid (Qh.out.now b)
  replace Ma := hid (Ma.out.now b)
  replace Mb := hid (Mb.out.now b)
  replace Mu := hid (Mu.out.now b)
  replace Mx := hid (Mx.out.now b)
  replace Pa := hid (Pa.out.step b)
  replace Pb := hid (Pb.out.step b)
  replace Pu := hid (Pu.out.step b)
  replace G := hid (below_step G.out b)
  have lz26 := (show Below _ _ _ from b).size
  have Px : Hid (Cel V25 w23.heap.size 24 ([.int .i64 0, .int .i64 0, .slice none 0 0])) := by unfold Hid; rw [← hV]; exact Cel.new w23 _ _
  clear b
  have cx0 := Px.out.at (i := 0) rfl
  have cx1 := Px.out.at (i := 1) rfl
  have cx2 := Px.out.at (i := 2) rfl
  have cu0 := Pu.out.at (i := 0) rfl
  have cu1 := Pu.out.at (i := 1) rfl
  have cu2 := Pu.out.at (i := 2) rfl
  rw [← hV] at cx0 cx1 cx2 cu0 cu1 cu2
  have EV := hid hV
  clear hV
  go_wp2_with fail
  rw [EV.out]
  clear EV
  clear cx0 cx1 cx2 cu0 cu1 cu2
  refine (mats10_yes Mx.out Mu.out rfl).mono ?_
  rintro e w27 ⟨rfl, b⟩
  replace Qg := hid (Qg.out.now b)
  replace Qh := hid (Qh.out.now b)
  replace Ma := hid (Ma.out.now b)
  replace Mb := hid (Mb.out.now b)
  replace Mu := hid (Mu.out.now b)
  replace Mx := hid (Mx.out.now b)
  replace Pa := hid (Pa.out.step b)
  replace Pb := hid (Pb.out.step b)
  replace Pu := hid (Pu.out.step b)
  replace Px := hid (Px.out.step b)
  replace G := hid (below_step G.out b)
  have lz28 := (show Below _ _ _ from b).size
  clear b
  clear Mx
  clear Mu
  go_wp2_with fail
  have hne : ((m : Int) != (c : Int)) = true := by have := HSS.out; simp; omega
  refine (addG_cols Qg.out Qh.out hne).mono ?_
  rintro e w29 ⟨rfl, b⟩
  replace Qg := hid (Qg.out.now b)
  replace Qh := hid (Qh.out.now b)
  replace Ma := hid (Ma.out.now b)
  replace Mb := hid (Mb.out.now b)
  replace Pa := hid (Pa.out.step b)
  replace Pb := hid (Pb.out.step b)
  replace Pu := hid (Pu.out.step b)
  replace Px := hid (Px.out.step b)
  replace G := hid (below_step G.out b)
  have lz30 := (show Below _ _ _ from b).size
  clear b
  clear hne
  have ca0 := Pa.out.at (i := 0) rfl
  have ca1 := Pa.out.at (i := 1) rfl
  have ca2 := Pa.out.at (i := 2) rfl
  have cb0 := Pb.out.at (i := 0) rfl
  have cb1 := Pb.out.at (i := 1) rfl
  have cb2 := Pb.out.at (i := 2) rfl
  go_wp2_with fail
  clear ca0 ca1 ca2 cb0 cb1 cb2
  refine (add_no Ma.out Mb.out (.inr HSS.out)).mono ?_
  rintro e w31 ⟨rfl, b⟩
  replace Qg := hid (Qg.out.now b)
  replace Qh := hid (Qh.out.now b)
  replace Ma := hid (Ma.out.now b)
  replace Mb := hid (Mb.out.now b)
  replace Pa := hid (Pa.out.step b)
  replace Pb := hid (Pb.out.step b)
  replace Pu := hid (Pu.out.step b)
  replace Px := hid (Px.out.step b)
  replace G := hid (below_step G.out b)
  have lz32 := (show Below _ _ _ from b).size
  clear b
  have Mu := hid (mc_zero w31 0)
  have du0 := Pu.out.at (i := 0) rfl
  have fu0 := Pu.out.fz 0
  have du1 := Pu.out.at (i := 1) rfl
  have fu1 := Pu.out.fz 1
  have du2 := Pu.out.at (i := 2) rfl
  have fu2 := Pu.out.fz 2
  replace Qg := hid (Qg.out.off3 Pu.out (.int .i64 (0 : Int)) (.int .i64 (0 : Int)) (.slice none (0) 0))
  replace Qh := hid (Qh.out.off3 Pu.out (.int .i64 (0 : Int)) (.int .i64 (0 : Int)) (.slice none (0) 0))
  obtain ⟨V33, hV⟩ : ∃ V33, put3 w31 (w19.heap.size) (.int .i64 (0 : Int)) (.int .i64 (0 : Int)) (.slice none (0) 0) = V33 := ⟨_, rfl⟩
  replace Ma := hid (Ma.out.wk Pu.out (.int .i64 (0 : Int)) (.int .i64 (0 : Int)) (.slice none (0) 0))
  replace Mb := hid (Mb.out.wk Pu.out (.int .i64 (0 : Int)) (.int .i64 (0 : Int)) (.slice none (0) 0))
  replace Mu := hid (Mu.out.wk Pu.out (.int .i64 (0 : Int)) (.int .i64 (0 : Int)) (.slice none (0) 0))
  replace Pa := hid (Pa.out.away3 (b' := w19.heap.size) (by omega) (.int .i64 (0 : Int)) (.int .i64 (0 : Int)) (.slice none (0) 0))
  replace Pb := hid (Pb.out.away3 (b' := w19.heap.size) (by omega) (.int .i64 (0 : Int)) (.int .i64 (0 : Int)) (.slice none (0) 0))
  replace Px := hid (Px.out.away3 (b' := w19.heap.size) (by omega) (.int .i64 (0 : Int)) (.int .i64 (0 : Int)) (.slice none (0) 0))
  replace Pu := hid (Pu.out.put3 (.int .i64 (0 : Int)) (.int .i64 (0 : Int)) (.slice none (0) 0))
  replace G := hid (below_put3 G.out (b := w19.heap.size) (by omega) (.int .i64 (0 : Int)) (.int .i64 (0 : Int)) (.slice none (0) 0))
  rw [hV] at G Ma Mb Mu Pa Pb Pu Px
  have lz33 : V33.heap.size = w31.heap.size := by rw [← hV]; simp
  rw [hV] at Qg Qh
  have EV : Hid (((w31.setCell ⟨w19.heap.size, 0, none⟩ (.int .i64 (0 : Int))).setCell ⟨w19.heap.size, 1, none⟩ (.int .i64 (0 : Int))).setCell ⟨w19.heap.size, 2, none⟩ (.slice none (0) 0) = V33) := hV
  clear hV
  go_wp2_with fail
  rw [EV.out]
  clear EV du0 fu0 du1 fu1 du2 fu2
  refine (dense_nil (w := V33)).mono ?_
  rintro e w34 ⟨rfl, b⟩
  replace Qg := hid (Qg.out.now b)
  replace Qh := hid (Qh.out.now b)
  replace Ma := hid (Ma.out.now b)
  replace Mb := hid (Mb.out.now b)
  replace Mu := hid (Mu.out.now b)
  replace Pa := hid (Pa.out.step b)
  replace Pb := hid (Pb.out.step b)
  replace Pu := hid (Pu.out.step b)
  replace Px := hid (Px.out.step b)
  replace G := hid (below_step G.out b)
  have lz35 := (show Below _ _ _ from b).size
  clear b
  have Mx := hid (mc_zero w34 0)
  have dx0 := Px.out.at (i := 0) rfl
  have fx0 := Px.out.fz 0
  have dx1 := Px.out.at (i := 1) rfl
  have fx1 := Px.out.fz 1
  have dx2 := Px.out.at (i := 2) rfl
  have fx2 := Px.out.fz 2
  replace Qg := hid (Qg.out.off3 Px.out (.int .i64 (0 : Int)) (.int .i64 (0 : Int)) (.slice none (0) 0))
  replace Qh := hid (Qh.out.off3 Px.out (.int .i64 (0 : Int)) (.int .i64 (0 : Int)) (.slice none (0) 0))
  obtain ⟨V36, hV⟩ : ∃ V36, put3 w34 (w23.heap.size) (.int .i64 (0 : Int)) (.int .i64 (0 : Int)) (.slice none (0) 0) = V36 := ⟨_, rfl⟩
  replace Ma := hid (Ma.out.wk Px.out (.int .i64 (0 : Int)) (.int .i64 (0 : Int)) (.slice none (0) 0))
  replace Mb := hid (Mb.out.wk Px.out (.int .i64 (0 : Int)) (.int .i64 (0 : Int)) (.slice none (0) 0))
  replace Mu := hid (Mu.out.wk Px.out (.int .i64 (0 : Int)) (.int .i64 (0 : Int)) (.slice none (0) 0))
  replace Mx := hid (Mx.out.wk Px.out (.int .i64 (0 : Int)) (.int .i64 (0 : Int)) (.slice none (0) 0))
  replace Pa := hid (Pa.out.away3 (b' := w23.heap.size) (by omega) (.int .i64 (0 : Int)) (.int .i64 (0 : Int)) (.slice none (0) 0))
  replace Pb := hid (Pb.out.away3 (b' := w23.heap.size) (by omega) (.int .i64 (0 : Int)) (.int .i64 (0 : Int)) (.slice none (0) 0))
  replace Pu := hid (Pu.out.away3 (b' := w23.heap.size) (by omega) (.int .i64 (0 : Int)) (.int .i64 (0 : Int)) (.slice none (0) 0))
  replace Px := hid (Px.out.put3 (.int .i64 (0 : Int)) (.int .i64 (0 : Int)) (.slice none (0) 0))
  replace G := hid (below_put3 G.out (b := w23.heap.size) (by omega) (.int .i64 (0 : Int)) (.int .i64 (0 : Int)) (.slice none (0) 0))
  rw [hV] at G Ma Mb Mu Mx Pa Pb Pu Px
  have lz36 : V36.heap.size = w34.heap.size := by rw [← hV]; simp
  rw [hV] at Qg Qh
  have cx0 := Px.out.at (i := 0) rfl
  have cx1 := Px.out.at (i := 1) rfl
  have cx2 := Px.out.at (i := 2) rfl
  have cu0 := Pu.out.at (i := 0) rfl
  have cu1 := Pu.out.at (i := 1) rfl
  have cu2 := Pu.out.at (i := 2) rfl
  rw [← hV] at cx0 cx1 cx2 cu0 cu1 cu2
  have EV : Hid (((w34.setCell ⟨w23.heap.size, 0, none⟩ (.int .i64 (0 : Int))).setCell ⟨w23.heap.size, 1, none⟩ (.int .i64 (0 : Int))).setCell ⟨w23.heap.size, 2, none⟩ (.slice none (0) 0) = V36) := hV
  clear hV
  go_wp2_with fail
  rw [EV.out]
  clear EV dx0 fx0 dx1 fx1 dx2 fx2 cx0 cx1 cx2 cu0 cu1 cu2
  refine (mats10_yes Mx.out Mu.out rfl).mono ?_
  rintro e w37 ⟨rfl, b⟩
  replace Qg := hid (Qg.out.now b)
  replace Qh := hid (Qh.out.now b)
  replace Ma := hid (Ma.out.now b)
  replace Mb := hid (Mb.out.now b)
  replace Mu := hid (Mu.out.now b)
  replace Mx := hid (Mx.out.now b)
  replace Pa := hid (Pa.out.step b)
  replace Pb := hid (Pb.out.step b)
  replace Pu := hid (Pu.out.step b)
  replace Px := hid (Px.out.step b)
  replace G := hid (below_step G.out b)
  have lz38 := (show Below _ _ _ from b).size
  clear b
  clear Mx
  clear Mu
  go_wp2_with fail
  refine (turn_any Qg.out).mono ?_
  rintro e w39 ⟨gp, bp, rfl, hq, hgg, hbb, b⟩
  replace Qg := hid (Qg.out.now b)
  replace Qh := hid (Qh.out.now b)
  replace Ma := hid (Ma.out.now b)
  replace Mb := hid (Mb.out.now b)
  replace Pa := hid (Pa.out.step b)
  replace Pb := hid (Pb.out.step b)
  replace Pu := hid (Pu.out.step b)
  replace Px := hid (Px.out.step b)
  replace G := hid (below_step G.out b)
  have lz40 := (show Below _ _ _ from b).size
  have Qp := hid hq
  clear hq hgg hbb b
  have ca0 := Pa.out.at (i := 0) rfl
  have ca1 := Pa.out.at (i := 1) rfl
  have ca2 := Pa.out.at (i := 2) rfl
  go_wp2_with fail
  clear ca0 ca1 ca2
  refine (turn_yes Ma.out).mono ?_
  rintro e w41 ⟨v, rfl, hm, b⟩
  obtain ⟨au, qu, rfl, -, -⟩ := hm.mx.form
  replace Qg := hid (Qg.out.now b)
  replace Qh := hid (Qh.out.now b)
  replace Qp := hid (Qp.out.now b)
  replace Ma := hid (Ma.out.now b)
  replace Mb := hid (Mb.out.now b)
  replace Pa := hid (Pa.out.step b)
  replace Pb := hid (Pb.out.step b)
  replace Pu := hid (Pu.out.step b)
  replace Px := hid (Px.out.step b)
  replace G := hid (below_step G.out b)
  have lz42 := (show Below _ _ _ from b).size
  obtain ⟨zu, hz⟩ : ∃ zu, turnL9 r m xs = zu := ⟨_, rfl⟩
  rw [hz] at hm
  have Eu := hid hz
  have Mu := hid hm
  clear hm hz b
  have du0 := Pu.out.at (i := 0) rfl
  have fu0 := Pu.out.fz 0
  have du1 := Pu.out.at (i := 1) rfl
  have fu1 := Pu.out.fz 1
  have du2 := Pu.out.at (i := 2) rfl
  have fu2 := Pu.out.fz 2
  replace Qg := hid (Qg.out.off3 Pu.out (.int .i64 (m : Int)) (.int .i64 (r : Int)) (.slice au (m * r) qu))
  replace Qh := hid (Qh.out.off3 Pu.out (.int .i64 (m : Int)) (.int .i64 (r : Int)) (.slice au (m * r) qu))
  replace Qp := hid (Qp.out.off3 Pu.out (.int .i64 (m : Int)) (.int .i64 (r : Int)) (.slice au (m * r) qu))
  obtain ⟨V43, hV⟩ : ∃ V43, put3 w41 (w19.heap.size) (.int .i64 (m : Int)) (.int .i64 (r : Int)) (.slice au (m * r) qu) = V43 := ⟨_, rfl⟩
  replace Ma := hid (Ma.out.wk Pu.out (.int .i64 (m : Int)) (.int .i64 (r : Int)) (.slice au (m * r) qu))
  replace Mb := hid (Mb.out.wk Pu.out (.int .i64 (m : Int)) (.int .i64 (r : Int)) (.slice au (m * r) qu))
  replace Mu := hid (Mu.out.wk Pu.out (.int .i64 (m : Int)) (.int .i64 (r : Int)) (.slice au (m * r) qu))
  replace Pa := hid (Pa.out.away3 (b' := w19.heap.size) (by omega) (.int .i64 (m : Int)) (.int .i64 (r : Int)) (.slice au (m * r) qu))
  replace Pb := hid (Pb.out.away3 (b' := w19.heap.size) (by omega) (.int .i64 (m : Int)) (.int .i64 (r : Int)) (.slice au (m * r) qu))
  replace Px := hid (Px.out.away3 (b' := w19.heap.size) (by omega) (.int .i64 (m : Int)) (.int .i64 (r : Int)) (.slice au (m * r) qu))
  replace Pu := hid (Pu.out.put3 (.int .i64 (m : Int)) (.int .i64 (r : Int)) (.slice au (m * r) qu))
  replace G := hid (below_put3 G.out (b := w19.heap.size) (by omega) (.int .i64 (m : Int)) (.int .i64 (r : Int)) (.slice au (m * r) qu))
  rw [hV] at G Ma Mb Mu Pa Pb Pu Px
  have lz43 : V43.heap.size = w41.heap.size := by rw [← hV]; simp
  rw [hV] at Qg Qh Qp
  have EV : Hid (((w41.setCell ⟨w19.heap.size, 0, none⟩ (.int .i64 (m : Int))).setCell ⟨w19.heap.size, 1, none⟩ (.int .i64 (r : Int))).setCell ⟨w19.heap.size, 2, none⟩ (.slice au (m * r) qu) = V43) := hV
  clear hV
  go_wp2_with fail
  rw [EV.out]
  clear EV du0 fu0 du1 fu1 du2 fu2
  refine (dense_any Qp.out (by omega) (by omega)).mono ?_
  rintro e w44 ⟨v, rfl, hm, b⟩
  obtain ⟨ax, qx, rfl, -, -⟩ := hm.mx.form
  replace Qg := hid (Qg.out.now b)
  replace Qh := hid (Qh.out.now b)
  replace Qp := hid (Qp.out.now b)
  replace Ma := hid (Ma.out.now b)
  replace Mb := hid (Mb.out.now b)
  replace Mu := hid (Mu.out.now b)
  replace Pa := hid (Pa.out.step b)
  replace Pb := hid (Pb.out.step b)
  replace Pu := hid (Pu.out.step b)
  replace Px := hid (Px.out.step b)
  replace G := hid (below_step G.out b)
  have lz45 := (show Below _ _ _ from b).size
  obtain ⟨zx, hz⟩ : ∃ zx, dnL m r (fun i j => ofF m xs (r * m) j i) = zx := ⟨_, rfl⟩
  rw [hz] at hm
  have Ex := hid hz
  have Mx := hid hm
  clear hm hz b
  have dx0 := Px.out.at (i := 0) rfl
  have fx0 := Px.out.fz 0
  have dx1 := Px.out.at (i := 1) rfl
  have fx1 := Px.out.fz 1
  have dx2 := Px.out.at (i := 2) rfl
  have fx2 := Px.out.fz 2
  replace Qg := hid (Qg.out.off3 Px.out (.int .i64 (m : Int)) (.int .i64 (r : Int)) (.slice ax (m * r) qx))
  replace Qh := hid (Qh.out.off3 Px.out (.int .i64 (m : Int)) (.int .i64 (r : Int)) (.slice ax (m * r) qx))
  replace Qp := hid (Qp.out.off3 Px.out (.int .i64 (m : Int)) (.int .i64 (r : Int)) (.slice ax (m * r) qx))
  obtain ⟨V46, hV⟩ : ∃ V46, put3 w44 (w23.heap.size) (.int .i64 (m : Int)) (.int .i64 (r : Int)) (.slice ax (m * r) qx) = V46 := ⟨_, rfl⟩
  replace Ma := hid (Ma.out.wk Px.out (.int .i64 (m : Int)) (.int .i64 (r : Int)) (.slice ax (m * r) qx))
  replace Mb := hid (Mb.out.wk Px.out (.int .i64 (m : Int)) (.int .i64 (r : Int)) (.slice ax (m * r) qx))
  replace Mu := hid (Mu.out.wk Px.out (.int .i64 (m : Int)) (.int .i64 (r : Int)) (.slice ax (m * r) qx))
  replace Mx := hid (Mx.out.wk Px.out (.int .i64 (m : Int)) (.int .i64 (r : Int)) (.slice ax (m * r) qx))
  replace Pa := hid (Pa.out.away3 (b' := w23.heap.size) (by omega) (.int .i64 (m : Int)) (.int .i64 (r : Int)) (.slice ax (m * r) qx))
  replace Pb := hid (Pb.out.away3 (b' := w23.heap.size) (by omega) (.int .i64 (m : Int)) (.int .i64 (r : Int)) (.slice ax (m * r) qx))
  replace Pu := hid (Pu.out.away3 (b' := w23.heap.size) (by omega) (.int .i64 (m : Int)) (.int .i64 (r : Int)) (.slice ax (m * r) qx))
  replace Px := hid (Px.out.put3 (.int .i64 (m : Int)) (.int .i64 (r : Int)) (.slice ax (m * r) qx))
  replace G := hid (below_put3 G.out (b := w23.heap.size) (by omega) (.int .i64 (m : Int)) (.int .i64 (r : Int)) (.slice ax (m * r) qx))
  rw [hV] at G Ma Mb Mu Mx Pa Pb Pu Px
  have lz46 : V46.heap.size = w44.heap.size := by rw [← hV]; simp
  rw [hV] at Qg Qh Qp
  have cx0 := Px.out.at (i := 0) rfl
  have cx1 := Px.out.at (i := 1) rfl
  have cx2 := Px.out.at (i := 2) rfl
  have cu0 := Pu.out.at (i := 0) rfl
  have cu1 := Pu.out.at (i := 1) rfl
  have cu2 := Pu.out.at (i := 2) rfl
  rw [← hV] at cx0 cx1 cx2 cu0 cu1 cu2
  have EV : Hid (((w44.setCell ⟨w23.heap.size, 0, none⟩ (.int .i64 (m : Int))).setCell ⟨w23.heap.size, 1, none⟩ (.int .i64 (r : Int))).setCell ⟨w23.heap.size, 2, none⟩ (.slice ax (m * r) qx) = V46) := hV
  clear hV
  go_wp2_with fail
  rw [EV.out]
  clear EV dx0 fx0 dx1 fx1 dx2 fx2 cx0 cx1 cx2 cu0 cu1 cu2
  refine (mats10_yes Mx.out Mu.out (by rw [← Ex.out, ← Eu.out]; exact dn_turn)).mono ?_
  rintro e w47 ⟨rfl, b⟩
  replace Qg := hid (Qg.out.now b)
  replace Qh := hid (Qh.out.now b)
  replace Qp := hid (Qp.out.now b)
  replace Ma := hid (Ma.out.now b)
  replace Mb := hid (Mb.out.now b)
  replace Mu := hid (Mu.out.now b)
  replace Mx := hid (Mx.out.now b)
  replace Pa := hid (Pa.out.step b)
  replace Pb := hid (Pb.out.step b)
  replace Pu := hid (Pu.out.step b)
  replace Px := hid (Px.out.step b)
  replace G := hid (below_step G.out b)
  have lz48 := (show Below _ _ _ from b).size
  clear b
  clear Mx
  clear Mu
  clear Ex Eu
  go_wp2
  go_ret
  exact ⟨rfl, G.out⟩
theorem sparseRing_any {w : World} {va vb : Value} {ra ca rb cb : Int} {la lb : Nat} {xs ys : List Int} (ha : Raw w va ra ca la xs) (hb : Raw w vb rb cb lb ys) :
    Calls Try.prog 4 #[va, vb] w fun e w' => e = .returned (.bool true) ∧ Below w.heap.size w w' := by
  have RA := ha
  have RB := hb
  obtain ⟨aa, qa, -, ea, -, -, -, hla⟩ := ha
  obtain ⟨ab, qb, -, eb, -, -, -, hlb⟩ := hb
  have good : ∀ {v : Value} {r c : Int} {l : Nat} {zs : List Int}, Raw w v r c l zs → Snd r c l → ∃ r' c' : Nat, Mx w v r' c' zs 1048576 := fun {v r c l zs} h hs => by
    obtain ⟨r', hr⟩ := Int.eq_ofNat_of_zero_le hs.1
    obtain ⟨c', hc⟩ := Int.eq_ofNat_of_zero_le hs.2.2.1
    subst hr hc
    exact ⟨r', c', h.mx hs⟩
  by_cases SA : Snd ra ca la
  · obtain ⟨r, m, MA⟩ := good RA SA
    by_cases SB : Snd rb cb lb
    · obtain ⟨m', c, MB⟩ := good RB SB
      by_cases e1 : m = m'
      · subst e1
        by_cases e2 : r = m
        · subst e2
          by_cases e3 : r = c
          · subst e3
            exact ring_ma MA MB
          · exact ring_moc MA MB e3
        · exact ring_mor MA MB e2
      · by_cases e2 : r = m'
        · subst e2
          by_cases e3 : m = c
          · subst e3
            exact ring_ka MA MB e1
          · exact ring_koc MA MB e1 e3
        · exact ring_kor MA MB e1 e2
    · subst eb
      exact ring_yn MA SB
  · subst ea
    by_cases SB : Snd rb cb lb
    · obtain ⟨m', c, MB⟩ := good RB SB
      exact ring_ny SA MB
    · subst eb
      exact ring_nn SA SB
end Go.Proofs.Ytachdicdfhfoaaa
