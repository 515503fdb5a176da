/-
  Ring9: the walk of MatRing.
-/
import Derived.Test.YtojhmkkjjalonaaQPure9
import Derived.Test.YtojhmkkjjalonaaQOpenM9
namespace Go.Proofs.Ytojhmkkjjalonaa
open Go.RowKit
set_option linter.unusedVariables false

theorem Cel.away3 {w : World} {b b' : Nat} {T : TypeId} {L : List Value} (h : Cel w b T L) (hne : b' ≠ b) (y0 y1 y2 : Value) : Cel (Go.Proofs.Ytojhmkkjjalonaa.put3 w b' y0 y1 y2) b T L := ((h.ne hne).ne hne).ne hne
theorem Mx.wk {w : World} {v : Value} {r c : Nat} {zs : List Int} {k b : Nat} (h : Mx w v r c zs k) {x0 x1 : Int} {a : Option Addr} {l n : Nat} (d : Cel w b 24 [.int .i64 x0, .int .i64 x1, .slice a l n]) (y0 y1 y2 : Value) : Mx (put3 w b y0 y1 y2) v r c zs k := by
  obtain ⟨at_, ps, h1, h2, h3, h4⟩ := h
  refine ⟨at_, ps, h1, ?_, h3.wk (d.wk3 _ _ _), h4⟩
  obtain ⟨a', c', e1, e2, e3, e4, e5⟩ := h2
  refine ⟨a', c', e1, e2, e3, e4, ?_⟩
  rcases e5 with e5 | ⟨b', off, e6, e7, e8, e9⟩
  · exact .inl e5
  · refine .inr ⟨b', off, e6, e7, by simpa using e8, fun j p hp => ?_⟩
    have hne : b ≠ b' := by
      intro e
      subst e
      obtain ⟨n1, a1, l1, c1, q⟩ := h3.isI p (List.mem_of_getElem? hp)
      have q1 := (e9 j p hp).1
      rw [show p.1 = .bool n1 by rw [q]] at q1
      have q2 : w.heap[b]? = some (.cells #[.int .i64 x0, .int .i64 x1, .slice a l n] 24 (0, 0)) := d
      simp only [World.cell?, q2] at q1
      simp at q1
      generalize off + j * 2 = o at q1
      match o, q1 with
      | 0, q1 => simp at q1
      | 1, q1 => simp at q1
      | 2, q1 => simp at q1
      | o + 3, q1 => simp at q1
    have e : ∀ o, (put3 w b y0 y1 y2).cell? ⟨b', o, none⟩ = w.cell? ⟨b', o, none⟩ := fun o => by
      rw [World.cell?_setCell_other _ _ _ _ (by simp <;> omega), World.cell?_setCell_other _ _ _ _ (by simp <;> omega), World.cell?_setCell_other _ _ _ _ (by simp <;> omega)]
    rw [e, e]
    exact e9 j p hp
theorem boxes3 {w W0 : World} {o1 o2 o3 : List Value} (hW : ((w.alloc (.cells o1.toArray 24)).alloc (.cells o2.toArray 24)).alloc (.cells o3.toArray 24) = W0) :
    Cel W0 w.heap.size 24 o1 ∧ Cel W0 (w.heap.size + 1) 24 o2 ∧ Cel W0 (w.heap.size + 1 + 1) 24 o3 := by
  refine ⟨?_, ?_, ?_⟩
  · rw [← hW]
    exact (((Cel.new w 24 o1).step ((Below.refl _ _).alloc (Nat.le_refl _) _)).step ((Below.refl _ _).alloc (Nat.le_refl _) _))
  · rw [← hW]
    have := ((Cel.new (w.alloc (.cells o1.toArray 24)) 24 o2).step ((Below.refl _ _).alloc (Nat.le_refl _) (.cells o3.toArray 24)))
    simpa using this
  · rw [← hW]
    have := Cel.new ((w.alloc (.cells o1.toArray 24)).alloc (.cells o2.toArray 24)) 24 o3
    simpa using this
abbrev rawO (r c : Int) (at_ : Value) : Obj := .cells #[.int .i64 r, .int .i64 c, at_] 24
set_option maxHeartbeats 6400000 in
set_option maxRecDepth 100000 in
theorem matRing_any {w : World} {va vb vc : Value} {ra ca rb cb rc cc : Int} {la lb lc : Nat} {xs ys zs : List Int} (ha : Raw w va ra ca la xs) (hb : Raw w vb rb cb lb ys) (hc : Raw w vc rc cc lc zs) :
    Calls Try.prog 3 #[va, vb, vc] w fun e w' => e = .returned (.bool true) ∧ Below w.heap.size w w' := by
  have RA := hid ha
  have RB := hid hb
  have RC := hid hc
  obtain ⟨aa, qa, -, rfl, -, -, -, hla⟩ := ha
  obtain ⟨ab, qb, -, rfl, -, -, -, hlb⟩ := hb
  obtain ⟨ac, qc, -, rfl, -, -, -, hlc⟩ := hc
  obtain ⟨W0, hV⟩ : ∃ W0, ((w.alloc (rawO ra ca (.slice aa la qa))).alloc (rawO rb cb (.slice ab lb qb))).alloc (rawO rc cc (.slice ac lc qc)) = W0 := ⟨_, rfl⟩
  obtain ⟨b0, sz0⟩ := alloc3 w (rawO ra ca (.slice aa la qa)) (rawO rb cb (.slice ab lb qb)) (rawO rc cc (.slice ac lc qc))
  rw [hV] at b0 sz0
  obtain ⟨pa, pb, pc⟩ := boxes3 (o1 := [.int .i64 ra, .int .i64 ca, .slice aa la qa]) (o2 := [.int .i64 rb, .int .i64 cb, .slice ab lb qb]) (o3 := [.int .i64 rc, .int .i64 cc, .slice ac lc qc]) hV
  have Pa := hid pa
  have Pb := hid pb
  have Pc := hid pc
  replace RA := hid (RA.out.now b0)
  replace RB := hid (RB.out.now b0)
  replace RC := hid (RC.out.now b0)
  have G := hid b0
  have EV := hid hV
  clear b0 pa pb pc hV
  go_enter Try.func3, Try.ntmps3
  go_wp2_with fail
  rw [EV.out]
  clear EV
  refine (wakes9 W0).mono ?_
  rintro e w11 ⟨rfl, b⟩
  replace Pa := hid (Pa.out.step b)
  replace Pb := hid (Pb.out.step b)
  replace Pc := hid (Pc.out.step b)
  replace RA := hid (RA.out.now b)
  replace RB := hid (RB.out.now b)
  replace RC := hid (RC.out.now b)
  replace G := hid (below_step G.out b)
  have lz12 := (show Below _ _ _ from b).size
  clear b
  have ca0 := Pa.out.at (i := 0) rfl
  have ca1 := Pa.out.at (i := 1) rfl
  have ca2 := Pa.out.at (i := 2) rfl
  go_wp2_with fail
  clear ca0 ca1 ca2
  refine (sound9 (w := w11) hla).mono ?_
  rintro e w13 ⟨bb, rfl, hbb, b⟩
  replace Pa := hid (Pa.out.step b)
  replace Pb := hid (Pb.out.step b)
  replace Pc := hid (Pc.out.step b)
  replace RA := hid (RA.out.now b)
  replace RB := hid (RB.out.now b)
  replace RC := hid (RC.out.now b)
  replace G := hid (below_step G.out b)
  have lz14 := (show Below _ _ _ from b).size
  clear b
  cases bb
  case false =>
    clear hbb
    go_wp2
    go_ret
    exact ⟨rfl, G.out⟩
  have SA := hid (hbb.1 rfl)
  clear hbb
  have cb0 := Pb.out.at (i := 0) rfl
  have cb1 := Pb.out.at (i := 1) rfl
  have cb2 := Pb.out.at (i := 2) rfl
  go_wp2_with fail
  clear cb0 cb1 cb2
  refine (sound9 (w := w13) hlb).mono ?_
  rintro e w15 ⟨bb, rfl, hbb, b⟩
  replace Pa := hid (Pa.out.step b)
  replace Pb := hid (Pb.out.step b)
  replace Pc := hid (Pc.out.step b)
  replace RA := hid (RA.out.now b)
  replace RB := hid (RB.out.now b)
  replace RC := hid (RC.out.now b)
  replace G := hid (below_step G.out b)
  have lz16 := (show Below _ _ _ from b).size
  clear b
  cases bb
  case false =>
    clear hbb
    go_wp2
    go_ret
    exact ⟨rfl, G.out⟩
  have SB := hid (hbb.1 rfl)
  clear hbb
  have cc0 := Pc.out.at (i := 0) rfl
  have cc1 := Pc.out.at (i := 1) rfl
  have cc2 := Pc.out.at (i := 2) rfl
  go_wp2_with fail
  clear cc0 cc1 cc2
  refine (sound9 (w := w15) hlc).mono ?_
  rintro e w17 ⟨bb, rfl, hbb, b⟩
  replace Pa := hid (Pa.out.step b)
  replace Pb := hid (Pb.out.step b)
  replace Pc := hid (Pc.out.step b)
  replace RA := hid (RA.out.now b)
  replace RB := hid (RB.out.now b)
  replace RC := hid (RC.out.now b)
  replace G := hid (below_step G.out b)
  have lz18 := (show Below _ _ _ from b).size
  clear b
  cases bb
  case false =>
    clear hbb
    go_wp2
    go_ret
    exact ⟨rfl, G.out⟩
  have SC := hid (hbb.1 rfl)
  clear hbb
  obtain ⟨r, hr⟩ := Int.eq_ofNat_of_zero_le SA.out.1
  obtain ⟨m, hm⟩ := Int.eq_ofNat_of_zero_le SA.out.2.2.1
  obtain ⟨m2, hm2⟩ := Int.eq_ofNat_of_zero_le SB.out.1
  obtain ⟨c, hc⟩ := Int.eq_ofNat_of_zero_le SB.out.2.2.1
  obtain ⟨c2, hc2⟩ := Int.eq_ofNat_of_zero_le SC.out.1
  obtain ⟨d, hd⟩ := Int.eq_ofNat_of_zero_le SC.out.2.2.1
  subst hr hm hm2 hc hc2 hd
  have r64 : r ≤ 64 := by have := SA.out.2.1; omega
  have m64 : m ≤ 64 := by have := SA.out.2.2.2.1; omega
  have m264 : m2 ≤ 64 := by have := SB.out.2.1; omega
  have c64 : c ≤ 64 := by have := SB.out.2.2.2.1; omega
  have c264 : c2 ≤ 64 := by have := SC.out.2.1; omega
  have d64 : d ≤ 64 := by have := SC.out.2.2.2.1; omega
  obtain rfl : la = r * m := Int.ofNat.inj (by simpa using SA.out.2.2.2.2)
  obtain rfl : lb = m2 * c := Int.ofNat.inj (by simpa using SB.out.2.2.2.2)
  obtain rfl : lc = c2 * d := Int.ofNat.inj (by simpa using SC.out.2.2.2.2)
  have Ma := hid (RA.out.mx SA.out)
  have Mb := hid (RB.out.mx SB.out)
  have Mc_ := hid (RC.out.mx SC.out)
  clear RA RB RC SA SB SC
  have Mc := Mc_
  clear Mc_
  have ca0 := Pa.out.at (i := 0) rfl
  have ca1 := Pa.out.at (i := 1) rfl
  have ca2 := Pa.out.at (i := 2) rfl
  have cb0 := Pb.out.at (i := 0) rfl
  have cb1 := Pb.out.at (i := 1) rfl
  have cb2 := Pb.out.at (i := 2) rfl
  go_wp2_with fail
  clear ca0 ca1 ca2 cb0 cb1 cb2
  by_cases hm2 : m = m2
  case neg =>
    have q0 : ((m : Int) != (m2 : Int)) = true := by simp; omega
    refine (mul_no Ma.out Mb.out hm2).mono ?_
    rintro e w19 ⟨rfl, b⟩
    replace Ma := hid (Ma.out.now b)
    replace Mb := hid (Mb.out.now b)
    replace Mc := hid (Mc.out.now b)
    replace Pa := hid (Pa.out.step b)
    replace Pb := hid (Pb.out.step b)
    replace Pc := hid (Pc.out.step b)
    replace G := hid (below_step G.out b)
    have lz20 := (show Below _ _ _ from b).size
    clear b hm2
    obtain ⟨V21, hV⟩ : ∃ V21, w19.alloc mbox = V21 := ⟨_, rfl⟩
    obtain ⟨b, sz21⟩ := alo1 w19 mbox
    rw [hV] at b sz21
    replace Ma := hid (Ma.out.now b)
    replace Mb := hid (Mb.out.now b)
    replace Mc := hid (Mc.out.now b)
    replace Pa := hid (Pa.out.step b)
    replace Pb := hid (Pb.out.step b)
    replace Pc := hid (Pc.out.step b)
    replace G := hid (below_step G.out b)
    have lz22 := (show Below _ _ _ from b).size
    have Pp : Hid (Cel V21 w19.heap.size 24 ([.int .i64 0, .int .i64 0, .slice none 0 0])) := by unfold Hid; rw [← hV]; exact Cel.new w19 _ _
    clear b
    have ca0 := Pa.out.at (i := 0) rfl
    have ca1 := Pa.out.at (i := 1) rfl
    have ca2 := Pa.out.at (i := 2) rfl
    have cb0 := Pb.out.at (i := 0) rfl
    have cb1 := Pb.out.at (i := 1) rfl
    have cb2 := Pb.out.at (i := 2) rfl
    have cp0 := Pp.out.at (i := 0) rfl
    have cp1 := Pp.out.at (i := 1) rfl
    have cp2 := Pp.out.at (i := 2) rfl
    rw [← hV] at ca0 ca1 ca2 cb0 cb1 cb2 cp0 cp1 cp2
    have EV := hid hV
    clear hV
    go_wp2_with fail
    rw [EV.out]
    clear EV
    clear ca0 ca1 ca2 cb0 cb1 cb2 cp0 cp1 cp2
    refine (none9_yes (w := V21)).mono ?_
    rintro e w23 ⟨rfl, b⟩
    replace Ma := hid (Ma.out.now b)
    replace Mb := hid (Mb.out.now b)
    replace Mc := hid (Mc.out.now b)
    replace Pa := hid (Pa.out.step b)
    replace Pb := hid (Pb.out.step b)
    replace Pc := hid (Pc.out.step b)
    replace Pp := hid (Pp.out.step b)
    replace G := hid (below_step G.out b)
    have lz24 := (show Below _ _ _ from b).size
    clear b
    go_wp2
    go_ret
    exact ⟨rfl, G.out⟩
  subst hm2
  have qm : ((m : Int) != (m : Int)) = false := by simp
  have qr : ((r : Int) != (r : Int)) = false := by simp
  have qc_ : ((c : Int) != (c : Int)) = false := by simp
  refine (mul_yes Ma.out Mb.out (by omega)).mono ?_
  rintro e w25 ⟨v, rfl, hm, b⟩
  obtain ⟨ap, qp, rfl, -, -⟩ := hm.mx.form
  replace Ma := hid (Ma.out.now b)
  replace Mb := hid (Mb.out.now b)
  replace Mc := hid (Mc.out.now b)
  replace Pa := hid (Pa.out.step b)
  replace Pb := hid (Pb.out.step b)
  replace Pc := hid (Pc.out.step b)
  replace G := hid (below_step G.out b)
  have lz26 := (show Below _ _ _ from b).size
  obtain ⟨zp, hz⟩ : ∃ zp, prodL r m c xs ys = zp := ⟨_, rfl⟩
  rw [hz] at hm
  have Ep := hid hz
  have Mp := hid hm
  clear hm hz b
  obtain ⟨V27, hV⟩ : ∃ V27, w25.alloc (matO r c (.slice ap (r * c) qp)) = V27 := ⟨_, rfl⟩
  obtain ⟨b, sz27⟩ := alo1 w25 (matO r c (.slice ap (r * c) qp))
  rw [hV] at b sz27
  replace Ma := hid (Ma.out.now b)
  replace Mb := hid (Mb.out.now b)
  replace Mc := hid (Mc.out.now b)
  replace Mp := hid (Mp.out.now b)
  replace Pa := hid (Pa.out.step b)
  replace Pb := hid (Pb.out.step b)
  replace Pc := hid (Pc.out.step b)
  replace G := hid (below_step G.out b)
  have lz28 := (show Below _ _ _ from b).size
  have Pp : Hid (Cel V27 w25.heap.size 24 (matc r c (.slice ap (r * c) qp))) := by unfold Hid; rw [← hV]; exact Cel.new w25 _ _
  clear b
  have ca0 := Pa.out.at (i := 0) rfl
  have ca1 := Pa.out.at (i := 1) rfl
  have ca2 := Pa.out.at (i := 2) rfl
  have cb0 := Pb.out.at (i := 0) rfl
  have cb1 := Pb.out.at (i := 1) rfl
  have cb2 := Pb.out.at (i := 2) rfl
  rw [← hV] at ca0 ca1 ca2 cb0 cb1 cb2
  have EV := hid hV
  clear hV
  go_wp2_with fail
  rw [EV.out]
  clear EV
  clear ca0 ca1 ca2 cb0 cb1 cb2
  refine (unit_any (w := V27) r64).mono ?_
  rintro e w29 ⟨v, rfl, hm, b⟩
  obtain ⟨au, qu, rfl, -, -⟩ := hm.mx.form
  replace Ma := hid (Ma.out.now b)
  replace Mb := hid (Mb.out.now b)
  replace Mc := hid (Mc.out.now b)
  replace Mp := hid (Mp.out.now b)
  replace Pa := hid (Pa.out.step b)
  replace Pb := hid (Pb.out.step b)
  replace Pc := hid (Pc.out.step b)
  replace Pp := hid (Pp.out.step b)
  replace G := hid (below_step G.out b)
  have lz30 := (show Below _ _ _ from b).size
  obtain ⟨zu, hz⟩ : ∃ zu, unitL r r = zu := ⟨_, rfl⟩
  rw [hz] at hm
  have Eu := hid hz
  have Mu := hid hm
  clear hm hz b
  obtain ⟨V31, hV⟩ : ∃ V31, w29.alloc (matO r r (.slice au (r * r) qu)) = V31 := ⟨_, rfl⟩
  obtain ⟨b, sz31⟩ := alo1 w29 (matO r r (.slice au (r * r) qu))
  rw [hV] at b sz31
  replace Ma := hid (Ma.out.now b)
  replace Mb := hid (Mb.out.now b)
  replace Mc := hid (Mc.out.now b)
  replace Mp := hid (Mp.out.now b)
  replace Mu := hid (Mu.out.now b)
  replace Pa := hid (Pa.out.step b)
  replace Pb := hid (Pb.out.step b)
  replace Pc := hid (Pc.out.step b)
  replace Pp := hid (Pp.out.step b)
  replace G := hid (below_step G.out b)
  have lz32 := (show Below _ _ _ from b).size
  have Pu : Hid (Cel V31 w29.heap.size 24 (matc r r (.slice au (r * r) qu))) := by unfold Hid; rw [← hV]; exact Cel.new w29 _ _
  clear b
  have cu0 := Pu.out.at (i := 0) rfl
  have cu1 := Pu.out.at (i := 1) rfl
  have cu2 := Pu.out.at (i := 2) rfl
  have cp0 := Pp.out.at (i := 0) rfl
  have cp1 := Pp.out.at (i := 1) rfl
  have cp2 := Pp.out.at (i := 2) rfl
  rw [← hV] at cu0 cu1 cu2 cp0 cp1 cp2
  have EV := hid hV
  clear hV
  go_wp2_with fail
  rw [EV.out]
  clear EV
  clear cu0 cu1 cu2 cp0 cp1 cp2
  refine (mul_yes Mu.out.mx Mp.out.mx (by omega)).mono ?_
  rintro e w33 ⟨v, rfl, hm, b⟩
  obtain ⟨aq, qq, rfl, -, -⟩ := hm.mx.form
  replace Ma := hid (Ma.out.now b)
  replace Mb := hid (Mb.out.now b)
  replace Mc := hid (Mc.out.now b)
  replace Mp := hid (Mp.out.now b)
  replace Mu := hid (Mu.out.now b)
  replace Pa := hid (Pa.out.step b)
  replace Pb := hid (Pb.out.step b)
  replace Pc := hid (Pc.out.step b)
  replace Pp := hid (Pp.out.step b)
  replace Pu := hid (Pu.out.step b)
  replace G := hid (below_step G.out b)
  have lz34 := (show Below _ _ _ from b).size
  obtain ⟨zq, hz⟩ : ∃ zq, prodL r r c zu zp = zq := ⟨_, rfl⟩
  rw [hz] at hm
  have Eq := hid hz
  have Mq := hid hm
  clear hm hz b
  obtain ⟨V35, hV⟩ : ∃ V35, w33.alloc (matO r c (.slice aq (r * c) qq)) = V35 := ⟨_, rfl⟩
  obtain ⟨b, sz35⟩ := alo1 w33 (matO r c (.slice aq (r * c) qq))
  rw [hV] at b sz35
  replace Ma := hid (Ma.out.now b)
  replace Mb := hid (Mb.out.now b)
  replace Mc := hid (Mc.out.now b)
  replace Mp := hid (Mp.out.now b)
  replace Mu := hid (Mu.out.now b)
  replace Mq := hid (Mq.out.now b)
  replace Pa := hid (Pa.out.step b)
  replace Pb := hid (Pb.out.step b)
  replace Pc := hid (Pc.out.step b)
  replace Pp := hid (Pp.out.step b)
  replace Pu := hid (Pu.out.step b)
  replace G := hid (below_step G.out b)
  have lz36 := (show Below _ _ _ from b).size
  have Pq : Hid (Cel V35 w33.heap.size 24 (matc r c (.slice aq (r * c) qq))) := by unfold Hid; rw [← hV]; exact Cel.new w33 _ _
  clear b
  have ca0 := Pa.out.at (i := 0) rfl
  have ca1 := Pa.out.at (i := 1) rfl
  have ca2 := Pa.out.at (i := 2) rfl
  have cb0 := Pb.out.at (i := 0) rfl
  have cb1 := Pb.out.at (i := 1) rfl
  have cb2 := Pb.out.at (i := 2) rfl
  have cp0 := Pp.out.at (i := 0) rfl
  have cp1 := Pp.out.at (i := 1) rfl
  have cp2 := Pp.out.at (i := 2) rfl
  have cq0 := Pq.out.at (i := 0) rfl
  have cq1 := Pq.out.at (i := 1) rfl
  have cq2 := Pq.out.at (i := 2) rfl
  rw [← hV] at ca0 ca1 ca2 cb0 cb1 cb2 cp0 cp1 cp2 cq0 cq1 cq2
  have EV := hid hV
  clear hV
  go_wp2_with fail
  rw [EV.out]
  clear EV
  clear ca0 ca1 ca2 cb0 cb1 cb2 cp0 cp1 cp2 cq0 cq1 cq2
  have hlp : zp.length = r * c := by obtain ⟨_, _, _, _, _, h, _⟩ := Mp.out; exact h
  have EQ1 : Hid (zp = zq) := by unfold Hid; rw [← Eq.out, ← Eu.out, unit_prod hlp]
  clear hlp
  refine (alikeMats9_yes Mp.out Mq.out EQ1.out).mono ?_
  rintro e w37 ⟨rfl, b⟩
  replace Ma := hid (Ma.out.now b)
  replace Mb := hid (Mb.out.now b)
  replace Mc := hid (Mc.out.now b)
  replace Mp := hid (Mp.out.now b)
  replace Mu := hid (Mu.out.now b)
  replace Mq := hid (Mq.out.now b)
  replace Pa := hid (Pa.out.step b)
  replace Pb := hid (Pb.out.step b)
  replace Pc := hid (Pc.out.step b)
  replace Pp := hid (Pp.out.step b)
  replace Pu := hid (Pu.out.step b)
  replace Pq := hid (Pq.out.step b)
  replace G := hid (below_step G.out b)
  have lz38 := (show Below _ _ _ from b).size
  clear b
  clear Mu
  clear Mq
  clear Pu
  clear Pq
  clear EQ1 Eq Eu
  have cb0 := Pb.out.at (i := 0) rfl
  have cb1 := Pb.out.at (i := 1) rfl
  have cb2 := Pb.out.at (i := 2) rfl
  go_wp2_with fail
  clear cb0 cb1 cb2
  refine (add_yes Mb.out Mb.out (by omega)).mono ?_
  rintro e w39 ⟨v, rfl, hm, b⟩
  obtain ⟨ad, qd, rfl, -, -⟩ := hm.mx.form
  replace Ma := hid (Ma.out.now b)
  replace Mb := hid (Mb.out.now b)
  replace Mc := hid (Mc.out.now b)
  replace Mp := hid (Mp.out.now b)
  replace Pa := hid (Pa.out.step b)
  replace Pb := hid (Pb.out.step b)
  replace Pc := hid (Pc.out.step b)
  replace Pp := hid (Pp.out.step b)
  replace G := hid (below_step G.out b)
  have lz40 := (show Below _ _ _ from b).size
  obtain ⟨zd, hz⟩ : ∃ zd, addL (m * c) ys ys = zd := ⟨_, rfl⟩
  rw [hz] at hm
  have Ed := hid hz
  have Md := hid hm
  clear hm hz b
  obtain ⟨V41, hV⟩ : ∃ V41, w39.alloc (matO m c (.slice ad (m * c) qd)) = V41 := ⟨_, rfl⟩
  obtain ⟨b, sz41⟩ := alo1 w39 (matO m c (.slice ad (m * c) qd))
  rw [hV] at b sz41
  replace Ma := hid (Ma.out.now b)
  replace Mb := hid (Mb.out.now b)
  replace Mc := hid (Mc.out.now b)
  replace Mp := hid (Mp.out.now b)
  replace Md := hid (Md.out.now b)
  replace Pa := hid (Pa.out.step b)
  replace Pb := hid (Pb.out.step b)
  replace Pc := hid (Pc.out.step b)
  replace Pp := hid (Pp.out.step b)
  replace G := hid (below_step G.out b)
  have lz42 := (show Below _ _ _ from b).size
  have Pd : Hid (Cel V41 w39.heap.size 24 (matc m c (.slice ad (m * c) qd))) := by unfold Hid; rw [← hV]; exact Cel.new w39 _ _
  clear b
  have ca0 := Pa.out.at (i := 0) rfl
  have ca1 := Pa.out.at (i := 1) rfl
  have ca2 := Pa.out.at (i := 2) rfl
  have cd0 := Pd.out.at (i := 0) rfl
  have cd1 := Pd.out.at (i := 1) rfl
  have cd2 := Pd.out.at (i := 2) rfl
  rw [← hV] at ca0 ca1 ca2 cd0 cd1 cd2
  have EV := hid hV
  clear hV
  go_wp2_with fail
  rw [EV.out]
  clear EV
  clear ca0 ca1 ca2 cd0 cd1 cd2
  refine (mul_yes Ma.out Md.out.mx (by omega)).mono ?_
  rintro e w43 ⟨v, rfl, hm, b⟩
  obtain ⟨ax, qx, rfl, -, -⟩ := hm.mx.form
  replace Ma := hid (Ma.out.now b)
  replace Mb := hid (Mb.out.now b)
  replace Mc := hid (Mc.out.now b)
  replace Mp := hid (Mp.out.now b)
  replace Md := hid (Md.out.now b)
  replace Pa := hid (Pa.out.step b)
  replace Pb := hid (Pb.out.step b)
  replace Pc := hid (Pc.out.step b)
  replace Pp := hid (Pp.out.step b)
  replace Pd := hid (Pd.out.step b)
  replace G := hid (below_step G.out b)
  have lz44 := (show Below _ _ _ from b).size
  obtain ⟨zx, hz⟩ : ∃ zx, prodL r m c xs zd = zx := ⟨_, rfl⟩
  rw [hz] at hm
  have Ex := hid hz
  have Mx := hid hm
  clear hm hz b
  obtain ⟨V45, hV⟩ : ∃ V45, w43.alloc (matO r c (.slice ax (r * c) qx)) = V45 := ⟨_, rfl⟩
  obtain ⟨b, sz45⟩ := alo1 w43 (matO r c (.slice ax (r * c) qx))
  rw [hV] at b sz45
  replace Ma := hid (Ma.out.now b)
  replace Mb := hid (Mb.out.now b)
  replace Mc := hid (Mc.out.now b)
  replace Mp := hid (Mp.out.now b)
  replace Md := hid (Md.out.now b)
  replace Mx := hid (Mx.out.now b)
  replace Pa := hid (Pa.out.step b)
  replace Pb := hid (Pb.out.step b)
  replace Pc := hid (Pc.out.step b)
  replace Pp := hid (Pp.out.step b)
  replace Pd := hid (Pd.out.step b)
  replace G := hid (below_step G.out b)
  have lz46 := (show Below _ _ _ from b).size
  have Px : Hid (Cel V45 w43.heap.size 24 (matc r c (.slice ax (r * c) qx))) := by unfold Hid; rw [← hV]; exact Cel.new w43 _ _
  clear b
  have cp0 := Pp.out.at (i := 0) rfl
  have cp1 := Pp.out.at (i := 1) rfl
  have cp2 := Pp.out.at (i := 2) rfl
  rw [← hV] at cp0 cp1 cp2
  have EV := hid hV
  clear hV
  go_wp2_with fail
  rw [EV.out]
  clear EV
  clear cp0 cp1 cp2
  refine (add_yes Mp.out.mx Mp.out.mx (by omega)).mono ?_
  rintro e w47 ⟨v, rfl, hm, b⟩
  obtain ⟨ay, qy, rfl, -, -⟩ := hm.mx.form
  replace Ma := hid (Ma.out.now b)
  replace Mb := hid (Mb.out.now b)
  replace Mc := hid (Mc.out.now b)
  replace Mp := hid (Mp.out.now b)
  replace Md := hid (Md.out.now b)
  replace Mx := hid (Mx.out.now b)
  replace Pa := hid (Pa.out.step b)
  replace Pb := hid (Pb.out.step b)
  replace Pc := hid (Pc.out.step b)
  replace Pp := hid (Pp.out.step b)
  replace Pd := hid (Pd.out.step b)
  replace Px := hid (Px.out.step b)
  replace G := hid (below_step G.out b)
  have lz48 := (show Below _ _ _ from b).size
  obtain ⟨zy, hz⟩ : ∃ zy, addL (r * c) zp zp = zy := ⟨_, rfl⟩
  rw [hz] at hm
  have Ey := hid hz
  have My := hid hm
  clear hm hz b
  obtain ⟨V49, hV⟩ : ∃ V49, w47.alloc (matO r c (.slice ay (r * c) qy)) = V49 := ⟨_, rfl⟩
  obtain ⟨b, sz49⟩ := alo1 w47 (matO r c (.slice ay (r * c) qy))
  rw [hV] at b sz49
  replace Ma := hid (Ma.out.now b)
  replace Mb := hid (Mb.out.now b)
  replace Mc := hid (Mc.out.now b)
  replace Mp := hid (Mp.out.now b)
  replace Md := hid (Md.out.now b)
  replace Mx := hid (Mx.out.now b)
  replace My := hid (My.out.now b)
  replace Pa := hid (Pa.out.step b)
  replace Pb := hid (Pb.out.step b)
  replace Pc := hid (Pc.out.step b)
  replace Pp := hid (Pp.out.step b)
  replace Pd := hid (Pd.out.step b)
  replace Px := hid (Px.out.step b)
  replace G := hid (below_step G.out b)
  have lz50 := (show Below _ _ _ from b).size
  have Py : Hid (Cel V49 w47.heap.size 24 (matc r c (.slice ay (r * c) qy))) := by unfold Hid; rw [← hV]; exact Cel.new w47 _ _
  clear b
  have cx0 := Px.out.at (i := 0) rfl
  have cx1 := Px.out.at (i := 1) rfl
  have cx2 := Px.out.at (i := 2) rfl
  have cy0 := Py.out.at (i := 0) rfl
  have cy1 := Py.out.at (i := 1) rfl
  have cy2 := Py.out.at (i := 2) rfl
  rw [← hV] at cx0 cx1 cx2 cy0 cy1 cy2
  have EV := hid hV
  clear hV
  go_wp2_with fail
  rw [EV.out]
  clear EV
  clear cx0 cx1 cx2 cy0 cy1 cy2
  have hlx : xs.length = r * m := by obtain ⟨_, _, _, _, _, h, _⟩ := Ma.out; exact h
  have EQ2 : Hid (zx = zy) := by unfold Hid; rw [← Ex.out, ← Ey.out, ← Ed.out, ← Ep.out, prod_add hlx]
  clear hlx
  refine (alikeMats9_yes Mx.out My.out EQ2.out).mono ?_
  rintro e w51 ⟨rfl, b⟩
  replace Ma := hid (Ma.out.now b)
  replace Mb := hid (Mb.out.now b)
  replace Mc := hid (Mc.out.now b)
  replace Mp := hid (Mp.out.now b)
  replace Md := hid (Md.out.now b)
  replace Mx := hid (Mx.out.now b)
  replace My := hid (My.out.now b)
  replace Pa := hid (Pa.out.step b)
  replace Pb := hid (Pb.out.step b)
  replace Pc := hid (Pc.out.step b)
  replace Pp := hid (Pp.out.step b)
  replace Pd := hid (Pd.out.step b)
  replace Px := hid (Px.out.step b)
  replace Py := hid (Py.out.step b)
  replace G := hid (below_step G.out b)
  have lz52 := (show Below _ _ _ from b).size
  clear b
  clear EQ2 Ex Ey Ed
  clear Md
  clear Mx
  clear My
  clear Pd
  have cp0 := Pp.out.at (i := 0) rfl
  have cp1 := Pp.out.at (i := 1) rfl
  have cp2 := Pp.out.at (i := 2) rfl
  have cc0 := Pc.out.at (i := 0) rfl
  have cc1 := Pc.out.at (i := 1) rfl
  have cc2 := Pc.out.at (i := 2) rfl
  go_wp2_with fail
  clear cp0 cp1 cp2 cc0 cc1 cc2
  by_cases hc2 : c = c2
  case neg =>
    have q1 : ((c : Int) != (c2 : Int)) = true := by simp; omega
    refine (mul_no Mp.out.mx Mc.out hc2).mono ?_
    rintro e w53 ⟨rfl, b⟩
    replace Ma := hid (Ma.out.now b)
    replace Mb := hid (Mb.out.now b)
    replace Mc := hid (Mc.out.now b)
    replace Mp := hid (Mp.out.now b)
    replace Pa := hid (Pa.out.step b)
    replace Pb := hid (Pb.out.step b)
    replace Pc := hid (Pc.out.step b)
    replace Pp := hid (Pp.out.step b)
    replace Px := hid (Px.out.step b)
    replace Py := hid (Py.out.step b)
    replace G := hid (below_step G.out b)
    have lz54 := (show Below _ _ _ from b).size
    clear b hc2
    have ex0 := Px.out.at (i := 0) rfl
    have ex1 := Px.out.at (i := 1) rfl
    have ex2 := Px.out.at (i := 2) rfl
    have fx0 := Px.out.fz 0
    have fx1 := Px.out.fz 1
    have fx2 := Px.out.fz 2
    obtain ⟨V55, hV⟩ : ∃ V55, put3 w53 (w43.heap.size) (.int .i64 0) (.int .i64 0) (.slice none 0 0) = V55 := ⟨_, rfl⟩
    replace Pb := hid (Pb.out.away3 (b' := w43.heap.size) (by omega) (.int .i64 0) (.int .i64 0) (.slice none 0 0))
    replace Pc := hid (Pc.out.away3 (b' := w43.heap.size) (by omega) (.int .i64 0) (.int .i64 0) (.slice none 0 0))
    replace Px := hid (Px.out.put3 (.int .i64 0) (.int .i64 0) (.slice none 0 0))
    replace G := hid (below_put3 G.out (b := w43.heap.size) (by omega) (.int .i64 0) (.int .i64 0) (.slice none 0 0))
    rw [hV] at G Px Pb Pc
    clear Pa Pp Py Ma Mb Mc Mp
    have g0 := Px.out.at (i := 0) rfl
    have g1 := Px.out.at (i := 1) rfl
    have g2 := Px.out.at (i := 2) rfl
    have g3 := Pb.out.at (i := 1) rfl
    have g4 := Pc.out.at (i := 0) rfl
    rw [← hV] at g0 g1 g2 g3 g4
    have EV : Hid (((w53.setCell ⟨w43.heap.size, 0, none⟩ (.int .i64 0)).setCell ⟨w43.heap.size, 1, none⟩ (.int .i64 0)).setCell ⟨w43.heap.size, 2, none⟩ (.slice none 0 0) = V55) := hV
    clear hV
    go_wp2_with fail
    rw [EV.out]
    clear EV g0 g1 g2 g3 g4 ex0 ex1 ex2 fx0 fx1 fx2
    refine (none9_yes (w := V55)).mono ?_
    rintro e w56 ⟨rfl, b⟩
    replace G := hid (below_step G.out b)
    clear b
    go_wp2
    go_ret
    exact ⟨rfl, G.out⟩
  subst hc2
  refine (mul_yes Mp.out.mx Mc.out (by omega)).mono ?_
  rintro e w57 ⟨v, rfl, hm, b⟩
  obtain ⟨ax, qx, rfl, -, -⟩ := hm.mx.form
  replace Ma := hid (Ma.out.now b)
  replace Mb := hid (Mb.out.now b)
  replace Mc := hid (Mc.out.now b)
  replace Mp := hid (Mp.out.now b)
  replace Pa := hid (Pa.out.step b)
  replace Pb := hid (Pb.out.step b)
  replace Pc := hid (Pc.out.step b)
  replace Pp := hid (Pp.out.step b)
  replace Px := hid (Px.out.step b)
  replace Py := hid (Py.out.step b)
  replace G := hid (below_step G.out b)
  have lz58 := (show Below _ _ _ from b).size
  obtain ⟨zx, hz⟩ : ∃ zx, prodL r c d zp zs = zx := ⟨_, rfl⟩
  rw [hz] at hm
  have Ex := hid hz
  have Mx := hid hm
  clear hm hz b
  have ex0 := Px.out.at (i := 0) rfl
  have ex1 := Px.out.at (i := 1) rfl
  have ex2 := Px.out.at (i := 2) rfl
  have fx0 := Px.out.fz 0
  have fx1 := Px.out.fz 1
  have fx2 := Px.out.fz 2
  obtain ⟨V59, hV⟩ : ∃ V59, put3 w57 (w43.heap.size) (.int .i64 (r : Int)) (.int .i64 (d : Int)) (.slice ax (r * d) qx) = V59 := ⟨_, rfl⟩
  replace Ma := hid (Ma.out.wk Px.out (.int .i64 (r : Int)) (.int .i64 (d : Int)) (.slice ax (r * d) qx))
  replace Mb := hid (Mb.out.wk Px.out (.int .i64 (r : Int)) (.int .i64 (d : Int)) (.slice ax (r * d) qx))
  replace Mc := hid (Mc.out.wk Px.out (.int .i64 (r : Int)) (.int .i64 (d : Int)) (.slice ax (r * d) qx))
  replace Mp := hid (Mp.out.wk Px.out (.int .i64 (r : Int)) (.int .i64 (d : Int)) (.slice ax (r * d) qx))
  replace Mx := hid (Mx.out.wk Px.out (.int .i64 (r : Int)) (.int .i64 (d : Int)) (.slice ax (r * d) qx))
  replace Pa := hid (Pa.out.away3 (b' := w43.heap.size) (by omega) (.int .i64 (r : Int)) (.int .i64 (d : Int)) (.slice ax (r * d) qx))
  replace Pb := hid (Pb.out.away3 (b' := w43.heap.size) (by omega) (.int .i64 (r : Int)) (.int .i64 (d : Int)) (.slice ax (r * d) qx))
  replace Pc := hid (Pc.out.away3 (b' := w43.heap.size) (by omega) (.int .i64 (r : Int)) (.int .i64 (d : Int)) (.slice ax (r * d) qx))
  replace Pp := hid (Pp.out.away3 (b' := w43.heap.size) (by omega) (.int .i64 (r : Int)) (.int .i64 (d : Int)) (.slice ax (r * d) qx))
  replace Py := hid (Py.out.away3 (b' := w43.heap.size) (by omega) (.int .i64 (r : Int)) (.int .i64 (d : Int)) (.slice ax (r * d) qx))
  replace Px := hid (Px.out.put3 (.int .i64 (r : Int)) (.int .i64 (d : Int)) (.slice ax (r * d) qx))
  replace G := hid (below_put3 G.out (b := w43.heap.size) (by omega) (.int .i64 (r : Int)) (.int .i64 (d : Int)) (.slice ax (r * d) qx))
  rw [hV] at G Ma Mb Mc Mp Mx Pa Pb Pc Pp Px Py
  have lz59 : V59.heap.size = w57.heap.size := by rw [← hV]; simp
  have cb0 := Pb.out.at (i := 0) rfl
  have cb1 := Pb.out.at (i := 1) rfl
  have cb2 := Pb.out.at (i := 2) rfl
  have cc0 := Pc.out.at (i := 0) rfl
  have cc1 := Pc.out.at (i := 1) rfl
  have cc2 := Pc.out.at (i := 2) rfl
  rw [← hV] at cb0 cb1 cb2 cc0 cc1 cc2
  have EV : Hid (((w57.setCell ⟨w43.heap.size, 0, none⟩ (.int .i64 (r : Int))).setCell ⟨w43.heap.size, 1, none⟩ (.int .i64 (d : Int))).setCell ⟨w43.heap.size, 2, none⟩ (.slice ax (r * d) qx) = V59) := hV
  clear hV
  go_wp2_with fail
  rw [EV.out]
  clear EV
  clear cb0 cb1 cb2 cc0 cc1 cc2
  clear ex0 ex1 ex2 fx0 fx1 fx2
  refine (mul_yes Mb.out Mc.out (by omega)).mono ?_
  rintro e w60 ⟨v, rfl, hm, b⟩
  obtain ⟨ak, qk, rfl, -, -⟩ := hm.mx.form
  replace Ma := hid (Ma.out.now b)
  replace Mb := hid (Mb.out.now b)
  replace Mc := hid (Mc.out.now b)
  replace Mp := hid (Mp.out.now b)
  replace Mx := hid (Mx.out.now b)
  replace Pa := hid (Pa.out.step b)
  replace Pb := hid (Pb.out.step b)
  replace Pc := hid (Pc.out.step b)
  replace Pp := hid (Pp.out.step b)
  replace Px := hid (Px.out.step b)
  replace Py := hid (Py.out.step b)
  replace G := hid (below_step G.out b)
  have lz61 := (show Below _ _ _ from b).size
  obtain ⟨zk, hz⟩ : ∃ zk, prodL m c d ys zs = zk := ⟨_, rfl⟩
  rw [hz] at hm
  have Ek := hid hz
  have Mk := hid hm
  clear hm hz b
  obtain ⟨V62, hV⟩ : ∃ V62, w60.alloc (matO m d (.slice ak (m * d) qk)) = V62 := ⟨_, rfl⟩
  obtain ⟨b, sz62⟩ := alo1 w60 (matO m d (.slice ak (m * d) qk))
  rw [hV] at b sz62
  replace Ma := hid (Ma.out.now b)
  replace Mb := hid (Mb.out.now b)
  replace Mc := hid (Mc.out.now b)
  replace Mp := hid (Mp.out.now b)
  replace Mx := hid (Mx.out.now b)
  replace Mk := hid (Mk.out.now b)
  replace Pa := hid (Pa.out.step b)
  replace Pb := hid (Pb.out.step b)
  replace Pc := hid (Pc.out.step b)
  replace Pp := hid (Pp.out.step b)
  replace Px := hid (Px.out.step b)
  replace Py := hid (Py.out.step b)
  replace G := hid (below_step G.out b)
  have lz63 := (show Below _ _ _ from b).size
  have Pk : Hid (Cel V62 w60.heap.size 24 (matc m d (.slice ak (m * d) qk))) := by unfold Hid; rw [← hV]; exact Cel.new w60 _ _
  clear b
  have ca0 := Pa.out.at (i := 0) rfl
  have ca1 := Pa.out.at (i := 1) rfl
  have ca2 := Pa.out.at (i := 2) rfl
  have ck0 := Pk.out.at (i := 0) rfl
  have ck1 := Pk.out.at (i := 1) rfl
  have ck2 := Pk.out.at (i := 2) rfl
  rw [← hV] at ca0 ca1 ca2 ck0 ck1 ck2
  have EV := hid hV
  clear hV
  go_wp2_with fail
  rw [EV.out]
  clear EV
  clear ca0 ca1 ca2 ck0 ck1 ck2
  refine (mul_yes Ma.out Mk.out.mx (by omega)).mono ?_
  rintro e w64 ⟨v, rfl, hm, b⟩
  obtain ⟨ay, qy, rfl, -, -⟩ := hm.mx.form
  replace Ma := hid (Ma.out.now b)
  replace Mb := hid (Mb.out.now b)
  replace Mc := hid (Mc.out.now b)
  replace Mp := hid (Mp.out.now b)
  replace Mx := hid (Mx.out.now b)
  replace Mk := hid (Mk.out.now b)
  replace Pa := hid (Pa.out.step b)
  replace Pb := hid (Pb.out.step b)
  replace Pc := hid (Pc.out.step b)
  replace Pp := hid (Pp.out.step b)
  replace Px := hid (Px.out.step b)
  replace Py := hid (Py.out.step b)
  replace Pk := hid (Pk.out.step b)
  replace G := hid (below_step G.out b)
  have lz65 := (show Below _ _ _ from b).size
  obtain ⟨zy, hz⟩ : ∃ zy, prodL r m d xs zk = zy := ⟨_, rfl⟩
  rw [hz] at hm
  have Ey := hid hz
  have My := hid hm
  clear hm hz b
  have ey0 := Py.out.at (i := 0) rfl
  have ey1 := Py.out.at (i := 1) rfl
  have ey2 := Py.out.at (i := 2) rfl
  have fy0 := Py.out.fz 0
  have fy1 := Py.out.fz 1
  have fy2 := Py.out.fz 2
  obtain ⟨V66, hV⟩ : ∃ V66, put3 w64 (w47.heap.size) (.int .i64 (r : Int)) (.int .i64 (d : Int)) (.slice ay (r * d) qy) = V66 := ⟨_, rfl⟩
  replace Ma := hid (Ma.out.wk Py.out (.int .i64 (r : Int)) (.int .i64 (d : Int)) (.slice ay (r * d) qy))
  replace Mb := hid (Mb.out.wk Py.out (.int .i64 (r : Int)) (.int .i64 (d : Int)) (.slice ay (r * d) qy))
  replace Mc := hid (Mc.out.wk Py.out (.int .i64 (r : Int)) (.int .i64 (d : Int)) (.slice ay (r * d) qy))
  replace Mp := hid (Mp.out.wk Py.out (.int .i64 (r : Int)) (.int .i64 (d : Int)) (.slice ay (r * d) qy))
  replace Mx := hid (Mx.out.wk Py.out (.int .i64 (r : Int)) (.int .i64 (d : Int)) (.slice ay (r * d) qy))
  replace Mk := hid (Mk.out.wk Py.out (.int .i64 (r : Int)) (.int .i64 (d : Int)) (.slice ay (r * d) qy))
  replace My := hid (My.out.wk Py.out (.int .i64 (r : Int)) (.int .i64 (d : Int)) (.slice ay (r * d) qy))
  replace Pa := hid (Pa.out.away3 (b' := w47.heap.size) (by omega) (.int .i64 (r : Int)) (.int .i64 (d : Int)) (.slice ay (r * d) qy))
  replace Pb := hid (Pb.out.away3 (b' := w47.heap.size) (by omega) (.int .i64 (r : Int)) (.int .i64 (d : Int)) (.slice ay (r * d) qy))
  replace Pc := hid (Pc.out.away3 (b' := w47.heap.size) (by omega) (.int .i64 (r : Int)) (.int .i64 (d : Int)) (.slice ay (r * d) qy))
  replace Pp := hid (Pp.out.away3 (b' := w47.heap.size) (by omega) (.int .i64 (r : Int)) (.int .i64 (d : Int)) (.slice ay (r * d) qy))
  replace Px := hid (Px.out.away3 (b' := w47.heap.size) (by omega) (.int .i64 (r : Int)) (.int .i64 (d : Int)) (.slice ay (r * d) qy))
  replace Pk := hid (Pk.out.away3 (b' := w47.heap.size) (by omega) (.int .i64 (r : Int)) (.int .i64 (d : Int)) (.slice ay (r * d) qy))
  replace Py := hid (Py.out.put3 (.int .i64 (r : Int)) (.int .i64 (d : Int)) (.slice ay (r * d) qy))
  replace G := hid (below_put3 G.out (b := w47.heap.size) (by omega) (.int .i64 (r : Int)) (.int .i64 (d : Int)) (.slice ay (r * d) qy))
  rw [hV] at G Ma Mb Mc Mp Mx Mk My Pa Pb Pc Pp Px Py Pk
  have lz66 : V66.heap.size = w64.heap.size := by rw [← hV]; simp
  have cx0 := Px.out.at (i := 0) rfl
  have cx1 := Px.out.at (i := 1) rfl
  have cx2 := Px.out.at (i := 2) rfl
  have cy0 := Py.out.at (i := 0) rfl
  have cy1 := Py.out.at (i := 1) rfl
  have cy2 := Py.out.at (i := 2) rfl
  rw [← hV] at cx0 cx1 cx2 cy0 cy1 cy2
  have EV : Hid (((w64.setCell ⟨w47.heap.size, 0, none⟩ (.int .i64 (r : Int))).setCell ⟨w47.heap.size, 1, none⟩ (.int .i64 (d : Int))).setCell ⟨w47.heap.size, 2, none⟩ (.slice ay (r * d) qy) = V66) := hV
  clear hV
  go_wp2_with fail
  rw [EV.out]
  clear EV
  clear cx0 cx1 cx2 cy0 cy1 cy2
  clear ey0 ey1 ey2 fy0 fy1 fy2
  have hlx : xs.length = r * m := by obtain ⟨_, _, _, _, _, h, _⟩ := Ma.out; exact h
  have hly : ys.length = m * c := by obtain ⟨_, _, _, _, _, h, _⟩ := Mb.out; exact h
  have EQ3 : Hid (zx = zy) := by unfold Hid; rw [← Ex.out, ← Ey.out, ← Ek.out, ← Ep.out, prod_assoc hlx hly]
  clear hlx hly
  refine (alikeMats9_yes Mx.out My.out EQ3.out).mono ?_
  rintro e w67 ⟨rfl, b⟩
  replace Ma := hid (Ma.out.now b)
  replace Mb := hid (Mb.out.now b)
  replace Mc := hid (Mc.out.now b)
  replace Mp := hid (Mp.out.now b)
  replace Mx := hid (Mx.out.now b)
  replace Mk := hid (Mk.out.now b)
  replace My := hid (My.out.now b)
  replace Pa := hid (Pa.out.step b)
  replace Pb := hid (Pb.out.step b)
  replace Pc := hid (Pc.out.step b)
  replace Pp := hid (Pp.out.step b)
  replace Px := hid (Px.out.step b)
  replace Py := hid (Py.out.step b)
  replace Pk := hid (Pk.out.step b)
  replace G := hid (below_step G.out b)
  have lz68 := (show Below _ _ _ from b).size
  clear b
  go_wp2
  go_ret
  exact ⟨rfl, G.out⟩
end Go.Proofs.Ytojhmkkjjalonaa
