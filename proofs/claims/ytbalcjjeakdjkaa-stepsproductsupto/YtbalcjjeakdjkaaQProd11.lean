/-
  Prod11: StepsProducts.
-/
import Derived.Test.YtbalcjjeakdjkaaQNum11ToAwake11
import Derived.Test.YtbalcjjeakdjkaaQAdd9ToPure9
namespace Go.Proofs.Ytbalcjjeakdjkaa
open Go.RowKit
set_option linter.unusedVariables false

theorem cols_prod {ss : List St} {r c : Nat} {zs : List Int} (hl : zs.length = r * c) (hf : ∀ s ∈ ss, s.fit c) : turnL9 c r (rowsT ss c r (turnL9 r c zs)) = prodL r c c zs (turnL9 c c (rowsT ss c c (unitL c c))) := by
  rw [← rowsT_prod (zs := turnL9 r c zs) turnL9_length hf, turn_prod (rowsT_length (unitL_length _ _) hf), turn_turn hl]
theorem sts_fit {rs : List Rs} {n : Nat} (h : ∀ s ∈ rs, s.fit n) : ∀ s ∈ sts rs, s.fit n := by
  intro s hs
  simp only [sts, List.mem_map] at hs
  obtain ⟨x, hx, rfl⟩ := hs
  exact Rs.st_fit (h x hx)
set_option maxHeartbeats 8000000 in
set_option maxRecDepth 100000 in
theorem stepsProducts_any {w : World} {va sv : Value} {r c : Int} {l : Nat} {zs : List Int} {rs : List Rs} (ha : Raw w va r c l zs) (hs : Raws w sv rs 1048576) :
    Calls Try.prog 4 #[va, sv] w fun e w' => e = .returned (.bool true) ∧ Below w.heap.size w w' := by
  obtain ⟨aa, qa, ps0, rfl, -, -, hzl, -⟩ := id ha
  obtain ⟨asv, csv, rfl, hsl, -⟩ := id hs.form
  by_cases hsnd : Snd r c l
  · obtain ⟨r, rfl⟩ := Int.eq_ofNat_of_zero_le hsnd.1
    obtain ⟨c, rfl⟩ := Int.eq_ofNat_of_zero_le hsnd.2.2.1
    have hm := ha.mx hsnd
    obtain rfl : l = r * c := Int.ofNat.inj (by simpa using hsnd.2.2.2.2)
    have hr : r ≤ 64 := by have := hsnd.2.1; omega
    have hc : c ≤ 64 := by have := hsnd.2.2.2.1; omega
    have HZL := hid hzl
    have HSN := hid hsnd
    have KB : Hid (1048576 + rs.length * (1048576 + 1) < 2199023255552 ∧ 1 + rs.length * (1048576 + 1) < 2199023255552) := by
      have : rs.length * (1048576 + 1) ≤ 1048576 * (1048576 + 1) := Nat.mul_le_mul_right _ hsl
      exact ⟨by omega, by omega⟩
    obtain ⟨K, hK⟩ : ∃ K, rs.length * (1048576 + 1) = K := ⟨_, rfl⟩
    have EK := hid hK
    rw [hK] at KB
    obtain ⟨L, hL⟩ : ∃ L, rs.length = L := ⟨_, rfl⟩
    rw [hL] at hs ⊢
    obtain ⟨W0, hW⟩ : ∃ W0, w.alloc (matO r c (.slice aa (r * c) qa)) = W0 := ⟨_, rfl⟩
    obtain ⟨b0, sz0⟩ := alo1 w (matO r c (.slice aa (r * c) qa))
    rw [hW] at b0 sz0
    have Pa : Hid (Cel W0 w.heap.size 33 (matc r c (.slice aa (r * c) qa))) := by unfold Hid; rw [← hW]; exact Cel.new _ _ _
    have Ma := hid (hm.now b0)
    have RS := hid (hs.now b0)
    have G := hid b0
    have EW := hid hW
    clear ha hs hm hzl hsnd b0 hW hK hL
    go_enter Try.func4, Try.ntmps4
    go_wp2_with fail
    rw [EW.out]
    clear EW
    refine (awake11 _).mono ?_
    rintro e w11 ⟨rfl, b⟩
    replace Ma := hid (Ma.out.now b)
    replace Pa := hid (Pa.out.step b)
    replace RS := hid (RS.out.now b)
    replace G := hid (below_step G.out b)
    have lz12 := (show Below _ _ _ from b).size
    clear b
    have ca0 := Pa.out.at (i := 0) rfl
    have ca1 := Pa.out.at (i := 1) rfl
    have ca2 := Pa.out.at (i := 2) rfl
    go_wp2_with fail
    clear ca0 ca1 ca2
    refine (rcheck11).mono ?_
    rintro e w13 ⟨he, b⟩
    rw [if_pos HSN.out] at he
    subst he
    replace Ma := hid (Ma.out.now b)
    replace Pa := hid (Pa.out.step b)
    replace RS := hid (RS.out.now b)
    replace G := hid (below_step G.out b)
    have lz14 := (show Below _ _ _ from b).size
    clear b
    have ca0 := Pa.out.at (i := 0) rfl
    have ca1 := Pa.out.at (i := 1) rfl
    have ca2 := Pa.out.at (i := 2) rfl
    go_wp2_with fail
    clear ca0 ca1 ca2
    by_cases hfr : ∀ s ∈ rs, s.fit r
    · have HFR := hid hfr
      clear hfr
      refine (matrix_yes (n := r) hr RS.out (by rw [EK.out]; have := KB.out; omega)).mono ?_
      rintro e w15 (⟨-, v, rfl, hm, b⟩ | ⟨hno, -⟩)
      rotate_left
      · exact absurd HFR.out hno
      obtain ⟨au, qu, rfl, -, -⟩ := hm.mx.form
      replace Ma := hid (Ma.out.now b)
      replace Pa := hid (Pa.out.step b)
      replace RS := hid (RS.out.now b)
      replace G := hid (below_step G.out b)
      have lz16 := (show Below _ _ _ from b).size
      have Mu := hid hm
      clear hm b
      obtain ⟨V17, hV⟩ : ∃ V17, w15.alloc (matO r r (.slice au (r * r) qu)) = V17 := ⟨_, rfl⟩
      obtain ⟨b, sz17⟩ := alo1 w15 (matO r r (.slice au (r * r) qu))
      rw [hV] at b sz17
      replace Ma := hid (Ma.out.now b)
      replace Mu := hid (Mu.out.now b)
      replace Pa := hid (Pa.out.step b)
      replace RS := hid (RS.out.now b)
      replace G := hid (below_step G.out b)
      have lz18 := (show Below _ _ _ from b).size
      have Pu : Hid (Cel V17 w15.heap.size 33 (matc r r (.slice au (r * r) qu))) := by unfold Hid; rw [← hV]; exact Cel.new w15 _ _
      clear b
      have ca0 := Pa.out.at (i := 0) rfl
      have ca1 := Pa.out.at (i := 1) rfl
      have ca2 := Pa.out.at (i := 2) rfl
      rw [← hV] at ca0 ca1 ca2
      have EV := hid hV
      clear hV
      go_wp2_with fail
      rw [EV.out]
      clear EV
      clear ca0 ca1 ca2
      refine (rows_yes Ma.out RS.out (by rw [EK.out]; have := KB.out; omega)).mono ?_
      rintro e w19 (⟨-, v, rfl, hm, b⟩ | ⟨hno, -⟩)
      rotate_left
      · exact absurd HFR.out hno
      obtain ⟨ao, qo, rfl, -, -⟩ := hm.mx.form
      replace Ma := hid (Ma.out.now b)
      replace Mu := hid (Mu.out.now b)
      replace Pa := hid (Pa.out.step b)
      replace Pu := hid (Pu.out.step b)
      replace RS := hid (RS.out.now b)
      replace G := hid (below_step G.out b)
      have lz20 := (show Below _ _ _ from b).size
      have Mo := hid hm
      clear hm b
      obtain ⟨V21, hV⟩ : ∃ V21, w19.alloc (matO r c (.slice ao (r * c) qo)) = V21 := ⟨_, rfl⟩
      obtain ⟨b, sz21⟩ := alo1 w19 (matO r c (.slice ao (r * c) qo))
      rw [hV] at b sz21
      replace Ma := hid (Ma.out.now b)
      replace Mu := hid (Mu.out.now b)
      replace Mo := hid (Mo.out.now b)
      replace Pa := hid (Pa.out.step b)
      replace Pu := hid (Pu.out.step b)
      replace RS := hid (RS.out.now b)
      replace G := hid (below_step G.out b)
      have lz22 := (show Below _ _ _ from b).size
      have Po : Hid (Cel V21 w19.heap.size 33 (matc r c (.slice ao (r * c) qo))) := by unfold Hid; rw [← hV]; exact Cel.new w19 _ _
      clear b
      have cu0 := Pu.out.at (i := 0) rfl
      have cu1 := Pu.out.at (i := 1) rfl
      have cu2 := Pu.out.at (i := 2) rfl
      have ca0 := Pa.out.at (i := 0) rfl
      have ca1 := Pa.out.at (i := 1) rfl
      have ca2 := Pa.out.at (i := 2) rfl
      rw [← hV] at cu0 cu1 cu2 ca0 ca1 ca2
      have EV := hid hV
      clear hV
      go_wp2_with fail
      rw [EV.out]
      clear EV
      clear cu0 cu1 cu2 ca0 ca1 ca2
      refine (mul_yes Mu.out.mx Ma.out (by rw [EK.out]; have := KB.out; omega)).mono ?_
      rintro e w23 ⟨v, rfl, hm, b⟩
      obtain ⟨ap, qp, rfl, -, -⟩ := hm.mx.form
      replace Ma := hid (Ma.out.now b)
      replace Mu := hid (Mu.out.now b)
      replace Mo := hid (Mo.out.now b)
      replace Pa := hid (Pa.out.step b)
      replace Pu := hid (Pu.out.step b)
      replace Po := hid (Po.out.step b)
      replace RS := hid (RS.out.now b)
      replace G := hid (below_step G.out b)
      have lz24 := (show Below _ _ _ from b).size
      have Mp := hid hm
      clear hm b
      obtain ⟨V25, hV⟩ : ∃ V25, w23.alloc (matO r c (.slice ap (r * c) qp)) = V25 := ⟨_, rfl⟩
      obtain ⟨b, sz25⟩ := alo1 w23 (matO r c (.slice ap (r * c) qp))
      rw [hV] at b sz25
      replace Ma := hid (Ma.out.now b)
      replace Mu := hid (Mu.out.now b)
      replace Mo := hid (Mo.out.now b)
      replace Mp := hid (Mp.out.now b)
      replace Pa := hid (Pa.out.step b)
      replace Pu := hid (Pu.out.step b)
      replace Po := hid (Po.out.step b)
      replace RS := hid (RS.out.now b)
      replace G := hid (below_step G.out b)
      have lz26 := (show Below _ _ _ from b).size
      have Pp : Hid (Cel V25 w23.heap.size 33 (matc r c (.slice ap (r * c) qp))) := by unfold Hid; rw [← hV]; exact Cel.new w23 _ _
      clear b
      have co0 := Po.out.at (i := 0) rfl
      have co1 := Po.out.at (i := 1) rfl
      have co2 := Po.out.at (i := 2) rfl
      have cp0 := Pp.out.at (i := 0) rfl
      have cp1 := Pp.out.at (i := 1) rfl
      have cp2 := Pp.out.at (i := 2) rfl
      rw [← hV] at co0 co1 co2 cp0 cp1 cp2
      have EV := hid hV
      clear hV
      go_wp2_with fail
      rw [EV.out]
      clear EV
      clear co0 co1 co2 cp0 cp1 cp2
      refine (equal11_yes Mo.out Mp.out (rowsT_prod HZL.out (sts_fit HFR.out)).symm).mono ?_
      rintro e w27 ⟨rfl, b⟩
      replace Ma := hid (Ma.out.now b)
      replace Mu := hid (Mu.out.now b)
      replace Mo := hid (Mo.out.now b)
      replace Mp := hid (Mp.out.now b)
      replace Pa := hid (Pa.out.step b)
      replace Pu := hid (Pu.out.step b)
      replace Po := hid (Po.out.step b)
      replace Pp := hid (Pp.out.step b)
      replace RS := hid (RS.out.now b)
      replace G := hid (below_step G.out b)
      have lz28 := (show Below _ _ _ from b).size
      clear b
      have ca0 := Pa.out.at (i := 0) rfl
      have ca1 := Pa.out.at (i := 1) rfl
      have ca2 := Pa.out.at (i := 2) rfl
      go_wp2_with fail
      clear ca0 ca1 ca2
      by_cases hfc : ∀ s ∈ rs, s.fit c
      · have HFC := hid hfc
        clear hfc
        refine (matrix_yes (n := c) hc RS.out (by rw [EK.out]; have := KB.out; omega)).mono ?_
        rintro e w29 (⟨-, v, rfl, hm, b⟩ | ⟨hno, -⟩)
        rotate_left
        · exact absurd HFC.out hno
        obtain ⟨av, qv, rfl, -, -⟩ := hm.mx.form
        replace Ma := hid (Ma.out.now b)
        replace Mu := hid (Mu.out.now b)
        replace Mo := hid (Mo.out.now b)
        replace Mp := hid (Mp.out.now b)
        replace Pa := hid (Pa.out.step b)
        replace Pu := hid (Pu.out.step b)
        replace Po := hid (Po.out.step b)
        replace Pp := hid (Pp.out.step b)
        replace RS := hid (RS.out.now b)
        replace G := hid (below_step G.out b)
        have lz30 := (show Below _ _ _ from b).size
        have Mv := hid hm
        clear hm b
        obtain ⟨V31, hV⟩ : ∃ V31, w29.alloc (matO c c (.slice av (c * c) qv)) = V31 := ⟨_, rfl⟩
        obtain ⟨b, sz31⟩ := alo1 w29 (matO c c (.slice av (c * c) qv))
        rw [hV] at b sz31
        replace Ma := hid (Ma.out.now b)
        replace Mu := hid (Mu.out.now b)
        replace Mo := hid (Mo.out.now b)
        replace Mp := hid (Mp.out.now b)
        replace Mv := hid (Mv.out.now b)
        replace Pa := hid (Pa.out.step b)
        replace Pu := hid (Pu.out.step b)
        replace Po := hid (Po.out.step b)
        replace Pp := hid (Pp.out.step b)
        replace RS := hid (RS.out.now b)
        replace G := hid (below_step G.out b)
        have lz32 := (show Below _ _ _ from b).size
        have Pv : Hid (Cel V31 w29.heap.size 33 (matc c c (.slice av (c * c) qv))) := by unfold Hid; rw [← hV]; exact Cel.new w29 _ _
        clear b
        have ca0 := Pa.out.at (i := 0) rfl
        have ca1 := Pa.out.at (i := 1) rfl
        have ca2 := Pa.out.at (i := 2) rfl
        rw [← hV] at ca0 ca1 ca2
        have EV := hid hV
        clear hV
        go_wp2_with fail
        rw [EV.out]
        clear EV
        clear ca0 ca1 ca2
        refine (cols_yes Ma.out RS.out (by rw [EK.out]; have := KB.out; omega)).mono ?_
        rintro e w33 (⟨-, v, rfl, hm, b⟩ | ⟨hno, -⟩)
        rotate_left
        · exact absurd HFC.out hno
        obtain ⟨ax, qx, rfl, -, -⟩ := hm.mx.form
        replace Ma := hid (Ma.out.now b)
        replace Mu := hid (Mu.out.now b)
        replace Mo := hid (Mo.out.now b)
        replace Mp := hid (Mp.out.now b)
        replace Mv := hid (Mv.out.now b)
        replace Pa := hid (Pa.out.step b)
        replace Pu := hid (Pu.out.step b)
        replace Po := hid (Po.out.step b)
        replace Pp := hid (Pp.out.step b)
        replace Pv := hid (Pv.out.step b)
        replace RS := hid (RS.out.now b)
        replace G := hid (below_step G.out b)
        have lz34 := (show Below _ _ _ from b).size
        have Mx := hid hm
        clear hm b
        obtain ⟨V35, hV⟩ : ∃ V35, w33.alloc (matO r c (.slice ax (r * c) qx)) = V35 := ⟨_, rfl⟩
        obtain ⟨b, sz35⟩ := alo1 w33 (matO r c (.slice ax (r * c) qx))
        rw [hV] at b sz35
        replace Ma := hid (Ma.out.now b)
        replace Mu := hid (Mu.out.now b)
        replace Mo := hid (Mo.out.now b)
        replace Mp := hid (Mp.out.now b)
        replace Mv := hid (Mv.out.now b)
        replace Mx := hid (Mx.out.now b)
        replace Pa := hid (Pa.out.step b)
        replace Pu := hid (Pu.out.step b)
        replace Po := hid (Po.out.step b)
        replace Pp := hid (Pp.out.step b)
        replace Pv := hid (Pv.out.step b)
        replace RS := hid (RS.out.now b)
        replace G := hid (below_step G.out b)
        have lz36 := (show Below _ _ _ from b).size
        have Px : Hid (Cel V35 w33.heap.size 33 (matc r c (.slice ax (r * c) qx))) := by unfold Hid; rw [← hV]; exact Cel.new w33 _ _
        clear b
        have cv0 := Pv.out.at (i := 0) rfl
        have cv1 := Pv.out.at (i := 1) rfl
        have cv2 := Pv.out.at (i := 2) rfl
        rw [← hV] at cv0 cv1 cv2
        have EV := hid hV
        clear hV
        go_wp2_with fail
        rw [EV.out]
        clear EV
        clear cv0 cv1 cv2
        refine (turn_yes Mv.out.mx).mono ?_
        rintro e w37 ⟨v, rfl, hm, b⟩
        obtain ⟨ah, qh, rfl, -, -⟩ := hm.mx.form
        replace Ma := hid (Ma.out.now b)
        replace Mu := hid (Mu.out.now b)
        replace Mo := hid (Mo.out.now b)
        replace Mp := hid (Mp.out.now b)
        replace Mv := hid (Mv.out.now b)
        replace Mx := hid (Mx.out.now b)
        replace Pa := hid (Pa.out.step b)
        replace Pu := hid (Pu.out.step b)
        replace Po := hid (Po.out.step b)
        replace Pp := hid (Pp.out.step b)
        replace Pv := hid (Pv.out.step b)
        replace Px := hid (Px.out.step b)
        replace RS := hid (RS.out.now b)
        replace G := hid (below_step G.out b)
        have lz38 := (show Below _ _ _ from b).size
        have Mh := hid hm
        clear hm b
        obtain ⟨V39, hV⟩ : ∃ V39, w37.alloc (matO c c (.slice ah (c * c) qh)) = V39 := ⟨_, rfl⟩
        obtain ⟨b, sz39⟩ := alo1 w37 (matO c c (.slice ah (c * c) qh))
        rw [hV] at b sz39
        replace Ma := hid (Ma.out.now b)
        replace Mu := hid (Mu.out.now b)
        replace Mo := hid (Mo.out.now b)
        replace Mp := hid (Mp.out.now b)
        replace Mv := hid (Mv.out.now b)
        replace Mx := hid (Mx.out.now b)
        replace Mh := hid (Mh.out.now b)
        replace Pa := hid (Pa.out.step b)
        replace Pu := hid (Pu.out.step b)
        replace Po := hid (Po.out.step b)
        replace Pp := hid (Pp.out.step b)
        replace Pv := hid (Pv.out.step b)
        replace Px := hid (Px.out.step b)
        replace RS := hid (RS.out.now b)
        replace G := hid (below_step G.out b)
        have lz40 := (show Below _ _ _ from b).size
        have Ph : Hid (Cel V39 w37.heap.size 33 (matc c c (.slice ah (c * c) qh))) := by unfold Hid; rw [← hV]; exact Cel.new w37 _ _
        clear b
        have ca0 := Pa.out.at (i := 0) rfl
        have ca1 := Pa.out.at (i := 1) rfl
        have ca2 := Pa.out.at (i := 2) rfl
        have ch0 := Ph.out.at (i := 0) rfl
        have ch1 := Ph.out.at (i := 1) rfl
        have ch2 := Ph.out.at (i := 2) rfl
        rw [← hV] at ca0 ca1 ca2 ch0 ch1 ch2
        have EV := hid hV
        clear hV
        go_wp2_with fail
        rw [EV.out]
        clear EV
        clear ca0 ca1 ca2 ch0 ch1 ch2
        refine (mul_yes Ma.out Mh.out.mx (by rw [EK.out]; have := KB.out; omega)).mono ?_
        rintro e w41 ⟨v, rfl, hm, b⟩
        obtain ⟨ay, qy, rfl, -, -⟩ := hm.mx.form
        replace Ma := hid (Ma.out.now b)
        replace Mu := hid (Mu.out.now b)
        replace Mo := hid (Mo.out.now b)
        replace Mp := hid (Mp.out.now b)
        replace Mv := hid (Mv.out.now b)
        replace Mx := hid (Mx.out.now b)
        replace Mh := hid (Mh.out.now b)
        replace Pa := hid (Pa.out.step b)
        replace Pu := hid (Pu.out.step b)
        replace Po := hid (Po.out.step b)
        replace Pp := hid (Pp.out.step b)
        replace Pv := hid (Pv.out.step b)
        replace Px := hid (Px.out.step b)
        replace Ph := hid (Ph.out.step b)
        replace RS := hid (RS.out.now b)
        replace G := hid (below_step G.out b)
        have lz42 := (show Below _ _ _ from b).size
        have My := hid hm
        clear hm b
        obtain ⟨V43, hV⟩ : ∃ V43, w41.alloc (matO r c (.slice ay (r * c) qy)) = V43 := ⟨_, rfl⟩
        obtain ⟨b, sz43⟩ := alo1 w41 (matO r c (.slice ay (r * c) qy))
        rw [hV] at b sz43
        replace Ma := hid (Ma.out.now b)
        replace Mu := hid (Mu.out.now b)
        replace Mo := hid (Mo.out.now b)
        replace Mp := hid (Mp.out.now b)
        replace Mv := hid (Mv.out.now b)
        replace Mx := hid (Mx.out.now b)
        replace Mh := hid (Mh.out.now b)
        replace My := hid (My.out.now b)
        replace Pa := hid (Pa.out.step b)
        replace Pu := hid (Pu.out.step b)
        replace Po := hid (Po.out.step b)
        replace Pp := hid (Pp.out.step b)
        replace Pv := hid (Pv.out.step b)
        replace Px := hid (Px.out.step b)
        replace Ph := hid (Ph.out.step b)
        replace RS := hid (RS.out.now b)
        replace G := hid (below_step G.out b)
        have lz44 := (show Below _ _ _ from b).size
        have Py : Hid (Cel V43 w41.heap.size 33 (matc r c (.slice ay (r * c) qy))) := by unfold Hid; rw [← hV]; exact Cel.new w41 _ _
        clear b
        have cx0 := Px.out.at (i := 0) rfl
        have cx1 := Px.out.at (i := 1) rfl
        have cx2 := Px.out.at (i := 2) rfl
        have cy0 := Py.out.at (i := 0) rfl
        have cy1 := Py.out.at (i := 1) rfl
        have cy2 := Py.out.at (i := 2) rfl
        rw [← hV] at cx0 cx1 cx2 cy0 cy1 cy2
        have EV := hid hV
        clear hV
        go_wp2_with fail
        rw [EV.out]
        clear EV
        clear cx0 cx1 cx2 cy0 cy1 cy2
        refine (equal11_yes Mx.out My.out (cols_prod HZL.out (sts_fit HFC.out))).mono ?_
        rintro e w45 ⟨rfl, b⟩
        replace Ma := hid (Ma.out.now b)
        replace Mu := hid (Mu.out.now b)
        replace Mo := hid (Mo.out.now b)
        replace Mp := hid (Mp.out.now b)
        replace Mv := hid (Mv.out.now b)
        replace Mx := hid (Mx.out.now b)
        replace Mh := hid (Mh.out.now b)
        replace My := hid (My.out.now b)
        replace Pa := hid (Pa.out.step b)
        replace Pu := hid (Pu.out.step b)
        replace Po := hid (Po.out.step b)
        replace Pp := hid (Pp.out.step b)
        replace Pv := hid (Pv.out.step b)
        replace Px := hid (Px.out.step b)
        replace Ph := hid (Ph.out.step b)
        replace Py := hid (Py.out.step b)
        replace RS := hid (RS.out.now b)
        replace G := hid (below_step G.out b)
        have lz46 := (show Below _ _ _ from b).size
        clear b
        go_wp2
        go_ret
        exact ⟨rfl, G.out⟩
      · have HFC := hid hfc
        clear hfc
        refine (matrix_yes (n := c) hc RS.out (by rw [EK.out]; have := KB.out; omega)).mono ?_
        rintro e w47 (⟨hyes, -⟩ | ⟨-, rfl, b⟩)
        · exact absurd hyes HFC.out
        replace Ma := hid (Ma.out.now b)
        replace Mu := hid (Mu.out.now b)
        replace Mo := hid (Mo.out.now b)
        replace Mp := hid (Mp.out.now b)
        replace Pa := hid (Pa.out.step b)
        replace Pu := hid (Pu.out.step b)
        replace Po := hid (Po.out.step b)
        replace Pp := hid (Pp.out.step b)
        replace RS := hid (RS.out.now b)
        replace G := hid (below_step G.out b)
        have lz48 := (show Below _ _ _ from b).size
        clear b
        obtain ⟨V49, hV⟩ : ∃ V49, w47.alloc mbox = V49 := ⟨_, rfl⟩
        obtain ⟨b, sz49⟩ := alo1 w47 mbox
        rw [hV] at b sz49
        replace Ma := hid (Ma.out.now b)
        replace Mu := hid (Mu.out.now b)
        replace Mo := hid (Mo.out.now b)
        replace Mp := hid (Mp.out.now b)
        replace Pa := hid (Pa.out.step b)
        replace Pu := hid (Pu.out.step b)
        replace Po := hid (Po.out.step b)
        replace Pp := hid (Pp.out.step b)
        replace RS := hid (RS.out.now b)
        replace G := hid (below_step G.out b)
        have lz50 := (show Below _ _ _ from b).size
        have Pv : Hid (Cel V49 w47.heap.size 33 ([.int .i64 0, .int .i64 0, .slice none 0 0])) := by unfold Hid; rw [← hV]; exact Cel.new w47 _ _
        clear b
        have ca0 := Pa.out.at (i := 0) rfl
        have ca1 := Pa.out.at (i := 1) rfl
        have ca2 := Pa.out.at (i := 2) rfl
        rw [← hV] at ca0 ca1 ca2
        have EV := hid hV
        clear hV
        go_wp2_with fail
        rw [EV.out]
        clear EV
        clear ca0 ca1 ca2
        refine (cols_yes Ma.out RS.out (by rw [EK.out]; have := KB.out; omega)).mono ?_
        rintro e w51 (⟨hyes, -⟩ | ⟨-, rfl, b⟩)
        · exact absurd hyes HFC.out
        replace Ma := hid (Ma.out.now b)
        replace Mu := hid (Mu.out.now b)
        replace Mo := hid (Mo.out.now b)
        replace Mp := hid (Mp.out.now b)
        replace Pa := hid (Pa.out.step b)
        replace Pu := hid (Pu.out.step b)
        replace Po := hid (Po.out.step b)
        replace Pp := hid (Pp.out.step b)
        replace Pv := hid (Pv.out.step b)
        replace RS := hid (RS.out.now b)
        replace G := hid (below_step G.out b)
        have lz52 := (show Below _ _ _ from b).size
        clear b
        obtain ⟨V53, hV⟩ : ∃ V53, w51.alloc mbox = V53 := ⟨_, rfl⟩
        obtain ⟨b, sz53⟩ := alo1 w51 mbox
        rw [hV] at b sz53
        replace Ma := hid (Ma.out.now b)
        replace Mu := hid (Mu.out.now b)
        replace Mo := hid (Mo.out.now b)
        replace Mp := hid (Mp.out.now b)
        replace Pa := hid (Pa.out.step b)
        replace Pu := hid (Pu.out.step b)
        replace Po := hid (Po.out.step b)
        replace Pp := hid (Pp.out.step b)
        replace Pv := hid (Pv.out.step b)
        replace RS := hid (RS.out.now b)
        replace G := hid (below_step G.out b)
        have lz54 := (show Below _ _ _ from b).size
        have Px : Hid (Cel V53 w51.heap.size 33 ([.int .i64 0, .int .i64 0, .slice none 0 0])) := by unfold Hid; rw [← hV]; exact Cel.new w51 _ _
        clear b
        have EV := hid hV
        clear hV
        go_wp2
        rw [EV.out]
        clear EV
        go_ret
        exact ⟨rfl, G.out⟩
    · have HFR := hid hfr
      clear hfr
      refine (matrix_yes (n := r) hr RS.out (by rw [EK.out]; have := KB.out; omega)).mono ?_
      rintro e w55 (⟨hyes, -⟩ | ⟨-, rfl, b⟩)
      · exact absurd hyes HFR.out
      replace Ma := hid (Ma.out.now b)
      replace Pa := hid (Pa.out.step b)
      replace RS := hid (RS.out.now b)
      replace G := hid (below_step G.out b)
      have lz56 := (show Below _ _ _ from b).size
      clear b
      obtain ⟨V57, hV⟩ : ∃ V57, w55.alloc mbox = V57 := ⟨_, rfl⟩
      obtain ⟨b, sz57⟩ := alo1 w55 mbox
      rw [hV] at b sz57
      replace Ma := hid (Ma.out.now b)
      replace Pa := hid (Pa.out.step b)
      replace RS := hid (RS.out.now b)
      replace G := hid (below_step G.out b)
      have lz58 := (show Below _ _ _ from b).size
      have Pu : Hid (Cel V57 w55.heap.size 33 ([.int .i64 0, .int .i64 0, .slice none 0 0])) := by unfold Hid; rw [← hV]; exact Cel.new w55 _ _
      clear b
      have ca0 := Pa.out.at (i := 0) rfl
      have ca1 := Pa.out.at (i := 1) rfl
      have ca2 := Pa.out.at (i := 2) rfl
      rw [← hV] at ca0 ca1 ca2
      have EV := hid hV
      clear hV
      go_wp2_with fail
      rw [EV.out]
      clear EV
      clear ca0 ca1 ca2
      refine (rows_yes Ma.out RS.out (by rw [EK.out]; have := KB.out; omega)).mono ?_
      rintro e w59 (⟨hyes, -⟩ | ⟨-, rfl, b⟩)
      · exact absurd hyes HFR.out
      replace Ma := hid (Ma.out.now b)
      replace Pa := hid (Pa.out.step b)
      replace Pu := hid (Pu.out.step b)
      replace RS := hid (RS.out.now b)
      replace G := hid (below_step G.out b)
      have lz60 := (show Below _ _ _ from b).size
      clear b
      obtain ⟨V61, hV⟩ : ∃ V61, w59.alloc mbox = V61 := ⟨_, rfl⟩
      obtain ⟨b, sz61⟩ := alo1 w59 mbox
      rw [hV] at b sz61
      replace Ma := hid (Ma.out.now b)
      replace Pa := hid (Pa.out.step b)
      replace Pu := hid (Pu.out.step b)
      replace RS := hid (RS.out.now b)
      replace G := hid (below_step G.out b)
      have lz62 := (show Below _ _ _ from b).size
      have Po : Hid (Cel V61 w59.heap.size 33 ([.int .i64 0, .int .i64 0, .slice none 0 0])) := by unfold Hid; rw [← hV]; exact Cel.new w59 _ _
      clear b
      have ca0 := Pa.out.at (i := 0) rfl
      have ca1 := Pa.out.at (i := 1) rfl
      have ca2 := Pa.out.at (i := 2) rfl
      rw [← hV] at ca0 ca1 ca2
      have EV := hid hV
      clear hV
      go_wp2_with fail
      rw [EV.out]
      clear EV
      clear ca0 ca1 ca2
      by_cases hfc : ∀ s ∈ rs, s.fit c
      · have HFC := hid hfc
        clear hfc
        refine (matrix_yes (n := c) hc RS.out (by rw [EK.out]; have := KB.out; omega)).mono ?_
        rintro e w63 (⟨-, v, rfl, hm, b⟩ | ⟨hno, -⟩)
        rotate_left
        · exact absurd HFC.out hno
        obtain ⟨av, qv, rfl, -, -⟩ := hm.mx.form
        replace Ma := hid (Ma.out.now b)
        replace Pa := hid (Pa.out.step b)
        replace Pu := hid (Pu.out.step b)
        replace Po := hid (Po.out.step b)
        replace RS := hid (RS.out.now b)
        replace G := hid (below_step G.out b)
        have lz64 := (show Below _ _ _ from b).size
        have Mv := hid hm
        clear hm b
        obtain ⟨V65, hV⟩ : ∃ V65, w63.alloc (matO c c (.slice av (c * c) qv)) = V65 := ⟨_, rfl⟩
        obtain ⟨b, sz65⟩ := alo1 w63 (matO c c (.slice av (c * c) qv))
        rw [hV] at b sz65
        replace Ma := hid (Ma.out.now b)
        replace Mv := hid (Mv.out.now b)
        replace Pa := hid (Pa.out.step b)
        replace Pu := hid (Pu.out.step b)
        replace Po := hid (Po.out.step b)
        replace RS := hid (RS.out.now b)
        replace G := hid (below_step G.out b)
        have lz66 := (show Below _ _ _ from b).size
        have Pv : Hid (Cel V65 w63.heap.size 33 (matc c c (.slice av (c * c) qv))) := by unfold Hid; rw [← hV]; exact Cel.new w63 _ _
        clear b
        have ca0 := Pa.out.at (i := 0) rfl
        have ca1 := Pa.out.at (i := 1) rfl
        have ca2 := Pa.out.at (i := 2) rfl
        rw [← hV] at ca0 ca1 ca2
        have EV := hid hV
        clear hV
        go_wp2_with fail
        rw [EV.out]
        clear EV
        clear ca0 ca1 ca2
        refine (cols_yes Ma.out RS.out (by rw [EK.out]; have := KB.out; omega)).mono ?_
        rintro e w67 (⟨-, v, rfl, hm, b⟩ | ⟨hno, -⟩)
        rotate_left
        · exact absurd HFC.out hno
        obtain ⟨ax, qx, rfl, -, -⟩ := hm.mx.form
        replace Ma := hid (Ma.out.now b)
        replace Mv := hid (Mv.out.now b)
        replace Pa := hid (Pa.out.step b)
        replace Pu := hid (Pu.out.step b)
        replace Po := hid (Po.out.step b)
        replace Pv := hid (Pv.out.step b)
        replace RS := hid (RS.out.now b)
        replace G := hid (below_step G.out b)
        have lz68 := (show Below _ _ _ from b).size
        have Mx := hid hm
        clear hm b
        obtain ⟨V69, hV⟩ : ∃ V69, w67.alloc (matO r c (.slice ax (r * c) qx)) = V69 := ⟨_, rfl⟩
        obtain ⟨b, sz69⟩ := alo1 w67 (matO r c (.slice ax (r * c) qx))
        rw [hV] at b sz69
        replace Ma := hid (Ma.out.now b)
        replace Mv := hid (Mv.out.now b)
        replace Mx := hid (Mx.out.now b)
        replace Pa := hid (Pa.out.step b)
        replace Pu := hid (Pu.out.step b)
        replace Po := hid (Po.out.step b)
        replace Pv := hid (Pv.out.step b)
        replace RS := hid (RS.out.now b)
        replace G := hid (below_step G.out b)
        have lz70 := (show Below _ _ _ from b).size
        have Px : Hid (Cel V69 w67.heap.size 33 (matc r c (.slice ax (r * c) qx))) := by unfold Hid; rw [← hV]; exact Cel.new w67 _ _
        clear b
        have cv0 := Pv.out.at (i := 0) rfl
        have cv1 := Pv.out.at (i := 1) rfl
        have cv2 := Pv.out.at (i := 2) rfl
        rw [← hV] at cv0 cv1 cv2
        have EV := hid hV
        clear hV
        go_wp2_with fail
        rw [EV.out]
        clear EV
        clear cv0 cv1 cv2
        refine (turn_yes Mv.out.mx).mono ?_
        rintro e w71 ⟨v, rfl, hm, b⟩
        obtain ⟨ah, qh, rfl, -, -⟩ := hm.mx.form
        replace Ma := hid (Ma.out.now b)
        replace Mv := hid (Mv.out.now b)
        replace Mx := hid (Mx.out.now b)
        replace Pa := hid (Pa.out.step b)
        replace Pu := hid (Pu.out.step b)
        replace Po := hid (Po.out.step b)
        replace Pv := hid (Pv.out.step b)
        replace Px := hid (Px.out.step b)
        replace RS := hid (RS.out.now b)
        replace G := hid (below_step G.out b)
        have lz72 := (show Below _ _ _ from b).size
        have Mh := hid hm
        clear hm b
        obtain ⟨V73, hV⟩ : ∃ V73, w71.alloc (matO c c (.slice ah (c * c) qh)) = V73 := ⟨_, rfl⟩
        obtain ⟨b, sz73⟩ := alo1 w71 (matO c c (.slice ah (c * c) qh))
        rw [hV] at b sz73
        replace Ma := hid (Ma.out.now b)
        replace Mv := hid (Mv.out.now b)
        replace Mx := hid (Mx.out.now b)
        replace Mh := hid (Mh.out.now b)
        replace Pa := hid (Pa.out.step b)
        replace Pu := hid (Pu.out.step b)
        replace Po := hid (Po.out.step b)
        replace Pv := hid (Pv.out.step b)
        replace Px := hid (Px.out.step b)
        replace RS := hid (RS.out.now b)
        replace G := hid (below_step G.out b)
        have lz74 := (show Below _ _ _ from b).size
        have Ph : Hid (Cel V73 w71.heap.size 33 (matc c c (.slice ah (c * c) qh))) := by unfold Hid; rw [← hV]; exact Cel.new w71 _ _
        clear b
        have ca0 := Pa.out.at (i := 0) rfl
        have ca1 := Pa.out.at (i := 1) rfl
        have ca2 := Pa.out.at (i := 2) rfl
        have ch0 := Ph.out.at (i := 0) rfl
        have ch1 := Ph.out.at (i := 1) rfl
        have ch2 := Ph.out.at (i := 2) rfl
        rw [← hV] at ca0 ca1 ca2 ch0 ch1 ch2
        have EV := hid hV
        clear hV
        go_wp2_with fail
        rw [EV.out]
        clear EV
        clear ca0 ca1 ca2 ch0 ch1 ch2
        refine (mul_yes Ma.out Mh.out.mx (by rw [EK.out]; have := KB.out; omega)).mono ?_
        rintro e w75 ⟨v, rfl, hm, b⟩
        obtain ⟨ay, qy, rfl, -, -⟩ := hm.mx.form
        replace Ma := hid (Ma.out.now b)
        replace Mv := hid (Mv.out.now b)
        replace Mx := hid (Mx.out.now b)
        replace Mh := hid (Mh.out.now b)
        replace Pa := hid (Pa.out.step b)
        replace Pu := hid (Pu.out.step b)
        replace Po := hid (Po.out.step b)
        replace Pv := hid (Pv.out.step b)
        replace Px := hid (Px.out.step b)
        replace Ph := hid (Ph.out.step b)
        replace RS := hid (RS.out.now b)
        replace G := hid (below_step G.out b)
        have lz76 := (show Below _ _ _ from b).size
        have My := hid hm
        clear hm b
        obtain ⟨V77, hV⟩ : ∃ V77, w75.alloc (matO r c (.slice ay (r * c) qy)) = V77 := ⟨_, rfl⟩
        obtain ⟨b, sz77⟩ := alo1 w75 (matO r c (.slice ay (r * c) qy))
        rw [hV] at b sz77
        replace Ma := hid (Ma.out.now b)
        replace Mv := hid (Mv.out.now b)
        replace Mx := hid (Mx.out.now b)
        replace Mh := hid (Mh.out.now b)
        replace My := hid (My.out.now b)
        replace Pa := hid (Pa.out.step b)
        replace Pu := hid (Pu.out.step b)
        replace Po := hid (Po.out.step b)
        replace Pv := hid (Pv.out.step b)
        replace Px := hid (Px.out.step b)
        replace Ph := hid (Ph.out.step b)
        replace RS := hid (RS.out.now b)
        replace G := hid (below_step G.out b)
        have lz78 := (show Below _ _ _ from b).size
        have Py : Hid (Cel V77 w75.heap.size 33 (matc r c (.slice ay (r * c) qy))) := by unfold Hid; rw [← hV]; exact Cel.new w75 _ _
        clear b
        have cx0 := Px.out.at (i := 0) rfl
        have cx1 := Px.out.at (i := 1) rfl
        have cx2 := Px.out.at (i := 2) rfl
        have cy0 := Py.out.at (i := 0) rfl
        have cy1 := Py.out.at (i := 1) rfl
        have cy2 := Py.out.at (i := 2) rfl
        rw [← hV] at cx0 cx1 cx2 cy0 cy1 cy2
        have EV := hid hV
        clear hV
        go_wp2_with fail
        rw [EV.out]
        clear EV
        clear cx0 cx1 cx2 cy0 cy1 cy2
        refine (equal11_yes Mx.out My.out (cols_prod HZL.out (sts_fit HFC.out))).mono ?_
        rintro e w79 ⟨rfl, b⟩
        replace Ma := hid (Ma.out.now b)
        replace Mv := hid (Mv.out.now b)
        replace Mx := hid (Mx.out.now b)
        replace Mh := hid (Mh.out.now b)
        replace My := hid (My.out.now b)
        replace Pa := hid (Pa.out.step b)
        replace Pu := hid (Pu.out.step b)
        replace Po := hid (Po.out.step b)
        replace Pv := hid (Pv.out.step b)
        replace Px := hid (Px.out.step b)
        replace Ph := hid (Ph.out.step b)
        replace Py := hid (Py.out.step b)
        replace RS := hid (RS.out.now b)
        replace G := hid (below_step G.out b)
        have lz80 := (show Below _ _ _ from b).size
        clear b
        go_wp2
        go_ret
        exact ⟨rfl, G.out⟩
      · have HFC := hid hfc
        clear hfc
        refine (matrix_yes (n := c) hc RS.out (by rw [EK.out]; have := KB.out; omega)).mono ?_
        rintro e w81 (⟨hyes, -⟩ | ⟨-, rfl, b⟩)
        · exact absurd hyes HFC.out
        replace Ma := hid (Ma.out.now b)
        replace Pa := hid (Pa.out.step b)
        replace Pu := hid (Pu.out.step b)
        replace Po := hid (Po.out.step b)
        replace RS := hid (RS.out.now b)
        replace G := hid (below_step G.out b)
        have lz82 := (show Below _ _ _ from b).size
        clear b
        obtain ⟨V83, hV⟩ : ∃ V83, w81.alloc mbox = V83 := ⟨_, rfl⟩
        obtain ⟨b, sz83⟩ := alo1 w81 mbox
        rw [hV] at b sz83
        replace Ma := hid (Ma.out.now b)
        replace Pa := hid (Pa.out.step b)
        replace Pu := hid (Pu.out.step b)
        replace Po := hid (Po.out.step b)
        replace RS := hid (RS.out.now b)
        replace G := hid (below_step G.out b)
        have lz84 := (show Below _ _ _ from b).size
        have Pv : Hid (Cel V83 w81.heap.size 33 ([.int .i64 0, .int .i64 0, .slice none 0 0])) := by unfold Hid; rw [← hV]; exact Cel.new w81 _ _
        clear b
        have ca0 := Pa.out.at (i := 0) rfl
        have ca1 := Pa.out.at (i := 1) rfl
        have ca2 := Pa.out.at (i := 2) rfl
        rw [← hV] at ca0 ca1 ca2
        have EV := hid hV
        clear hV
        go_wp2_with fail
        rw [EV.out]
        clear EV
        clear ca0 ca1 ca2
        refine (cols_yes Ma.out RS.out (by rw [EK.out]; have := KB.out; omega)).mono ?_
        rintro e w85 (⟨hyes, -⟩ | ⟨-, rfl, b⟩)
        · exact absurd hyes HFC.out
        replace Ma := hid (Ma.out.now b)
        replace Pa := hid (Pa.out.step b)
        replace Pu := hid (Pu.out.step b)
        replace Po := hid (Po.out.step b)
        replace Pv := hid (Pv.out.step b)
        replace RS := hid (RS.out.now b)
        replace G := hid (below_step G.out b)
        have lz86 := (show Below _ _ _ from b).size
        clear b
        obtain ⟨V87, hV⟩ : ∃ V87, w85.alloc mbox = V87 := ⟨_, rfl⟩
        obtain ⟨b, sz87⟩ := alo1 w85 mbox
        rw [hV] at b sz87
        replace Ma := hid (Ma.out.now b)
        replace Pa := hid (Pa.out.step b)
        replace Pu := hid (Pu.out.step b)
        replace Po := hid (Po.out.step b)
        replace Pv := hid (Pv.out.step b)
        replace RS := hid (RS.out.now b)
        replace G := hid (below_step G.out b)
        have lz88 := (show Below _ _ _ from b).size
        have Px : Hid (Cel V87 w85.heap.size 33 ([.int .i64 0, .int .i64 0, .slice none 0 0])) := by unfold Hid; rw [← hV]; exact Cel.new w85 _ _
        clear b
        have EV := hid hV
        clear hV
        go_wp2
        rw [EV.out]
        clear EV
        go_ret
        exact ⟨rfl, G.out⟩
  · skip
    obtain ⟨L, hL⟩ : ∃ L, rs.length = L := ⟨_, rfl⟩
    rw [hL]
    obtain ⟨W0, hW⟩ : ∃ W0, w.alloc (.cells #[.int .i64 r, .int .i64 c, .slice aa l qa] 33) = W0 := ⟨_, rfl⟩
    obtain ⟨b0, sz0⟩ := alo1 w (.cells #[.int .i64 r, .int .i64 c, .slice aa l qa] 33)
    rw [hW] at b0 sz0
    have Pa : Hid (Cel W0 w.heap.size 33 [.int .i64 r, .int .i64 c, .slice aa l qa]) := by unfold Hid; rw [← hW]; exact Cel.new _ _ _
    have G := hid b0
    have EW := hid hW
    have HSN := hid hsnd
    clear ha hs hzl hsnd b0 hW hL
    go_enter Try.func4, Try.ntmps4
    go_wp2_with fail
    rw [EW.out]
    clear EW
    refine (awake11 _).mono ?_
    rintro e w11 ⟨rfl, b⟩
    replace Pa := hid (Pa.out.step b)
    replace G := hid (below_step G.out b)
    have lz12 := (show Below _ _ _ from b).size
    clear b
    have ca0 := Pa.out.at (i := 0) rfl
    have ca1 := Pa.out.at (i := 1) rfl
    have ca2 := Pa.out.at (i := 2) rfl
    go_wp2_with fail
    clear ca0 ca1 ca2
    refine (rcheck11).mono ?_
    rintro e w13 ⟨he, b⟩
    rw [if_neg HSN.out] at he
    subst he
    replace Pa := hid (Pa.out.step b)
    replace G := hid (below_step G.out b)
    have lz14 := (show Below _ _ _ from b).size
    clear b
    have ca0 := Pa.out.at (i := 0) rfl
    have ca1 := Pa.out.at (i := 1) rfl
    have ca2 := Pa.out.at (i := 2) rfl
    go_wp2_with fail
    clear ca0 ca1 ca2
    refine (rows_no HSN.out).mono ?_
    rintro e w15 ⟨rfl, b⟩
    replace Pa := hid (Pa.out.step b)
    replace G := hid (below_step G.out b)
    have lz16 := (show Below _ _ _ from b).size
    clear b
    obtain ⟨V17, hV⟩ : ∃ V17, w15.alloc mbox = V17 := ⟨_, rfl⟩
    obtain ⟨b, sz17⟩ := alo1 w15 mbox
    rw [hV] at b sz17
    replace Pa := hid (Pa.out.step b)
    replace G := hid (below_step G.out b)
    have lz18 := (show Below _ _ _ from b).size
    have Pu : Hid (Cel V17 w15.heap.size 33 ([.int .i64 0, .int .i64 0, .slice none 0 0])) := by unfold Hid; rw [← hV]; exact Cel.new w15 _ _
    clear b
    have ca0 := Pa.out.at (i := 0) rfl
    have ca1 := Pa.out.at (i := 1) rfl
    have ca2 := Pa.out.at (i := 2) rfl
    rw [← hV] at ca0 ca1 ca2
    have EV := hid hV
    clear hV
    go_wp2_with fail
    rw [EV.out]
    clear EV
    clear ca0 ca1 ca2
    refine (cols_no HSN.out).mono ?_
    rintro e w19 ⟨rfl, b⟩
    replace Pa := hid (Pa.out.step b)
    replace Pu := hid (Pu.out.step b)
    replace G := hid (below_step G.out b)
    have lz20 := (show Below _ _ _ from b).size
    clear b
    obtain ⟨V21, hV⟩ : ∃ V21, w19.alloc mbox = V21 := ⟨_, rfl⟩
    obtain ⟨b, sz21⟩ := alo1 w19 mbox
    rw [hV] at b sz21
    replace Pa := hid (Pa.out.step b)
    replace Pu := hid (Pu.out.step b)
    replace G := hid (below_step G.out b)
    have lz22 := (show Below _ _ _ from b).size
    have Po : Hid (Cel V21 w19.heap.size 33 ([.int .i64 0, .int .i64 0, .slice none 0 0])) := by unfold Hid; rw [← hV]; exact Cel.new w19 _ _
    clear b
    have EV := hid hV
    clear hV
    go_wp2
    rw [EV.out]
    clear EV
    go_ret
    exact ⟨rfl, G.out⟩
end Go.Proofs.Ytbalcjjeakdjkaa
