/-
  SdW10: the walk of SparseDense.
-/
import Derived.Test.YtachdicdfhfoaaaQDnsN10ToActC10
import Derived.Test.YtachdicdfhfoaaaQLaw10
import Derived.Test.YtachdicdfhfoaaaQAwake10ToCnt10
import Derived.Test.YtachdicdfhfoaaaQOf10ToTy9
namespace Go.Proofs.Ytachdicdfhfoaaa
open Go.RowKit
set_option linter.unusedVariables false
set_option linter.unusedSimpArgs false

def SdH (w : World) (g db r c la len gk : Nat) (s6 s9 : Value) (wx : World) : Prop :=
  ∃ (t b k : Nat) (F : Nat → Nat → Int) (ad : Option Addr) (cd : Nat) (E : Int), gk = len - t ∧ s6 = .int .i64 E ∧ s9 = .int .i64 (t : Int) ∧ t ≤ len ∧ k ≤ 1048576 + t * 1048700 ∧ Gq wx g b r c F k ∧ w.heap.size ≤ b ∧ Cel wx db 24 (matc r c (.slice ad la cd)) ∧ Mc wx (matv r c (.slice ad la cd)) r c (dnL r c F) k ∧ Below w.heap.size w wx
theorem SdH.next {w w4 : World} {g db r c la len t b k : Nat} {F : Nat → Nat → Int} {ad a5 : Option Addr} {cd q5 : Nat} {E : Int} (ht : t < len) (hk : k ≤ 1048576 + (t + 1) * 1048700) (hq : Gq w4 g b r c F k) (hb : w.heap.size ≤ b) (hd : Cel w4 db 24 (matc r c (.slice ad la cd))) (hm : Mc w4 (matv r c (.slice a5 la q5)) r c (dnL r c F) k) (hw : Below w.heap.size w w4) (hdb : w.heap.size ≤ db) :
    SdH w g db r c la len (len - (t + 1)) (.int .i64 E) (.int .i64 ((t + 1 : Nat) : Int)) (put3 w4 db (.int .i64 (r : Int)) (.int .i64 (c : Int)) (.slice a5 la q5)) :=
  ⟨t + 1, b, k, F, a5, q5, E, rfl, rfl, rfl, by omega, hk, hq.off3 hd _ _ _, hb, hd.put3 _ _ _, hm.wk hd _ _ _, below_put3 hw hdb _ _ _⟩
set_option maxRecDepth 100000 in
set_option maxHeartbeats 12800000 in
theorem sparseDense_yes {w : World} {v : Value} {r c len cap : Nat} {zs : List Int} {a : Option Addr} (MA : Mx w v r c zs 1048576) (ac : Acts10 w a len cap) :
    Calls Try.prog 3 #[v, .slice a len cap] w fun e w' => e = .returned (.bool true) ∧ Below w.heap.size w w' := by
  have M0 := hid MA
  have AC := hid ac
  have hlen := ac.2.1
  have hcap := ac.1
  have HZL : Hid (zs.length = r * c) := by obtain ⟨_, _, _, _, _, q, _⟩ := MA; exact q
  obtain ⟨aa, ca, rfl, hr, hc⟩ := MA.form
  obtain ⟨la, hla⟩ : ∃ la, r * c = la := ⟨_, rfl⟩
  rw [hla] at M0 ⊢
  have HLA := hid hla
  clear hla MA ac
  obtain ⟨W0, hW⟩ : ∃ W0, w.alloc (matO r c (.slice aa la ca)) = W0 := ⟨_, rfl⟩
  obtain ⟨b0, sz0⟩ := alo1 w (matO r c (.slice aa la ca))
  rw [hW] at b0 sz0
  have P2 : Hid (Cel W0 w.heap.size 24 (matc r c (.slice aa la ca))) := by unfold Hid; rw [← hW]; exact Cel.new w _ _
  have B0 := hid b0
  have EW := hid hW
  clear b0 sz0 hW
  go_enter Try.func3, Try.ntmps3
  go_wp2_with fail
  rw [EW.out]
  refine (awake10 W0).mono ?_
  rintro e w1 ⟨rfl, q⟩
  have G := hid q
  clear q EW
  have x0 := (P2.out.step G.out).at (i := 0) rfl
  have x1 := (P2.out.step G.out).at (i := 1) rfl
  have x2 := (P2.out.step G.out).at (i := 2) rfl
  go_wp2_with fail
  refine (of_any (M0.out.now (below_step B0.out G.out))).mono ?_
  rintro e w2 ⟨g, b, rfl, hq, hg, hb, q⟩
  have GG : Hid (w.heap.size ≤ g ∧ w.heap.size ≤ b) := by unfold Hid; have h1 := B0.out.size; have h2 := G.out.size; omega
  have Q := hid hq
  replace G := hid (below_step G.out q)
  clear hq hg hb q x0 x1 x2
  have x0 := (P2.out.step G.out).at (i := 0) rfl
  have x1 := (P2.out.step G.out).at (i := 1) rfl
  have x2 := (P2.out.step G.out).at (i := 2) rfl
  go_wp2_with fail
  refine (least_yes9 (M0.out.now (below_step B0.out G.out))).mono ?_
  rintro e w3 ⟨v3, rfl, hm, q⟩
  obtain ⟨a3, q3, rfl, -, -⟩ := hm.mx.form
  rw [HLA.out] at hm ⊢
  obtain ⟨V4, hV⟩ : ∃ V4, w3.alloc (matO r c (.slice a3 la q3)) = V4 := ⟨_, rfl⟩
  obtain ⟨b4, sz4⟩ := alo1 w3 (matO r c (.slice a3 la q3))
  rw [hV] at b4 sz4
  have HDB : Hid (w.heap.size ≤ w3.heap.size) := by unfold Hid; have h1 := B0.out.size; have h2 := G.out.size; have h3 := q.size; omega
  have pd : Cel V4 w3.heap.size 24 (matc r c (.slice a3 la q3)) := by rw [← hV]; exact Cel.new w3 _ _
  have HEQ : Hid (dnL r c (ofF c zs (r * c)) = zs) := dn_of HZL.out
  have H0 : Hid (SdH w g w3.heap.size r c la len len (.int .i64 0) (.int .i64 0) V4) := ⟨0, b, 1048576, ofF c zs (r * c), a3, q3, 0, rfl, rfl, rfl, Nat.zero_le _, by omega, (Q.out.now q).now b4, GG.out.2, pd, by rw [HEQ.out]; exact hm.now b4, below_step (below_step B0.out G.out) (below_step q b4)⟩
  have HGG : Hid (w.heap.size ≤ g) := GG.out.1
  have EV := hid hV
  clear hm b4 sz4 hV pd q x0 x1 x2 Q G P2 B0 M0 HEQ GG HZL
  go_wp2_with fail
  rw [EV.out]
  clear EV
  generalize w3.heap.size = db at *
  go_loopg [6, 9] len (fun gk s6 s9 wx => SdH w g db r c la len gk s6 s9 wx)
  case atStart => exact H0.out
  case round =>
    clear H0
    obtain ⟨t, b, k, F, ad, cd, E, hgk, rfl, rfl, ht, hk, hq, hb, hd, hm, hw⟩ := hrel
    have HGK := hid hgk
    have HKK := hid hk
    have Q := hid hq
    have HB := hid hb
    have PD := hid hd
    have M := hid hm
    have G := hid hw
    clear hgk hk hq hb hd hm hw
    by_cases hlt : t < len
    · have hlt' : (t : Int) < (len : Int) := by omega
      have hwt := wrapI9 (i := t) (by omega)
      have HMM : Hid (len - (t + 1) < gk) := by unfold Hid; rw [HGK.out]; omega
      have HK1 : Hid (k < 17592186044416) := by unfold Hid; have := HKK.out; omega
      have HK2 : Hid (k + 1048700 ≤ 1048576 + (t + 1) * 1048700) := by unfold Hid; have := HKK.out; omega
      rcases (AC.out.now G.out).2.2 with e | ⟨ba, off, rfl, hba, hcell⟩
      · omega
      obtain ⟨kind, I, J, nv, av, lv, cv, z, c0, c1, c2, c3, c4, hz⟩ := hcell t hlt
      have Z := hid hz
      clear hcell hz HGK
      have x0 := PD.out.at (i := 0) rfl
      have x1 := PD.out.at (i := 1) rfl
      have x2 := PD.out.at (i := 2) rfl
      by_cases k5 : kind = 5
      · subst k5
        obtain ⟨V1, hV1⟩ : ∃ V1, wr.alloc (.cells #[.int .i64 5, .int .i64 I, .int .i64 J, .bool nv, .slice av lv cv] 37) = V1 := ⟨_, rfl⟩
        obtain ⟨b1, sz1⟩ := alo1 wr (.cells #[.int .i64 5, .int .i64 I, .int .i64 J, .bool nv, .slice av lv cv] 37)
        rw [hV1] at b1 sz1
        have PA : Hid (Cel V1 wr.heap.size 37 [.int .i64 5, .int .i64 I, .int .i64 J, .bool nv, .slice av lv cv]) := by unfold Hid; rw [← hV1]; exact Cel.new wr _ _
        replace Q := hid (Q.out.now b1)
        replace PD := hid (PD.out.step b1)
        replace M := hid (M.out.now b1)
        replace G := hid (below_step G.out b1)
        replace Z := hid (Z.out.now b1)
        clear x0 x1 x2
        have x0 := PD.out.at (i := 0) rfl
        have x1 := PD.out.at (i := 1) rfl
        have x2 := PD.out.at (i := 2) rfl
        have y0 := PA.out.at (i := 0) rfl
        have y1 := PA.out.at (i := 1) rfl
        have y2 := PA.out.at (i := 2) rfl
        have y3 := PA.out.at (i := 3) rfl
        have y4 := PA.out.at (i := 4) rfl
        rw [← hV1] at x0 x1 x2 y0 y1 y2 y3 y4
        have EV1 := hid hV1
        clear b1 sz1 hV1
        obtain ⟨o, hD, hG⟩ := act_set (I := I) (J := J) (nv := nv) (av := av) (lv := lv) (cv := cv) (z := z) hr hc F
        rcases o with _ | F2
        · skip
          have HD := hid (hD V1 (matv r c (.slice ad la cd)) k M.out HK1.out Z.out)
          clear hD
          go_wp2_with fail
          rw [EV1.out]
          refine HD.out.mono ?_
          rintro e w2 ⟨a5, q5, rfl, m5, q⟩
          rw [HLA.out] at m5 ⊢
          try simp only [Option.isSome_some, Option.isSome_none]
          obtain ⟨V3, hV3⟩ : ∃ V3, w2.alloc (matO r c (.slice a5 la q5)) = V3 := ⟨_, rfl⟩
          obtain ⟨b3, sz3⟩ := alo1 w2 (matO r c (.slice a5 la q5))
          rw [hV3] at b3 sz3
          have PN : Hid (Cel V3 w2.heap.size 24 (matc r c (.slice a5 la q5))) := by unfold Hid; rw [← hV3]; exact Cel.new w2 _ _
          have GB := hid (below_step q b3)
          replace Q := hid (Q.out.now GB.out)
          replace PD := hid (PD.out.step GB.out)
          replace PA := hid (PA.out.step GB.out)
          have M5 := hid (m5.now b3)
          replace G := hid (below_step G.out GB.out)
          have HG := hid (hG V3 g b k Q.out HK1.out (Z.out.now GB.out))
          clear x0 x1 x2 y0 y1 y2 y3 y4 HD m5 q M hG EV1
          have x0 := PD.out.at (i := 0) rfl
          have x1 := PD.out.at (i := 1) rfl
          have x2 := PD.out.at (i := 2) rfl
          have y0 := PA.out.at (i := 0) rfl
          have y1 := PA.out.at (i := 1) rfl
          have y2 := PA.out.at (i := 2) rfl
          have y3 := PA.out.at (i := 3) rfl
          have y4 := PA.out.at (i := 4) rfl
          rw [← hV3] at x0 x1 x2 y0 y1 y2 y3 y4
          have EV3 := hid hV3
          clear b3 sz3 hV3 GB
          go_wp2_with fail
          rw [EV3.out]
          refine HG.out.mono ?_
          rintro e w4 ⟨b6, rfl, q6, hb6, gf⟩
          try simp only [Option.isSome_some, Option.isSome_none, if_true, if_false, Bool.false_eq_true]
          have HB6 : Hid (w.heap.size ≤ b6) := by
            unfold Hid
            have h1 := HB.out
            have h2 := G.out.size
            rcases hb6 with e | e <;> omega
          have D6 := gf.cel Q.out PD.out (by decide)
          have N6 := gf.cel Q.out PN.out (by decide)
          have HN1 := hid (SdH.next (E := 3) hlt HK2.out q6 HB6.out D6 (M5.out.gf gf Q.out) (gf.low G.out HGG.out HB.out) HDB.out)
          clear x0 x1 x2 y0 y1 y2 y3 y4
          have x0 := D6.at (i := 0) rfl
          have x1 := D6.at (i := 1) rfl
          have x2 := D6.at (i := 2) rfl
          have f0 := D6.fz 0
          have f1 := D6.fz 1
          have f2 := D6.fz 2
          have y0 := N6.at (i := 0) rfl
          have y1 := N6.at (i := 1) rfl
          have y2 := N6.at (i := 2) rfl
          clear HG q6 hb6 gf D6 N6 M5 Q PD PA PN G Z EV3
          go_wp2_with fail
          go_roundg (len - (t + 1))
          case rel => exact HN1.out
          case measure => exact HMM.out
        · skip
          have HD := hid (hD V1 (matv r c (.slice ad la cd)) k M.out HK1.out Z.out)
          clear hD
          go_wp2_with fail
          rw [EV1.out]
          refine HD.out.mono ?_
          rintro e w2 ⟨a5, q5, rfl, m5, q⟩
          rw [HLA.out] at m5 ⊢
          try simp only [Option.isSome_some, Option.isSome_none]
          obtain ⟨V3, hV3⟩ : ∃ V3, w2.alloc (matO r c (.slice a5 la q5)) = V3 := ⟨_, rfl⟩
          obtain ⟨b3, sz3⟩ := alo1 w2 (matO r c (.slice a5 la q5))
          rw [hV3] at b3 sz3
          have PN : Hid (Cel V3 w2.heap.size 24 (matc r c (.slice a5 la q5))) := by unfold Hid; rw [← hV3]; exact Cel.new w2 _ _
          have GB := hid (below_step q b3)
          replace Q := hid (Q.out.now GB.out)
          replace PD := hid (PD.out.step GB.out)
          replace PA := hid (PA.out.step GB.out)
          have M5 := hid (m5.now b3)
          replace G := hid (below_step G.out GB.out)
          have HG := hid (hG V3 g b k Q.out HK1.out (Z.out.now GB.out))
          clear x0 x1 x2 y0 y1 y2 y3 y4 HD m5 q M hG EV1
          have x0 := PD.out.at (i := 0) rfl
          have x1 := PD.out.at (i := 1) rfl
          have x2 := PD.out.at (i := 2) rfl
          have y0 := PA.out.at (i := 0) rfl
          have y1 := PA.out.at (i := 1) rfl
          have y2 := PA.out.at (i := 2) rfl
          have y3 := PA.out.at (i := 3) rfl
          have y4 := PA.out.at (i := 4) rfl
          rw [← hV3] at x0 x1 x2 y0 y1 y2 y3 y4
          have EV3 := hid hV3
          clear b3 sz3 hV3 GB
          go_wp2_with fail
          rw [EV3.out]
          refine HG.out.mono ?_
          rintro e w4 ⟨b6, rfl, q6, hb6, gf⟩
          try simp only [Option.isSome_some, Option.isSome_none, if_true, if_false, Bool.false_eq_true]
          have HB6 : Hid (w.heap.size ≤ b6) := by
            unfold Hid
            have h1 := HB.out
            have h2 := G.out.size
            rcases hb6 with e | e <;> omega
          have D6 := gf.cel Q.out PD.out (by decide)
          have N6 := gf.cel Q.out PN.out (by decide)
          have HN1 := hid (SdH.next (E := 0) hlt HK2.out q6 HB6.out D6 (M5.out.gf gf Q.out) (gf.low G.out HGG.out HB.out) HDB.out)
          clear x0 x1 x2 y0 y1 y2 y3 y4
          have x0 := D6.at (i := 0) rfl
          have x1 := D6.at (i := 1) rfl
          have x2 := D6.at (i := 2) rfl
          have f0 := D6.fz 0
          have f1 := D6.fz 1
          have f2 := D6.fz 2
          have y0 := N6.at (i := 0) rfl
          have y1 := N6.at (i := 1) rfl
          have y2 := N6.at (i := 2) rfl
          clear HG q6 hb6 gf D6 N6 M5 Q PD PA PN G Z EV3
          go_wp2_with fail
          go_roundg (len - (t + 1))
          case rel => exact HN1.out
          case measure => exact HMM.out
      · have e5 : (kind == 5) = false := by simp [k5]
        by_cases k6 : kind = 6
        · subst k6
          obtain ⟨V1, hV1⟩ : ∃ V1, wr.alloc (.cells #[.int .i64 6, .int .i64 I, .int .i64 J, .bool nv, .slice av lv cv] 37) = V1 := ⟨_, rfl⟩
          obtain ⟨b1, sz1⟩ := alo1 wr (.cells #[.int .i64 6, .int .i64 I, .int .i64 J, .bool nv, .slice av lv cv] 37)
          rw [hV1] at b1 sz1
          have PA : Hid (Cel V1 wr.heap.size 37 [.int .i64 6, .int .i64 I, .int .i64 J, .bool nv, .slice av lv cv]) := by unfold Hid; rw [← hV1]; exact Cel.new wr _ _
          replace Q := hid (Q.out.now b1)
          replace PD := hid (PD.out.step b1)
          replace M := hid (M.out.now b1)
          replace G := hid (below_step G.out b1)
          replace Z := hid (Z.out.now b1)
          clear x0 x1 x2
          have x0 := PD.out.at (i := 0) rfl
          have x1 := PD.out.at (i := 1) rfl
          have x2 := PD.out.at (i := 2) rfl
          have y0 := PA.out.at (i := 0) rfl
          have y1 := PA.out.at (i := 1) rfl
          have y2 := PA.out.at (i := 2) rfl
          have y3 := PA.out.at (i := 3) rfl
          have y4 := PA.out.at (i := 4) rfl
          rw [← hV1] at x0 x1 x2 y0 y1 y2 y3 y4
          have EV1 := hid hV1
          clear b1 sz1 hV1
          obtain ⟨o, hD, hG⟩ := act_row (I := I) (J := J) (nv := nv) (av := av) (lv := lv) (cv := cv) (z := z) hr hc F
          rcases o with _ | F2
          · skip
            have HD := hid (hD V1 (matv r c (.slice ad la cd)) k M.out HK1.out Z.out)
            clear hD
            go_wp2_with fail
            rw [EV1.out]
            refine HD.out.mono ?_
            rintro e w2 ⟨a5, q5, rfl, m5, q⟩
            rw [HLA.out] at m5 ⊢
            try simp only [Option.isSome_some, Option.isSome_none]
            obtain ⟨V3, hV3⟩ : ∃ V3, w2.alloc (matO r c (.slice a5 la q5)) = V3 := ⟨_, rfl⟩
            obtain ⟨b3, sz3⟩ := alo1 w2 (matO r c (.slice a5 la q5))
            rw [hV3] at b3 sz3
            have PN : Hid (Cel V3 w2.heap.size 24 (matc r c (.slice a5 la q5))) := by unfold Hid; rw [← hV3]; exact Cel.new w2 _ _
            have GB := hid (below_step q b3)
            replace Q := hid (Q.out.now GB.out)
            replace PD := hid (PD.out.step GB.out)
            replace PA := hid (PA.out.step GB.out)
            have M5 := hid (m5.now b3)
            replace G := hid (below_step G.out GB.out)
            have HG := hid (hG V3 g b k Q.out HK1.out (Z.out.now GB.out))
            clear x0 x1 x2 y0 y1 y2 y3 y4 HD m5 q M hG EV1
            have x0 := PD.out.at (i := 0) rfl
            have x1 := PD.out.at (i := 1) rfl
            have x2 := PD.out.at (i := 2) rfl
            have y0 := PA.out.at (i := 0) rfl
            have y1 := PA.out.at (i := 1) rfl
            have y2 := PA.out.at (i := 2) rfl
            have y3 := PA.out.at (i := 3) rfl
            have y4 := PA.out.at (i := 4) rfl
            rw [← hV3] at x0 x1 x2 y0 y1 y2 y3 y4
            have EV3 := hid hV3
            clear b3 sz3 hV3 GB
            go_wp2_with fail
            rw [EV3.out]
            refine HG.out.mono ?_
            rintro e w4 ⟨b6, rfl, q6, hb6, gf⟩
            try simp only [Option.isSome_some, Option.isSome_none, if_true, if_false, Bool.false_eq_true]
            have HB6 : Hid (w.heap.size ≤ b6) := by
              unfold Hid
              have h1 := HB.out
              have h2 := G.out.size
              rcases hb6 with e | e <;> omega
            have D6 := gf.cel Q.out PD.out (by decide)
            have N6 := gf.cel Q.out PN.out (by decide)
            have HN1 := hid (SdH.next (E := 3) hlt HK2.out q6 HB6.out D6 (M5.out.gf gf Q.out) (gf.low G.out HGG.out HB.out) HDB.out)
            clear x0 x1 x2 y0 y1 y2 y3 y4
            have x0 := D6.at (i := 0) rfl
            have x1 := D6.at (i := 1) rfl
            have x2 := D6.at (i := 2) rfl
            have f0 := D6.fz 0
            have f1 := D6.fz 1
            have f2 := D6.fz 2
            have y0 := N6.at (i := 0) rfl
            have y1 := N6.at (i := 1) rfl
            have y2 := N6.at (i := 2) rfl
            clear HG q6 hb6 gf D6 N6 M5 Q PD PA PN G Z EV3
            go_wp2_with fail
            go_roundg (len - (t + 1))
            case rel => exact HN1.out
            case measure => exact HMM.out
          · skip
            have HD := hid (hD V1 (matv r c (.slice ad la cd)) k M.out HK1.out Z.out)
            clear hD
            go_wp2_with fail
            rw [EV1.out]
            refine HD.out.mono ?_
            rintro e w2 ⟨a5, q5, rfl, m5, q⟩
            rw [HLA.out] at m5 ⊢
            try simp only [Option.isSome_some, Option.isSome_none]
            obtain ⟨V3, hV3⟩ : ∃ V3, w2.alloc (matO r c (.slice a5 la q5)) = V3 := ⟨_, rfl⟩
            obtain ⟨b3, sz3⟩ := alo1 w2 (matO r c (.slice a5 la q5))
            rw [hV3] at b3 sz3
            have PN : Hid (Cel V3 w2.heap.size 24 (matc r c (.slice a5 la q5))) := by unfold Hid; rw [← hV3]; exact Cel.new w2 _ _
            have GB := hid (below_step q b3)
            replace Q := hid (Q.out.now GB.out)
            replace PD := hid (PD.out.step GB.out)
            replace PA := hid (PA.out.step GB.out)
            have M5 := hid (m5.now b3)
            replace G := hid (below_step G.out GB.out)
            have HG := hid (hG V3 g b k Q.out HK1.out (Z.out.now GB.out))
            clear x0 x1 x2 y0 y1 y2 y3 y4 HD m5 q M hG EV1
            have x0 := PD.out.at (i := 0) rfl
            have x1 := PD.out.at (i := 1) rfl
            have x2 := PD.out.at (i := 2) rfl
            have y0 := PA.out.at (i := 0) rfl
            have y1 := PA.out.at (i := 1) rfl
            have y2 := PA.out.at (i := 2) rfl
            have y3 := PA.out.at (i := 3) rfl
            have y4 := PA.out.at (i := 4) rfl
            rw [← hV3] at x0 x1 x2 y0 y1 y2 y3 y4
            have EV3 := hid hV3
            clear b3 sz3 hV3 GB
            go_wp2_with fail
            rw [EV3.out]
            refine HG.out.mono ?_
            rintro e w4 ⟨b6, rfl, q6, hb6, gf⟩
            try simp only [Option.isSome_some, Option.isSome_none, if_true, if_false, Bool.false_eq_true]
            have HB6 : Hid (w.heap.size ≤ b6) := by
              unfold Hid
              have h1 := HB.out
              have h2 := G.out.size
              rcases hb6 with e | e <;> omega
            have D6 := gf.cel Q.out PD.out (by decide)
            have N6 := gf.cel Q.out PN.out (by decide)
            have HN1 := hid (SdH.next (E := 0) hlt HK2.out q6 HB6.out D6 (M5.out.gf gf Q.out) (gf.low G.out HGG.out HB.out) HDB.out)
            clear x0 x1 x2 y0 y1 y2 y3 y4
            have x0 := D6.at (i := 0) rfl
            have x1 := D6.at (i := 1) rfl
            have x2 := D6.at (i := 2) rfl
            have f0 := D6.fz 0
            have f1 := D6.fz 1
            have f2 := D6.fz 2
            have y0 := N6.at (i := 0) rfl
            have y1 := N6.at (i := 1) rfl
            have y2 := N6.at (i := 2) rfl
            clear HG q6 hb6 gf D6 N6 M5 Q PD PA PN G Z EV3
            go_wp2_with fail
            go_roundg (len - (t + 1))
            case rel => exact HN1.out
            case measure => exact HMM.out
        · have e6 : (kind == 6) = false := by simp [k6]
          by_cases k7 : kind = 7
          · subst k7
            obtain ⟨V1, hV1⟩ : ∃ V1, wr.alloc (.cells #[.int .i64 7, .int .i64 I, .int .i64 J, .bool nv, .slice av lv cv] 37) = V1 := ⟨_, rfl⟩
            obtain ⟨b1, sz1⟩ := alo1 wr (.cells #[.int .i64 7, .int .i64 I, .int .i64 J, .bool nv, .slice av lv cv] 37)
            rw [hV1] at b1 sz1
            have PA : Hid (Cel V1 wr.heap.size 37 [.int .i64 7, .int .i64 I, .int .i64 J, .bool nv, .slice av lv cv]) := by unfold Hid; rw [← hV1]; exact Cel.new wr _ _
            replace Q := hid (Q.out.now b1)
            replace PD := hid (PD.out.step b1)
            replace M := hid (M.out.now b1)
            replace G := hid (below_step G.out b1)
            replace Z := hid (Z.out.now b1)
            clear x0 x1 x2
            have x0 := PD.out.at (i := 0) rfl
            have x1 := PD.out.at (i := 1) rfl
            have x2 := PD.out.at (i := 2) rfl
            have y0 := PA.out.at (i := 0) rfl
            have y1 := PA.out.at (i := 1) rfl
            have y2 := PA.out.at (i := 2) rfl
            have y3 := PA.out.at (i := 3) rfl
            have y4 := PA.out.at (i := 4) rfl
            rw [← hV1] at x0 x1 x2 y0 y1 y2 y3 y4
            have EV1 := hid hV1
            clear b1 sz1 hV1
            obtain ⟨o, hD, hG⟩ := act_swap (I := I) (J := J) (nv := nv) (av := av) (lv := lv) (cv := cv) (z := z) hr hc F
            rcases o with _ | F2
            · skip
              have HD := hid (hD V1 (matv r c (.slice ad la cd)) k M.out HK1.out Z.out)
              clear hD
              go_wp2_with fail
              rw [EV1.out]
              refine HD.out.mono ?_
              rintro e w2 ⟨a5, q5, rfl, m5, q⟩
              rw [HLA.out] at m5 ⊢
              try simp only [Option.isSome_some, Option.isSome_none]
              obtain ⟨V3, hV3⟩ : ∃ V3, w2.alloc (matO r c (.slice a5 la q5)) = V3 := ⟨_, rfl⟩
              obtain ⟨b3, sz3⟩ := alo1 w2 (matO r c (.slice a5 la q5))
              rw [hV3] at b3 sz3
              have PN : Hid (Cel V3 w2.heap.size 24 (matc r c (.slice a5 la q5))) := by unfold Hid; rw [← hV3]; exact Cel.new w2 _ _
              have GB := hid (below_step q b3)
              replace Q := hid (Q.out.now GB.out)
              replace PD := hid (PD.out.step GB.out)
              replace PA := hid (PA.out.step GB.out)
              have M5 := hid (m5.now b3)
              replace G := hid (below_step G.out GB.out)
              have HG := hid (hG V3 g b k Q.out HK1.out)
              clear x0 x1 x2 y0 y1 y2 y3 y4 HD m5 q M hG EV1
              have x0 := PD.out.at (i := 0) rfl
              have x1 := PD.out.at (i := 1) rfl
              have x2 := PD.out.at (i := 2) rfl
              have y0 := PA.out.at (i := 0) rfl
              have y1 := PA.out.at (i := 1) rfl
              have y2 := PA.out.at (i := 2) rfl
              have y3 := PA.out.at (i := 3) rfl
              have y4 := PA.out.at (i := 4) rfl
              rw [← hV3] at x0 x1 x2 y0 y1 y2 y3 y4
              have EV3 := hid hV3
              clear b3 sz3 hV3 GB
              go_wp2_with fail
              rw [EV3.out]
              refine HG.out.mono ?_
              rintro e w4 ⟨b6, rfl, q6, hb6, gf⟩
              try simp only [Option.isSome_some, Option.isSome_none, if_true, if_false, Bool.false_eq_true]
              have HB6 : Hid (w.heap.size ≤ b6) := by
                unfold Hid
                have h1 := HB.out
                have h2 := G.out.size
                rcases hb6 with e | e <;> omega
              have D6 := gf.cel Q.out PD.out (by decide)
              have N6 := gf.cel Q.out PN.out (by decide)
              have HN1 := hid (SdH.next (E := 3) hlt HK2.out q6 HB6.out D6 (M5.out.gf gf Q.out) (gf.low G.out HGG.out HB.out) HDB.out)
              clear x0 x1 x2 y0 y1 y2 y3 y4
              have x0 := D6.at (i := 0) rfl
              have x1 := D6.at (i := 1) rfl
              have x2 := D6.at (i := 2) rfl
              have f0 := D6.fz 0
              have f1 := D6.fz 1
              have f2 := D6.fz 2
              have y0 := N6.at (i := 0) rfl
              have y1 := N6.at (i := 1) rfl
              have y2 := N6.at (i := 2) rfl
              clear HG q6 hb6 gf D6 N6 M5 Q PD PA PN G Z EV3
              go_wp2_with fail
              go_roundg (len - (t + 1))
              case rel => exact HN1.out
              case measure => exact HMM.out
            · skip
              have HD := hid (hD V1 (matv r c (.slice ad la cd)) k M.out HK1.out Z.out)
              clear hD
              go_wp2_with fail
              rw [EV1.out]
              refine HD.out.mono ?_
              rintro e w2 ⟨a5, q5, rfl, m5, q⟩
              rw [HLA.out] at m5 ⊢
              try simp only [Option.isSome_some, Option.isSome_none]
              obtain ⟨V3, hV3⟩ : ∃ V3, w2.alloc (matO r c (.slice a5 la q5)) = V3 := ⟨_, rfl⟩
              obtain ⟨b3, sz3⟩ := alo1 w2 (matO r c (.slice a5 la q5))
              rw [hV3] at b3 sz3
              have PN : Hid (Cel V3 w2.heap.size 24 (matc r c (.slice a5 la q5))) := by unfold Hid; rw [← hV3]; exact Cel.new w2 _ _
              have GB := hid (below_step q b3)
              replace Q := hid (Q.out.now GB.out)
              replace PD := hid (PD.out.step GB.out)
              replace PA := hid (PA.out.step GB.out)
              have M5 := hid (m5.now b3)
              replace G := hid (below_step G.out GB.out)
              have HG := hid (hG V3 g b k Q.out HK1.out)
              clear x0 x1 x2 y0 y1 y2 y3 y4 HD m5 q M hG EV1
              have x0 := PD.out.at (i := 0) rfl
              have x1 := PD.out.at (i := 1) rfl
              have x2 := PD.out.at (i := 2) rfl
              have y0 := PA.out.at (i := 0) rfl
              have y1 := PA.out.at (i := 1) rfl
              have y2 := PA.out.at (i := 2) rfl
              have y3 := PA.out.at (i := 3) rfl
              have y4 := PA.out.at (i := 4) rfl
              rw [← hV3] at x0 x1 x2 y0 y1 y2 y3 y4
              have EV3 := hid hV3
              clear b3 sz3 hV3 GB
              go_wp2_with fail
              rw [EV3.out]
              refine HG.out.mono ?_
              rintro e w4 ⟨b6, rfl, q6, hb6, gf⟩
              try simp only [Option.isSome_some, Option.isSome_none, if_true, if_false, Bool.false_eq_true]
              have HB6 : Hid (w.heap.size ≤ b6) := by
                unfold Hid
                have h1 := HB.out
                have h2 := G.out.size
                rcases hb6 with e | e <;> omega
              have D6 := gf.cel Q.out PD.out (by decide)
              have N6 := gf.cel Q.out PN.out (by decide)
              have HN1 := hid (SdH.next (E := 0) hlt HK2.out q6 HB6.out D6 (M5.out.gf gf Q.out) (gf.low G.out HGG.out HB.out) HDB.out)
              clear x0 x1 x2 y0 y1 y2 y3 y4
              have x0 := D6.at (i := 0) rfl
              have x1 := D6.at (i := 1) rfl
              have x2 := D6.at (i := 2) rfl
              have f0 := D6.fz 0
              have f1 := D6.fz 1
              have f2 := D6.fz 2
              have y0 := N6.at (i := 0) rfl
              have y1 := N6.at (i := 1) rfl
              have y2 := N6.at (i := 2) rfl
              clear HG q6 hb6 gf D6 N6 M5 Q PD PA PN G Z EV3
              go_wp2_with fail
              go_roundg (len - (t + 1))
              case rel => exact HN1.out
              case measure => exact HMM.out
          · have e7 : (kind == 7) = false := by simp [k7]
            by_cases k8 : kind = 8
            · subst k8
              obtain ⟨V1, hV1⟩ : ∃ V1, wr.alloc (.cells #[.int .i64 8, .int .i64 I, .int .i64 J, .bool nv, .slice av lv cv] 37) = V1 := ⟨_, rfl⟩
              obtain ⟨b1, sz1⟩ := alo1 wr (.cells #[.int .i64 8, .int .i64 I, .int .i64 J, .bool nv, .slice av lv cv] 37)
              rw [hV1] at b1 sz1
              have PA : Hid (Cel V1 wr.heap.size 37 [.int .i64 8, .int .i64 I, .int .i64 J, .bool nv, .slice av lv cv]) := by unfold Hid; rw [← hV1]; exact Cel.new wr _ _
              replace Q := hid (Q.out.now b1)
              replace PD := hid (PD.out.step b1)
              replace M := hid (M.out.now b1)
              replace G := hid (below_step G.out b1)
              replace Z := hid (Z.out.now b1)
              clear x0 x1 x2
              have x0 := PD.out.at (i := 0) rfl
              have x1 := PD.out.at (i := 1) rfl
              have x2 := PD.out.at (i := 2) rfl
              have y0 := PA.out.at (i := 0) rfl
              have y1 := PA.out.at (i := 1) rfl
              have y2 := PA.out.at (i := 2) rfl
              have y3 := PA.out.at (i := 3) rfl
              have y4 := PA.out.at (i := 4) rfl
              rw [← hV1] at x0 x1 x2 y0 y1 y2 y3 y4
              have EV1 := hid hV1
              clear b1 sz1 hV1
              obtain ⟨o, hD, hG⟩ := act_clear (I := I) (J := J) (nv := nv) (av := av) (lv := lv) (cv := cv) (z := z) hr hc F
              rcases o with _ | F2
              · skip
                have HD := hid (hD V1 (matv r c (.slice ad la cd)) k M.out HK1.out Z.out)
                clear hD
                go_wp2_with fail
                rw [EV1.out]
                refine HD.out.mono ?_
                rintro e w2 ⟨a5, q5, rfl, m5, q⟩
                rw [HLA.out] at m5 ⊢
                try simp only [Option.isSome_some, Option.isSome_none]
                obtain ⟨V3, hV3⟩ : ∃ V3, w2.alloc (matO r c (.slice a5 la q5)) = V3 := ⟨_, rfl⟩
                obtain ⟨b3, sz3⟩ := alo1 w2 (matO r c (.slice a5 la q5))
                rw [hV3] at b3 sz3
                have PN : Hid (Cel V3 w2.heap.size 24 (matc r c (.slice a5 la q5))) := by unfold Hid; rw [← hV3]; exact Cel.new w2 _ _
                have GB := hid (below_step q b3)
                replace Q := hid (Q.out.now GB.out)
                replace PD := hid (PD.out.step GB.out)
                replace PA := hid (PA.out.step GB.out)
                have M5 := hid (m5.now b3)
                replace G := hid (below_step G.out GB.out)
                have HG := hid (hG V3 g b k Q.out HK1.out)
                clear x0 x1 x2 y0 y1 y2 y3 y4 HD m5 q M hG EV1
                have x0 := PD.out.at (i := 0) rfl
                have x1 := PD.out.at (i := 1) rfl
                have x2 := PD.out.at (i := 2) rfl
                have y0 := PA.out.at (i := 0) rfl
                have y1 := PA.out.at (i := 1) rfl
                have y2 := PA.out.at (i := 2) rfl
                have y3 := PA.out.at (i := 3) rfl
                have y4 := PA.out.at (i := 4) rfl
                rw [← hV3] at x0 x1 x2 y0 y1 y2 y3 y4
                have EV3 := hid hV3
                clear b3 sz3 hV3 GB
                go_wp2_with fail
                rw [EV3.out]
                refine HG.out.mono ?_
                rintro e w4 ⟨b6, rfl, q6, hb6, gf⟩
                try simp only [Option.isSome_some, Option.isSome_none, if_true, if_false, Bool.false_eq_true]
                have HB6 : Hid (w.heap.size ≤ b6) := by
                  unfold Hid
                  have h1 := HB.out
                  have h2 := G.out.size
                  rcases hb6 with e | e <;> omega
                have D6 := gf.cel Q.out PD.out (by decide)
                have N6 := gf.cel Q.out PN.out (by decide)
                have HN1 := hid (SdH.next (E := 3) hlt HK2.out q6 HB6.out D6 (M5.out.gf gf Q.out) (gf.low G.out HGG.out HB.out) HDB.out)
                clear x0 x1 x2 y0 y1 y2 y3 y4
                have x0 := D6.at (i := 0) rfl
                have x1 := D6.at (i := 1) rfl
                have x2 := D6.at (i := 2) rfl
                have f0 := D6.fz 0
                have f1 := D6.fz 1
                have f2 := D6.fz 2
                have y0 := N6.at (i := 0) rfl
                have y1 := N6.at (i := 1) rfl
                have y2 := N6.at (i := 2) rfl
                clear HG q6 hb6 gf D6 N6 M5 Q PD PA PN G Z EV3
                go_wp2_with fail
                go_roundg (len - (t + 1))
                case rel => exact HN1.out
                case measure => exact HMM.out
              · skip
                have HD := hid (hD V1 (matv r c (.slice ad la cd)) k M.out HK1.out Z.out)
                clear hD
                go_wp2_with fail
                rw [EV1.out]
                refine HD.out.mono ?_
                rintro e w2 ⟨a5, q5, rfl, m5, q⟩
                rw [HLA.out] at m5 ⊢
                try simp only [Option.isSome_some, Option.isSome_none]
                obtain ⟨V3, hV3⟩ : ∃ V3, w2.alloc (matO r c (.slice a5 la q5)) = V3 := ⟨_, rfl⟩
                obtain ⟨b3, sz3⟩ := alo1 w2 (matO r c (.slice a5 la q5))
                rw [hV3] at b3 sz3
                have PN : Hid (Cel V3 w2.heap.size 24 (matc r c (.slice a5 la q5))) := by unfold Hid; rw [← hV3]; exact Cel.new w2 _ _
                have GB := hid (below_step q b3)
                replace Q := hid (Q.out.now GB.out)
                replace PD := hid (PD.out.step GB.out)
                replace PA := hid (PA.out.step GB.out)
                have M5 := hid (m5.now b3)
                replace G := hid (below_step G.out GB.out)
                have HG := hid (hG V3 g b k Q.out HK1.out)
                clear x0 x1 x2 y0 y1 y2 y3 y4 HD m5 q M hG EV1
                have x0 := PD.out.at (i := 0) rfl
                have x1 := PD.out.at (i := 1) rfl
                have x2 := PD.out.at (i := 2) rfl
                have y0 := PA.out.at (i := 0) rfl
                have y1 := PA.out.at (i := 1) rfl
                have y2 := PA.out.at (i := 2) rfl
                have y3 := PA.out.at (i := 3) rfl
                have y4 := PA.out.at (i := 4) rfl
                rw [← hV3] at x0 x1 x2 y0 y1 y2 y3 y4
                have EV3 := hid hV3
                clear b3 sz3 hV3 GB
                go_wp2_with fail
                rw [EV3.out]
                refine HG.out.mono ?_
                rintro e w4 ⟨b6, rfl, q6, hb6, gf⟩
                try simp only [Option.isSome_some, Option.isSome_none, if_true, if_false, Bool.false_eq_true]
                have HB6 : Hid (w.heap.size ≤ b6) := by
                  unfold Hid
                  have h1 := HB.out
                  have h2 := G.out.size
                  rcases hb6 with e | e <;> omega
                have D6 := gf.cel Q.out PD.out (by decide)
                have N6 := gf.cel Q.out PN.out (by decide)
                have HN1 := hid (SdH.next (E := 0) hlt HK2.out q6 HB6.out D6 (M5.out.gf gf Q.out) (gf.low G.out HGG.out HB.out) HDB.out)
                clear x0 x1 x2 y0 y1 y2 y3 y4
                have x0 := D6.at (i := 0) rfl
                have x1 := D6.at (i := 1) rfl
                have x2 := D6.at (i := 2) rfl
                have f0 := D6.fz 0
                have f1 := D6.fz 1
                have f2 := D6.fz 2
                have y0 := N6.at (i := 0) rfl
                have y1 := N6.at (i := 1) rfl
                have y2 := N6.at (i := 2) rfl
                clear HG q6 hb6 gf D6 N6 M5 Q PD PA PN G Z EV3
                go_wp2_with fail
                go_roundg (len - (t + 1))
                case rel => exact HN1.out
                case measure => exact HMM.out
            · have e8 : (kind == 8) = false := by simp [k8]
              obtain ⟨V1, hV1⟩ : ∃ V1, wr.alloc (.cells #[.int .i64 kind, .int .i64 I, .int .i64 J, .bool nv, .slice av lv cv] 37) = V1 := ⟨_, rfl⟩
              obtain ⟨b1, sz1⟩ := alo1 wr (.cells #[.int .i64 kind, .int .i64 I, .int .i64 J, .bool nv, .slice av lv cv] 37)
              rw [hV1] at b1 sz1
              have PA : Hid (Cel V1 wr.heap.size 37 [.int .i64 kind, .int .i64 I, .int .i64 J, .bool nv, .slice av lv cv]) := by unfold Hid; rw [← hV1]; exact Cel.new wr _ _
              replace Q := hid (Q.out.now b1)
              replace PD := hid (PD.out.step b1)
              replace M := hid (M.out.now b1)
              replace G := hid (below_step G.out b1)
              replace Z := hid (Z.out.now b1)
              clear x0 x1 x2
              have x0 := PD.out.at (i := 0) rfl
              have x1 := PD.out.at (i := 1) rfl
              have x2 := PD.out.at (i := 2) rfl
              have y0 := PA.out.at (i := 0) rfl
              have y1 := PA.out.at (i := 1) rfl
              have y2 := PA.out.at (i := 2) rfl
              have y3 := PA.out.at (i := 3) rfl
              have y4 := PA.out.at (i := 4) rfl
              rw [← hV1] at x0 x1 x2 y0 y1 y2 y3 y4
              have EV1 := hid hV1
              clear b1 sz1 hV1
              have HD := hid (act_none (I := I) (J := J) (nv := nv) (av := av) (lv := lv) (cv := cv) hr hc F e5 e8 e6 M.out)
              clear k5 k6 k7 k8
              go_wp2_with fail
              rw [EV1.out]
              refine HD.out.mono ?_
              rintro e w2 ⟨xx, yx, ax, lx, qx, ok, rfl, q⟩
              obtain ⟨V3, hV3⟩ : ∃ V3, w2.alloc (.cells #[.int .i64 xx, .int .i64 yx, .slice ax lx qx] 24) = V3 := ⟨_, rfl⟩
              obtain ⟨b3, sz3⟩ := alo1 w2 (.cells #[.int .i64 xx, .int .i64 yx, .slice ax lx qx] 24)
              obtain ⟨b5, sz5⟩ := alo1 w2 (matO r c (.slice ad la cd))
              rw [hV3] at b3 sz3
              have GB := hid (below_step q b3)
              have GC := hid (below_step q b5)
              have hne : db ≠ w2.heap.size := by have h1 := PD.out.blk; have h2 := (show Below _ _ _ from q).size; omega
              have HN1 := hid (SdH.next (E := 0) hlt (by have := HK2.out; omega) (Q.out.now GC.out) HB.out (PD.out.step GC.out) (M.out.now GC.out) (below_step G.out GC.out) HDB.out)
              have pc := PD.out.step GC.out
              replace PD := hid (PD.out.step GB.out)
              replace PA := hid (PA.out.step GB.out)
              clear x0 x1 x2 y0 y1 y2 y3 y4 HD q EV1
              have z0 := pc.at (i := 0) rfl
              have z1 := pc.at (i := 1) rfl
              have z2 := pc.at (i := 2) rfl
              have f3 := pc.fz 0
              have f4 := pc.fz 1
              have f5 := pc.fz 2
              have x0 := PD.out.at (i := 0) rfl
              have x1 := PD.out.at (i := 1) rfl
              have x2 := PD.out.at (i := 2) rfl
              have f0 := PD.out.fz 0
              have f1 := PD.out.fz 1
              have f2 := PD.out.fz 2
              have y0 := PA.out.at (i := 0) rfl
              rw [← hV3] at x0 x1 x2 y0 f0 f1 f2
              clear b3 sz3 b5 sz5 hV3 GB GC Q PD PA M G Z pc
              go_wp2_with fail
              go_roundg (len - (t + 1))
              case rel => exact HN1.out
              case measure => exact HMM.out
    · have hlt' : ¬ (t : Int) < (len : Int) := by omega
      have HD := hid (dense_any Q.out hr hc)
      go_wp2_with fail
      refine HD.out.mono ?_
      rintro e w2 ⟨v8, rfl, m8, q⟩
      obtain ⟨a8, q8, rfl, -, -⟩ := m8.mx.form
      rw [HLA.out] at m8 ⊢
      obtain ⟨V3, hV3⟩ : ∃ V3, w2.alloc (matO r c (.slice a8 la q8)) = V3 := ⟨_, rfl⟩
      obtain ⟨b3, sz3⟩ := alo1 w2 (matO r c (.slice a8 la q8))
      rw [hV3] at b3 sz3
      have pn : Cel V3 w2.heap.size 24 (matc r c (.slice a8 la q8)) := by rw [← hV3]; exact Cel.new w2 _ _
      have GB := hid (below_step q b3)
      have pd := PD.out.step GB.out
      have HM := hid (mats10_yes (m8.now b3) (M.out.now GB.out) rfl)
      have G3 := hid (below_step G.out GB.out)
      have x0 := pd.at (i := 0) rfl
      have x1 := pd.at (i := 1) rfl
      have x2 := pd.at (i := 2) rfl
      have y0 := pn.at (i := 0) rfl
      have y1 := pn.at (i := 1) rfl
      have y2 := pn.at (i := 2) rfl
      rw [← hV3] at x0 x1 x2 y0 y1 y2
      have EV3 := hid hV3
      clear b3 sz3 hV3 pn pd m8 q HD GB Q M PD G HKK HGK
      go_wp2_with fail
      rw [EV3.out]
      refine HM.out.mono ?_
      rintro e w4 ⟨rfl, q⟩
      have G4 := hid (below_step G3.out q)
      clear q
      go_wp2
      go_ret
      exact ⟨rfl, G4.out⟩
end Go.Proofs.Ytachdicdfhfoaaa
