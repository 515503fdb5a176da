/-
  Dd16: the law's divided.
-/
import Derived.Test.YtnpcfohimlfbdaaQSr16ToGs16
namespace Go.Proofs.Ytnpcfohimlfbdaa
open Go.RowKit
set_option linter.unusedVariables false
set_option linter.unusedSimpArgs false

theorem mulQ_tr1 (P Q : List Int) : mulQ (tr P) Q = mulQ P Q := trm_ext (trm_mulQ _ _) (trm_mulQ _ _) fun s => by rw [cf_mulQ, cf_mulQ]; exact cnv_congr (cf_tr P) (fun _ => rfl) s
theorem dv_bound {k l : Nat} (hk : k ≤ 1048576) (hl : l ≤ 1048576) : k + l * (k + 2) ≤ 1200000000000 := by
  have h1 : l * (k + 2) ≤ 1048576 * 1048578 := Nat.mul_le_mul hl (by omega)
  omega
theorem lmonicS {w : World} {a : Option Addr} {l c k : Nat} {zs : List Int} {q : Bool} (h : Zlc w (.slice a l c) zs k) (hq : monB zs = q) : Calls Try.prog 22 #[.slice a l c] w (SaysB w q) := by
  have := lmonic_any h.zl
  rwa [hq] at this
set_option maxHeartbeats 12800000 in
set_option maxRecDepth 100000 in
theorem divided16 {w : World} {a0 a1 : Option Addr} {l0 l1 c0 c1 k : Nat} {ps qs : List Int} (hp : Zl w (.slice a0 l0 c0) ps k) (hq : Zl w (.slice a1 l1 c1) qs k) (hk : k ≤ 1048576) (hl : ps.length + qs.length ≤ 1048571) :
    Calls Try.prog 6 #[.slice a0 l0 c0, .slice a1 l1 c1] w (SaysB w true) := by
  have HL0 : Hid (ps.length = l0) := by
    obtain ⟨_, _, e1, -⟩ := hp.form9
    simp only [Value.slice.injEq] at e1
    exact e1.2.1.symm
  have P := hid hp
  have Q := hid hq
  have HK := hid hk
  have HLS := hid hl
  have HKD : Hid (k + l0 * (k + 2) ≤ 1200000000000) := dv_bound hk (by have := HL0.out; omega)
  have G : Hid (Below w.heap.size w w) := Below.refl _ _
  clear hp hq hk hl
  go_enter Try.func6, Try.ntmps6
  go_wp2_with fail
  refine (divMonic_any P.out Q.out HKD.out (by have := HK.out; omega)).mono ?_
  rintro e w1 (⟨hm, rfl, b⟩ | ⟨hm, U, R, v1, v2, rfl, zu, zr, hd, hul, b⟩)
  · have HM := hid hm
    clear hm
    replace P := hid (P.out.now b)
    replace Q := hid (Q.out.now b)
    replace G := hid (below_step G.out b)
    clear b
    go_wp2_with fail
    refine (trimS Q.out).mono ?_
    rintro e w1 ⟨aS, lS, cS, rfl, ES, zS, b⟩
    replace P := hid (P.out.now b)
    replace Q := hid (Q.out.now b)
    replace G := hid (below_step G.out b)
    have S := hid zS
    clear zS
    clear b
    go_wp2_with fail
    refine (lmonicS S.out HM.out).mono ?_
    rintro e w2 ⟨rfl, b⟩
    replace P := hid (P.out.now b)
    replace Q := hid (Q.out.now b)
    replace S := hid (S.out.now b)
    replace G := hid (below_step G.out b)
    clear b
    have FIN : Hid (SaysB w true (.returned (.bool true)) w2) := ⟨rfl, G.out⟩
    clear P Q S G
    go_wp2
    go_ret
    exact FIN.out
  · have HM := hid hm
    have ZU := hid zu
    have ZR := hid zr
    have HD := hid hd
    have HUL := hid hul
    obtain ⟨aU, cU, rfl, -⟩ := zu.full
    obtain ⟨aR, cR, rfl, -⟩ := zr.full
    obtain ⟨lU, hlU⟩ : ∃ lU, U.length = lU := ⟨_, rfl⟩
    obtain ⟨lR, hlR⟩ : ∃ lR, R.length = lR := ⟨_, rfl⟩
    have EU := hid hlU
    have ER := hid hlR
    rw [hlU] at ZU ⊢
    rw [hlR] at ZR ⊢
    clear hm zu zr hd hul hlU hlR
    replace P := hid (P.out.now b)
    replace Q := hid (Q.out.now b)
    replace G := hid (below_step G.out b)
    clear b
    go_wp2_with fail
    refine (trimS Q.out).mono ?_
    rintro e w11 ⟨aS, lS, cS, rfl, ES, zS, b⟩
    replace P := hid (P.out.now b)
    replace Q := hid (Q.out.now b)
    replace ZU := hid (ZU.out.now b)
    replace ZR := hid (ZR.out.now b)
    replace G := hid (below_step G.out b)
    have S := hid zS
    clear zS
    clear b
    go_wp2_with fail
    refine (lmonicS S.out HM.out).mono ?_
    rintro e w12 ⟨rfl, b⟩
    replace P := hid (P.out.now b)
    replace Q := hid (Q.out.now b)
    replace ZU := hid (ZU.out.now b)
    replace ZR := hid (ZR.out.now b)
    replace S := hid (S.out.now b)
    replace G := hid (below_step G.out b)
    clear b
    go_wp2_with fail
    refine (mulS Q.out ZU.out.zl (by have := HK.out; omega) (by have := HLS.out; have := HUL.out; omega)).mono ?_
    rintro e w13 ⟨aX, lX, cX, rfl, EX, zX, b⟩
    replace P := hid (P.out.now b)
    replace Q := hid (Q.out.now b)
    replace ZU := hid (ZU.out.now b)
    replace ZR := hid (ZR.out.now b)
    replace S := hid (S.out.now b)
    replace G := hid (below_step G.out b)
    have X := hid zX
    clear zX
    clear b
    go_wp2_with fail
    refine (addS X.out.zl ZR.out.zl (K := k + 1200000000000 + 1) (by omega) (by omega) (by have := HK.out; omega)).mono ?_
    rintro e w14 ⟨aY, lY, cY, rfl, EY, zY, b⟩
    replace P := hid (P.out.now b)
    replace Q := hid (Q.out.now b)
    replace ZU := hid (ZU.out.now b)
    replace ZR := hid (ZR.out.now b)
    replace S := hid (S.out.now b)
    replace X := hid (X.out.now b)
    replace G := hid (below_step G.out b)
    have Y := hid zY
    clear zY
    clear b
    go_wp2_with fail
    refine (trimmedT ZU.out HD.out.2.1).mono ?_
    rintro e w15 ⟨rfl, b⟩
    replace P := hid (P.out.now b)
    replace Q := hid (Q.out.now b)
    replace ZU := hid (ZU.out.now b)
    replace ZR := hid (ZR.out.now b)
    replace S := hid (S.out.now b)
    replace X := hid (X.out.now b)
    replace Y := hid (Y.out.now b)
    replace G := hid (below_step G.out b)
    clear b
    go_wp2_with fail
    refine (trimmedT ZR.out HD.out.2.2.1).mono ?_
    rintro e w16 ⟨rfl, b⟩
    replace P := hid (P.out.now b)
    replace Q := hid (Q.out.now b)
    replace ZU := hid (ZU.out.now b)
    replace ZR := hid (ZR.out.now b)
    replace S := hid (S.out.now b)
    replace X := hid (X.out.now b)
    replace Y := hid (Y.out.now b)
    replace G := hid (below_step G.out b)
    clear b
    have hlt : (lR : Int) < (lS : Int) := by have := HD.out.2.2.2; rw [ER.out, ES.out] at this; omega
    have hltN : lR < lS := by omega
    go_wp2_with fail
    refine (trimS P.out).mono ?_
    rintro e w17 ⟨aT, lT, cT, rfl, ET, zT, b⟩
    replace P := hid (P.out.now b)
    replace Q := hid (Q.out.now b)
    replace ZU := hid (ZU.out.now b)
    replace ZR := hid (ZR.out.now b)
    replace S := hid (S.out.now b)
    replace X := hid (X.out.now b)
    replace Y := hid (Y.out.now b)
    replace G := hid (below_step G.out b)
    have T := hid zT
    clear zT
    clear b
    go_wp2_with fail
    refine (sameRow16 Y.out T.out (by rw [← mulQ_tr1]; exact HD.out.back)).mono ?_
    rintro e w18 ⟨rfl, b⟩
    replace P := hid (P.out.now b)
    replace Q := hid (Q.out.now b)
    replace ZU := hid (ZU.out.now b)
    replace ZR := hid (ZR.out.now b)
    replace S := hid (S.out.now b)
    replace X := hid (X.out.now b)
    replace Y := hid (Y.out.now b)
    replace T := hid (T.out.now b)
    replace G := hid (below_step G.out b)
    clear b
    have FIN : Hid (SaysB w true (.returned (.bool true)) w18) := ⟨rfl, G.out⟩
    clear P Q S X Y T ZU ZR G
    go_wp2
    go_ret
    exact FIN.out
end Go.Proofs.Ytnpcfohimlfbdaa
