/-
  Cols11: Matrix, Cols; a matrix that is not sound.
-/
import Derived.Test.YtbalcjjeakdjkaaQRows11ToTurnP9
namespace Go.Proofs.Ytbalcjjeakdjkaa
open Go.RowKit
set_option linter.unusedVariables false

set_option maxHeartbeats 3200000 in
set_option maxRecDepth 100000 in
theorem matrix_yes {w : World} {sv : Value} {n l : Nat} {rs : List Rs} (hn : n ≤ 64) (hs : Raws w sv rs l) (hk : 1 + rs.length * (l + 1) < 35184372088832) :
    Calls Try.prog 18 #[.int .i64 (n : Int), sv] w (Rowsed w n n rs (unitL n n) (1 + rs.length * (l + 1))) := by
  obtain ⟨W0, hW⟩ : ∃ W0, w.alloc mbox = W0 := ⟨_, rfl⟩
  obtain ⟨b0, sz0⟩ := alo1 w mbox
  rw [hW] at b0 sz0
  have PR := hid (mbox_new hW)
  have HU := hid (unit_any (w := W0) hn)
  have RS := hid (hs.now b0)
  have G0 := hid b0
  have EW := hid hW
  obtain ⟨asv, csv, rfl, hsl, -⟩ := hs.form
  have HK := hid hk
  obtain ⟨K, hK⟩ : ∃ K, 1 + rs.length * (l + 1) = K := ⟨_, rfl⟩
  have EK := hid hK
  rw [hK] at HK ⊢
  obtain ⟨L, hL⟩ : ∃ L, rs.length = L := ⟨_, rfl⟩
  have HL := hid hL
  rw [hL] at RS hsl ⊢
  clear hs b0 sz0 hW hk hL hK
  go_enter Try.func18, Try.ntmps18
  go_wp2_with fail
  rw [EW.out]
  refine HU.out.mono ?_
  rintro e w1 ⟨v1, rfl, hm1, b⟩
  obtain ⟨a1, q1, rfl, -, -⟩ := hm1.mx.form
  obtain ⟨la, hla⟩ : ∃ la, n * n = la := ⟨_, rfl⟩
  rw [hla] at hm1 ⊢
  obtain ⟨V, hV⟩ : ∃ V, w1.alloc (matO n n (.slice a1 la q1)) = V := ⟨_, rfl⟩
  obtain ⟨bv, szv⟩ := alo1 w1 (matO n n (.slice a1 la q1))
  rw [hV] at bv szv
  have PU : Hid (Cel V w1.heap.size 33 (matc n n (.slice a1 la q1))) := by unfold Hid; rw [← hV]; exact Cel.new _ _ _
  have hub := below_step b bv
  replace PR := hid (PR.out.step hub)
  replace G0 := hid (below_step G0.out hub)
  have HR := hid (rows_yes (hm1.mx.now bv) (RS.out.now hub) (by rw [EK.out]; exact HK.out))
  rw [HL.out] at EK
  rw [HL.out, EK.out] at HR
  have x0 := PU.out.at (i := 0) rfl
  have x1 := PU.out.at (i := 1) rfl
  have x2 := PU.out.at (i := 2) rfl
  rw [← hV] at x0 x1 x2
  have EV := hid hV
  clear hm1 b bv szv hV hub PU HU EW hla RS
  go_wp2_with fail
  rw [EV.out]
  refine HR.out.mono ?_
  clear x0 x1 x2 EV HR
  rintro e w2 (⟨hf, v2, rfl, hm2, b⟩ | ⟨hf, rfl, b⟩)
  · obtain ⟨a2, q2, rfl, -, -⟩ := hm2.mx.form
    obtain ⟨lb, hlb⟩ : ∃ lb, n * n = lb := ⟨_, rfl⟩
    rw [hlb] at hm2 ⊢
    replace PR := hid (PR.out.step b)
    replace G0 := hid (below_step G0.out b)
    have FIN : Hid (Rowsed w n n rs (unitL n n) K (.returned (.tuple #[.agg #[.int .i64 (n : Int), .int .i64 (n : Int), .slice a2 lb q2], .int .i64 0])) (put3 w2 w.heap.size (.int .i64 (n : Int)) (.int .i64 (n : Int)) (.slice a2 lb q2))) :=
      .inl ⟨hf, _, rfl, hm2.wk PR.out _ _ _, below_put3 G0.out (Nat.le_refl _) _ _ _⟩
    have PF := hid (PR.out.put3 (.int .i64 (n : Int)) (.int .i64 (n : Int)) (.slice a2 lb q2))
    have r0 := PR.out.at (i := 0) rfl
    have r1 := PR.out.at (i := 1) rfl
    have r2 := PR.out.at (i := 2) rfl
    have f0 := PR.out.fz 0
    have f1 := PR.out.fz 1
    have f2 := PR.out.fz 2
    clear hm2 b hlb hf G0
    go_wp2
    exact bodyPost_ret (mback1 Try.results18 PF.out _ (by rfl) (by rfl)) rfl FIN.out
  · replace PR := hid (PR.out.step b)
    replace G0 := hid (below_step G0.out b)
    have FIN : Hid (Rowsed w n n rs (unitL n n) K (.returned (.tuple #[mzero, .int .i64 3])) (put3 w2 w.heap.size (.int .i64 0) (.int .i64 0) (.slice none 0 0))) := .inr ⟨hf, rfl, below_put3 G0.out (Nat.le_refl _) _ _ _⟩
    have PF := hid (PR.out.put3 (.int .i64 0) (.int .i64 0) (.slice none 0 0))
    have r0 := PR.out.at (i := 0) rfl
    have r1 := PR.out.at (i := 1) rfl
    have r2 := PR.out.at (i := 2) rfl
    have f0 := PR.out.fz 0
    have f1 := PR.out.fz 1
    have f2 := PR.out.fz 2
    clear b hf G0
    go_wp2
    exact bodyPost_ret (mback1 Try.results18 PF.out _ (by rfl) (by rfl)) rfl FIN.out
/-- What Cols answers. -/
def Colsed (w : World) (r c : Nat) (rs : List Rs) (zs : List Int) (k : Nat) (e : Ending) (w' : World) : Prop :=
  ((∀ s ∈ rs, s.fit c) ∧ GivesMO w r c (turnL9 c r (rowsT (sts rs) c r (turnL9 r c zs))) k e w') ∨ (¬ (∀ s ∈ rs, s.fit c) ∧ GivesME w 3 e w')
set_option maxHeartbeats 4000000 in
set_option maxRecDepth 100000 in
theorem cols_yes {w : World} {v sv : Value} {r c k l : Nat} {zs : List Int} {rs : List Rs} (h : Mx w v r c zs k) (hs : Raws w sv rs l) (hk : k + rs.length * (l + 1) < 35184372088832) :
    Calls Try.prog 17 #[v, sv] w (Colsed w r c rs zs (k + rs.length * (l + 1))) := by
  have M0 := hid h
  obtain ⟨aa, ca, rfl, hr, hc⟩ := h.form
  obtain ⟨la, hla⟩ : ∃ la, r * c = la := ⟨_, rfl⟩
  rw [hla] at M0 ⊢
  obtain ⟨W0, hW⟩ : ∃ W0, (w.alloc (matO r c (.slice aa la ca))).alloc mbox = W0 := ⟨_, rfl⟩
  obtain ⟨b0, sz0⟩ := alloc2 w (matO r c (.slice aa la ca)) mbox
  rw [hW] at b0 sz0
  obtain ⟨pa, pr⟩ := two_boxes (o1 := matc r c (.slice aa la ca)) hW
  have HT := hid (turn_yes (M0.out.now b0))
  have x0 := pa.at (i := 0) rfl
  have x1 := pa.at (i := 1) rfl
  have x2 := pa.at (i := 2) rfl
  rw [← hW] at x0 x1 x2
  have PR := hid pr
  have G0 := hid b0
  have EW := hid hW
  have RS := hid (hs.now b0)
  obtain ⟨asv, csv, rfl, hsl, -⟩ := hs.form
  have HK := hid hk
  obtain ⟨K, hK⟩ : ∃ K, k + rs.length * (l + 1) = K := ⟨_, rfl⟩
  have EK := hid hK
  rw [hK] at HK ⊢
  obtain ⟨L, hL⟩ : ∃ L, rs.length = L := ⟨_, rfl⟩
  have HL := hid hL
  rw [hL] at RS hsl ⊢
  clear h hs hla b0 sz0 hW pa pr hk hL hK M0
  go_enter Try.func17, Try.ntmps17
  go_wp2_with fail
  rw [EW.out]
  refine HT.out.mono ?_
  rintro e w1 ⟨v1, rfl, hm1, b⟩
  obtain ⟨a1, q1, rfl, -, -⟩ := hm1.mx.form
  obtain ⟨lb, hlb⟩ : ∃ lb, c * r = lb := ⟨_, rfl⟩
  rw [hlb] at hm1 ⊢
  obtain ⟨V, hV⟩ : ∃ V, w1.alloc (matO c r (.slice a1 lb q1)) = V := ⟨_, rfl⟩
  obtain ⟨bv, szv⟩ := alo1 w1 (matO c r (.slice a1 lb q1))
  rw [hV] at bv szv
  have PU : Hid (Cel V w1.heap.size 33 (matc c r (.slice a1 lb q1))) := by unfold Hid; rw [← hV]; exact Cel.new _ _ _
  have hub := below_step b bv
  replace PR := hid (PR.out.step hub)
  replace G0 := hid (below_step G0.out hub)
  have HR := hid (rows_yes (hm1.mx.now bv) (RS.out.now hub) (by rw [EK.out]; exact HK.out))
  rw [HL.out] at EK
  rw [HL.out, EK.out] at HR
  have y0 := PU.out.at (i := 0) rfl
  have y1 := PU.out.at (i := 1) rfl
  have y2 := PU.out.at (i := 2) rfl
  rw [← hV] at y0 y1 y2
  have EV := hid hV
  clear hm1 b bv szv hV hub HT EW hlb RS x0 x1 x2 PU
  go_wp2_with fail
  rw [EV.out]
  refine HR.out.mono ?_
  clear y0 y1 y2 EV HR
  rintro e w2 (⟨hf, v2, rfl, hm2, b⟩ | ⟨hf, rfl, b⟩)
  · obtain ⟨a2, q2, rfl, -, -⟩ := hm2.mx.form
    obtain ⟨lc, hlc⟩ : ∃ lc, c * r = lc := ⟨_, rfl⟩
    rw [hlc] at hm2 ⊢
    obtain ⟨V2, hV2⟩ : ∃ V2, w2.alloc (matO c r (.slice a2 lc q2)) = V2 := ⟨_, rfl⟩
    obtain ⟨bv, szv⟩ := alo1 w2 (matO c r (.slice a2 lc q2))
    rw [hV2] at bv szv
    have PU : Hid (Cel V2 w2.heap.size 33 (matc c r (.slice a2 lc q2))) := by unfold Hid; rw [← hV2]; exact Cel.new _ _ _
    have hub := below_step b bv
    replace PR := hid (PR.out.step hub)
    replace G0 := hid (below_step G0.out hub)
    have HT2 := hid (turn_yes (hm2.mx.now bv))
    have y0 := PU.out.at (i := 0) rfl
    have y1 := PU.out.at (i := 1) rfl
    have y2 := PU.out.at (i := 2) rfl
    rw [← hV2] at y0 y1 y2
    have EV := hid hV2
    have HF := hid hf
    clear hm2 b bv szv hV2 hub PU hf hlc
    go_wp2_with fail
    rw [EV.out]
    refine HT2.out.mono ?_
    rintro e w3 ⟨v3, rfl, hm3, b⟩
    obtain ⟨a3, q3, rfl, -, -⟩ := hm3.mx.form
    obtain ⟨ld, hld⟩ : ∃ ld, r * c = ld := ⟨_, rfl⟩
    rw [hld] at hm3 ⊢
    replace PR := hid (PR.out.step b)
    replace G0 := hid (below_step G0.out b)
    have FIN : Hid (Colsed w r c rs zs K (.returned (.tuple #[.agg #[.int .i64 (r : Int), .int .i64 (c : Int), .slice a3 ld q3], .int .i64 0])) (put3 w3 (w.heap.size + 1) (.int .i64 (r : Int)) (.int .i64 (c : Int)) (.slice a3 ld q3))) :=
      .inl ⟨HF.out, _, rfl, hm3.wk PR.out _ _ _, below_put3 G0.out (by omega) _ _ _⟩
    have PF := hid (PR.out.put3 (.int .i64 (r : Int)) (.int .i64 (c : Int)) (.slice a3 ld q3))
    have r0 := PR.out.at (i := 0) rfl
    have r1 := PR.out.at (i := 1) rfl
    have r2 := PR.out.at (i := 2) rfl
    have f0 := PR.out.fz 0
    have f1 := PR.out.fz 1
    have f2 := PR.out.fz 2
    clear hm3 b hld HF G0 HT2 y0 y1 y2 EV
    go_wp2
    exact bodyPost_ret (mback1 Try.results17 PF.out _ (by rfl) (by rfl)) rfl FIN.out
  · replace PR := hid (PR.out.step b)
    replace G0 := hid (below_step G0.out b)
    obtain ⟨V2, hV2⟩ : ∃ V2, w2.alloc mbox = V2 := ⟨_, rfl⟩
    obtain ⟨bv, szv⟩ := alo1 w2 mbox
    rw [hV2] at bv szv
    replace PR := hid (PR.out.step bv)
    replace G0 := hid (below_step G0.out bv)
    have FIN : Hid (Colsed w r c rs zs K (.returned (.tuple #[mzero, .int .i64 3])) (put3 V2 (w.heap.size + 1) (.int .i64 0) (.int .i64 0) (.slice none 0 0))) := .inr ⟨hf, rfl, below_put3 G0.out (by omega) _ _ _⟩
    have PF := hid (PR.out.put3 (.int .i64 0) (.int .i64 0) (.slice none 0 0))
    have r0 := PR.out.at (i := 0) rfl
    have r1 := PR.out.at (i := 1) rfl
    have r2 := PR.out.at (i := 2) rfl
    have f0 := PR.out.fz 0
    have f1 := PR.out.fz 1
    have f2 := PR.out.fz 2
    rw [← hV2] at r0 r1 r2 f0 f1 f2 PF FIN
    clear b hf G0 bv szv hV2
    go_wp2
    exact bodyPost_ret (mback1 Try.results17 PF.out _ (by rfl) (by rfl)) rfl FIN.out
set_option maxHeartbeats 1600000 in
set_option maxRecDepth 100000 in
theorem turn_no {w : World} {r c : Int} {a : Option Addr} {l cap : Nat} (h : ¬ Snd r c l) : Calls Try.prog 21 #[.agg #[.int .i64 r, .int .i64 c, .slice a l cap]] w (GivesME w 1) := by
  obtain ⟨W0, hW⟩ : ∃ W0, (w.alloc (.cells #[.int .i64 r, .int .i64 c, .slice a l cap] 33)).alloc mbox = W0 := ⟨_, rfl⟩
  obtain ⟨b0, sz0⟩ := alloc2 w (.cells #[.int .i64 r, .int .i64 c, .slice a l cap] 33) mbox
  rw [hW] at b0 sz0
  obtain ⟨pa, pr⟩ := two_boxes (o1 := [.int .i64 r, .int .i64 c, .slice a l cap]) hW
  have HCK := hid (check_no (w := W0) (a := a) (cap := cap) h)
  have x0 := pa.at (i := 0) rfl
  have x1 := pa.at (i := 1) rfl
  have x2 := pa.at (i := 2) rfl
  rw [← hW] at x0 x1 x2
  have PR := hid pr
  have G0 := hid b0
  have EW := hid hW
  clear b0 sz0 hW pa pr h
  go_enter Try.func21, Try.ntmps21
  go_wp2_with fail
  rw [EW.out]
  refine HCK.out.mono ?_
  rintro e w1 ⟨rfl, b⟩

  have PR1 := hid (PR.out.step b)
  have G1 := hid (below_step G0.out b)
  have r0 := PR1.out.at (i := 0) rfl
  have r1 := PR1.out.at (i := 1) rfl
  have r2 := PR1.out.at (i := 2) rfl
  have f0 := PR1.out.fz 0
  have f1 := PR1.out.fz 1
  have f2 := PR1.out.fz 2
  have FIN : Hid (GivesME w 1 (.returned (.tuple #[mzero, .int .i64 1])) (put3 w1 (w.heap.size + 1) (.int .i64 0) (.int .i64 0) (.slice none 0 0))) := ⟨rfl, below_put3 G1.out (by omega) _ _ _⟩
  have PF := hid (PR1.out.put3 (.int .i64 0) (.int .i64 0) (.slice none 0 0))
  clear HCK b x0 x1 x2 EW PR G0 G1
  go_wp2
  exact bodyPost_ret (mback1 Try.results21 PF.out _ (by rfl) (by rfl)) rfl FIN.out
set_option maxHeartbeats 1600000 in
set_option maxRecDepth 100000 in
theorem rows_no {w : World} {sv : Value} {r c : Int} {a : Option Addr} {l cap : Nat} (h : ¬ Snd r c l) : Calls Try.prog 16 #[.agg #[.int .i64 r, .int .i64 c, .slice a l cap], sv] w (GivesME w 1) := by
  obtain ⟨W0, hW⟩ : ∃ W0, (w.alloc (.cells #[.int .i64 r, .int .i64 c, .slice a l cap] 33)).alloc mbox = W0 := ⟨_, rfl⟩
  obtain ⟨b0, sz0⟩ := alloc2 w (.cells #[.int .i64 r, .int .i64 c, .slice a l cap] 33) mbox
  rw [hW] at b0 sz0
  obtain ⟨pa, pr⟩ := two_boxes (o1 := [.int .i64 r, .int .i64 c, .slice a l cap]) hW
  have HCK := hid (check_no (w := W0) (a := a) (cap := cap) h)
  have x0 := pa.at (i := 0) rfl
  have x1 := pa.at (i := 1) rfl
  have x2 := pa.at (i := 2) rfl
  rw [← hW] at x0 x1 x2
  have PR := hid pr
  have G0 := hid b0
  have EW := hid hW
  clear b0 sz0 hW pa pr h
  go_enter Try.func16, Try.ntmps16
  go_wp2_with fail
  rw [EW.out]
  refine HCK.out.mono ?_
  rintro e w1 ⟨rfl, b⟩

  have PR1 := hid (PR.out.step b)
  have G1 := hid (below_step G0.out b)
  have r0 := PR1.out.at (i := 0) rfl
  have r1 := PR1.out.at (i := 1) rfl
  have r2 := PR1.out.at (i := 2) rfl
  have f0 := PR1.out.fz 0
  have f1 := PR1.out.fz 1
  have f2 := PR1.out.fz 2
  have FIN : Hid (GivesME w 1 (.returned (.tuple #[mzero, .int .i64 1])) (put3 w1 (w.heap.size + 1) (.int .i64 0) (.int .i64 0) (.slice none 0 0))) := ⟨rfl, below_put3 G1.out (by omega) _ _ _⟩
  have PF := hid (PR1.out.put3 (.int .i64 0) (.int .i64 0) (.slice none 0 0))
  clear HCK b x0 x1 x2 EW PR G0 G1
  go_wp2
  exact bodyPost_ret (mback1 Try.results16 PF.out _ (by rfl) (by rfl)) rfl FIN.out
set_option maxHeartbeats 1600000 in
set_option maxRecDepth 100000 in
theorem cols_no {w : World} {sv : Value} {r c : Int} {a : Option Addr} {l cap : Nat} (h : ¬ Snd r c l) : Calls Try.prog 17 #[.agg #[.int .i64 r, .int .i64 c, .slice a l cap], sv] w (GivesME w 1) := by
  obtain ⟨W0, hW⟩ : ∃ W0, (w.alloc (.cells #[.int .i64 r, .int .i64 c, .slice a l cap] 33)).alloc mbox = W0 := ⟨_, rfl⟩
  obtain ⟨b0, sz0⟩ := alloc2 w (.cells #[.int .i64 r, .int .i64 c, .slice a l cap] 33) mbox
  rw [hW] at b0 sz0
  obtain ⟨pa, pr⟩ := two_boxes (o1 := [.int .i64 r, .int .i64 c, .slice a l cap]) hW
  have HCK := hid (turn_no (w := W0) (a := a) (cap := cap) h)
  have x0 := pa.at (i := 0) rfl
  have x1 := pa.at (i := 1) rfl
  have x2 := pa.at (i := 2) rfl
  rw [← hW] at x0 x1 x2
  have PR := hid pr
  have G0 := hid b0
  have EW := hid hW
  clear b0 sz0 hW pa pr h
  go_enter Try.func17, Try.ntmps17
  go_wp2_with fail
  rw [EW.out]
  refine HCK.out.mono ?_
  rintro e w1 ⟨rfl, b⟩
  obtain ⟨V2, hV2⟩ : ∃ V2, w1.alloc mbox = V2 := ⟨_, rfl⟩
  obtain ⟨bv, szv⟩ := alo1 w1 mbox
  rw [hV2] at bv szv
  replace b := below_step b bv
  have PR1 := hid (PR.out.step b)
  have G1 := hid (below_step G0.out b)
  have r0 := PR1.out.at (i := 0) rfl
  have r1 := PR1.out.at (i := 1) rfl
  have r2 := PR1.out.at (i := 2) rfl
  have f0 := PR1.out.fz 0
  have f1 := PR1.out.fz 1
  have f2 := PR1.out.fz 2
  have FIN : Hid (GivesME w 1 (.returned (.tuple #[mzero, .int .i64 1])) (put3 V2 (w.heap.size + 1) (.int .i64 0) (.int .i64 0) (.slice none 0 0))) := ⟨rfl, below_put3 G1.out (by omega) _ _ _⟩
  have PF := hid (PR1.out.put3 (.int .i64 0) (.int .i64 0) (.slice none 0 0))
  rw [← hV2] at r0 r1 r2 f0 f1 f2 PF FIN
  clear PR1 bv szv hV2
  clear HCK b x0 x1 x2 EW PR G0 G1
  go_wp2
  exact bodyPost_ret (mback1 Try.results17 PF.out _ (by rfl) (by rfl)) rfl FIN.out
end Go.Proofs.Ytbalcjjeakdjkaa
