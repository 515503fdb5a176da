/-
  Rt25: the law's right, given what the calls answer.
-/
import Derived.Test.YtdfnehngffajiaaDoorTx25
import Derived.Test.YtdfnehngffajiaaDoorLn25
import Derived.Test.YtdfnehngffajiaaDoorTo25
import Derived.Test.YtdfnehngffajiaaDoorLw25
import Derived.Test.YtdfnehngffajiaaDoorLib25
import Derived.Deep.RegionHeld3
namespace Go.Proofs.YtdfnehngffajiaaDoor
open Go.RowKit
set_option linter.unusedVariables false

/-- What Lines answers. -/
def LinP (s : ByteArray) (w : World) (e : Ending) (w' : World) : Prop := ∃ v, e = .returned v ∧ Strs w.heap.size w' v (linesS s) ∧ Below w.heap.size w w'
theorem below_on25 {w0 w w' : World} (h : Below w0.heap.size w0 w) (k : Below w.heap.size w w') : Below w0.heap.size w0 w' := h.trans (k.mono h.size)
theorem below_dr25 {B : Nat} {w0 w : World} (n : Nat) (h : Below B w0 w) : Below B w0 (w.drewN n) := by
  induction n with
  | zero => exact h
  | succ n ih => exact ih.drew
theorem linesS_len (s : ByteArray) : (linesS s).length ≤ s.size + 1 := by
  have := (lnS_le s s.size).2
  unfold linesS
  split
  · omega
  · rw [List.length_append, List.length_singleton]; omega
theorem tkn_len {s : ByteArray} {g : ByteArray → Int} {i c : Nat} {L : List Tok} {a e : Int} (h : Tkn s g i c L a e) : True := trivial
structure Both25 (s : ByteArray) (g : ByteArray → Int) : Prop where
  pl : ∀ w : World, MaxL w → Calls Tryd.prog 10 #[.string s] w (LinP s w)
  rl : ∀ w : World, Calls Tryd.prog 8 #[.string s] w (LinP s w)
  pt : ∀ w : World, MaxL w → Calls Tryd.prog 11 #[.string s] w (TokD s g w)
  rt : ∀ w : World, Calls Tryd.prog 9 #[.string s] w (TokD s g w)
  pc : ∀ w : World, Calls Tryd.prog 29 #[.string s] w (ColP s w)
  rc : ∀ w : World, Calls Tryd.prog 30 #[.string s] w (ColP s w)
  tn : ∀ L a e, Tkn s g 0 1 L a e → L.length ≤ 1000000000000
set_option maxHeartbeats 3200000 in
set_option maxRecDepth 100000 in
theorem right25 {w : World} {kind : Int} {s : ByteArray} {g : ByteArray → Int} (hs : s.size ≤ 1000000000) (hm : MaxL w) (h : Both25 s g) : Calls Tryd.prog 16 #[.agg #[.int .i64 kind, .string s]] w (Well25 w) := by
  have H := hid h
  have HS := hid hs
  clear h hs
  unfold Well25
  have HX : Hid (∀ w', Below (w.heap.size + 1) (w.alloc (.cells #[.int .i64 kind, .string s] 38)) w' → w'.cell? ⟨w.heap.size, 0, none⟩ = some (.int .i64 kind) ∧ w'.cell? ⟨w.heap.size, 1, none⟩ = some (.string s)) := hid fun w' hb => ⟨(hb.cell (p := ⟨w.heap.size, 0, none⟩) (Nat.lt_succ_self _)).trans (by simp), (hb.cell (p := ⟨w.heap.size, 1, none⟩) (Nat.lt_succ_self _)).trans (by simp)⟩
  have HW : Hid (∀ w', Below (w.heap.size + 1) (w.alloc (.cells #[.int .i64 kind, .string s] 38)) w' → Below w.heap.size w w') := hid fun w' hb => ((Below.refl _ _).alloc (Nat.le_refl _) _).trans (hb.mono (Nat.le_succ _))
  have HMX : Hid (∀ wx : World, Below w.heap.size w wx → MaxL wx) := hid fun wx hb => hm.on hb
  by_cases k1 : kind = 1
  · have k1b : (kind == 1) = true := by rw [beq_iff_eq]; exact k1
    clear k1
    have PL : Hid (∀ w', Below (w.heap.size + 1) (w.alloc (.cells #[.int .i64 kind, .string s] 38)) w' → Calls Tryd.prog 10 #[.string s] w' (LinP s w')) := hid fun w' hb => H.out.pl w' (HMX.out _ (HW.out _ hb))
    have RL : Hid (∀ w', Below (w.heap.size + 1) (w.alloc (.cells #[.int .i64 kind, .string s] 38)) w' → Calls Tryd.prog 8 #[.string s] w' (LinP s w')) := hid fun w' _ => H.out.rl w'
    have HLL : Hid ((linesS s).length ≤ 1000000000000) := hid (by have := linesS_len s; have := HS.out; omega)
    have HN : Hid (∀ w' w'' : World, Below (w.heap.size + 1) (w.alloc (.cells #[.int .i64 kind, .string s] 38)) w' → Below w'.heap.size w' w'' → Below (w.heap.size + 1) (w.alloc (.cells #[.int .i64 kind, .string s] 38)) w'') := hid fun w' w'' a b => a.trans (b.mono (Nat.le_trans (by simp) a.size))
    obtain ⟨x0, x1⟩ := HX.out _ (Below.refl _ _)
    clear H HS
    go_enter Tryd.func16, Tryd.ntmps16
    go_wp2_with fail
    go_region_held3 (fun w' => w'.cell? ⟨w.heap.size, 0, none⟩ = some (.int .i64 kind) ∧ w'.cell? ⟨w.heap.size, 1, none⟩ = some (.string s))
      (first
        | ((try dsimp only); refine ⟨?_, ?_⟩ <;> with_reducible assumption)
        | (refine HX.out _ ?_; repeat (first | with_reducible exact HP3.out | with_reducible exact HP2.out | with_reducible exact HP1.out | with_reducible exact Below.refl _ _ | with_reducible apply Below.drew)))
      (first
        | (go_at_call 10; refine (PL.out _ ?_).mono ?_; (first | exact (Below.refl _ _).drew | exact (Below.refl _ _)); rintro e ua ⟨va, rfl, sa, ka⟩; have HP1 := hid (HN.out _ _ (by repeat (first  | with_reducible exact Below.refl _ _ | with_reducible apply Below.drew)) ka); have SA := hid sa; obtain ⟨y0, y1⟩ := HX.out _ HP1.out; obtain ⟨a1, q1, hv1⟩ := sa.form; subst hv1; clear sa ka)
        | (go_at_call 8; refine (RL.out _ ?_).mono ?_; repeat (first | with_reducible exact HP1.out | with_reducible exact Below.refl _ _ | with_reducible apply Below.drew); rintro e ub ⟨vb, rfl, sb, kb⟩; have HP2 := hid (HN.out _ _ (by repeat (first | with_reducible exact HP1.out | with_reducible exact Below.refl _ _ | with_reducible apply Below.drew)) kb); have SB := hid sb; have SA2 := hid (SA.out.now (below_on25 (w0 := ua) (by repeat (first  | with_reducible exact Below.refl _ _ | with_reducible apply Below.drew)) kb)); obtain ⟨z0, z1⟩ := HX.out _ HP2.out; obtain ⟨a2, q2, hv2⟩ := sb.form; subst hv2; clear sb kb)
        | (go_at_call 12; refine (texts25 (SA2.out.now (w := ub) (by repeat (first  | with_reducible exact Below.refl _ _ | with_reducible apply Below.drew))) (SB.out.now (w := ub) (by repeat (first  | with_reducible exact Below.refl _ _ | with_reducible apply Below.drew))) HLL.out).mono ?_; rintro e uc ⟨rfl, n, rfl⟩; have HP3 := hid (below_dr25 n HP2.out)))
    all_goals (go_wp2_with fail)
    all_goals go_ret
    all_goals exact ⟨rfl, HW.out _ (by repeat (first | with_reducible exact HP3.out | with_reducible exact HP2.out | with_reducible exact HP1.out | with_reducible exact Below.refl _ _ | with_reducible apply Below.drew))⟩
  have k1b : (kind == 1) = false := by rw [beq_eq_false_iff_ne]; exact k1
  by_cases k2 : kind = 2
  · have k2b : (kind == 2) = true := by rw [beq_iff_eq]; exact k2
    clear k2
    have PT := hid (H.out.pt _ (HMX.out _ (HW.out (w.alloc (.cells #[.int .i64 kind, .string s] 38)) (Below.refl _ _))))
    have RT := hid H.out.rt
    have TN := hid H.out.tn
    obtain ⟨x0, x1⟩ := HX.out _ (Below.refl _ _)
    have HN : Hid (∀ w' w'' : World, Below (w.heap.size + 1) (w.alloc (.cells #[.int .i64 kind, .string s] 38)) w' → Below w'.heap.size w' w'' → Below (w.heap.size + 1) (w.alloc (.cells #[.int .i64 kind, .string s] 38)) w'') := hid fun w' w'' a b => a.trans (b.mono (Nat.le_trans (by simp) a.size))
    clear H HS
    go_enter Tryd.func16, Tryd.ntmps16
    go_wp2_with fail
    refine PT.out.mono ?_
    rintro e ua ⟨va, La, ca, ea, rfl, ta, sa, ka⟩
    have HP1 := hid (HN.out _ _ (Below.refl _ _) ka)
    have SA := hid sa
    have TA := hid ta
    obtain ⟨y0, y1⟩ := HX.out _ HP1.out
    clear sa ka PT ta
    go_wp2_with fail
    refine (RT.out _).mono ?_
    rintro e ub ⟨vb, Lb, cb, eb, rfl, tb, sb, kb⟩
    obtain ⟨rfl, rfl, rfl⟩ := tkn_one TA.out tb
    have HP2 := hid (HN.out _ _ HP1.out kb)
    have SB := hid sb
    have SA2 := hid (SA.out.now kb)
    have HLL := hid (TN.out _ _ _ tb)
    have q1 : (ca == ca) = true := by rw [beq_iff_eq]
    have q2 : (ea == ea) = true := by rw [beq_iff_eq]
    obtain ⟨z0, z1⟩ := HX.out _ HP2.out
    clear sb kb RT tb SA TA
    go_wp2_with fail
    refine (tokens25 SA2.out SB.out HLL.out).mono ?_
    rintro e uc ⟨rfl, n, rfl⟩
    go_wp2
    go_ret
    exact ⟨rfl, HW.out _ (below_dr25 n HP2.out)⟩
  have k2b : (kind == 2) = false := by rw [beq_eq_false_iff_ne]; exact k2
  by_cases k3 : kind = 3
  · have k3b : (kind == 3) = true := by rw [beq_iff_eq]; exact k3
    clear k3
    have PC := hid H.out.pc
    have RC := hid H.out.rc
    obtain ⟨x0, x1⟩ := HX.out _ (Below.refl _ _)
    have HN : Hid (∀ w' w'' : World, Below (w.heap.size + 1) (w.alloc (.cells #[.int .i64 kind, .string s] 38)) w' → Below w'.heap.size w' w'' → Below (w.heap.size + 1) (w.alloc (.cells #[.int .i64 kind, .string s] 38)) w'') := hid fun w' w'' a b => a.trans (b.mono (Nat.le_trans (by simp) a.size))
    clear H HS
    go_enter Tryd.func16, Tryd.ntmps16
    go_wp2_with fail
    refine (PC.out _).mono ?_
    rintro e ua ⟨na, ea, rfl, ta, ka⟩
    have HP1 := hid (HN.out _ _ (Below.refl _ _) ka)
    have TA := hid ta
    obtain ⟨y0, y1⟩ := HX.out _ HP1.out
    clear ka PC ta
    go_wp2_with fail
    refine (RC.out _).mono ?_
    rintro e ub ⟨nb, eb, rfl, tb, kb⟩
    obtain ⟨rfl, rfl⟩ := colD_one TA.out tb
    have HP2 := hid (HN.out _ _ HP1.out kb)
    have q1 : (na == na) = true := by rw [beq_iff_eq]
    have q2 : (ea == ea) = true := by rw [beq_iff_eq]
    clear kb RC tb TA
    go_wp2
    go_ret
    exact ⟨rfl, HW.out _ HP2.out⟩
  have k3b : (kind == 3) = false := by rw [beq_eq_false_iff_ne]; exact k3
  obtain ⟨x0, x1⟩ := HX.out _ (Below.refl _ _)
  clear H HS
  go_enter Tryd.func16, Tryd.ntmps16
  go_wp2
  go_ret
  exact ⟨rfl, HW.out _ (Below.refl _ _)⟩
end Go.Proofs.YtdfnehngffajiaaDoor
