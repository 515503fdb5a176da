/-
  To25: the tokens of a line, in numbers; the reference's Tokens.
-/
import Derived.Test.YtdfnehngffajiaaDoorTk25
import Derived.Test.YtdfnehngffajiaaDoorLn25
import Derived.Test.YtdfnehngffajiaaDoorMk25
import Derived.Test.YtdfnehngffajiaaDoorRu25
import Derived.Lib.Strings
namespace Go.Proofs.YtdfnehngffajiaaDoor
open Go.RowKit
set_option linter.unusedVariables false

theorem emp25 {M : ByteArray} (h : ¬ M = ⟨#[]⟩) : M.toList.isEmpty = false := by
  rw [Bool.eq_false_iff]
  intro q
  rw [List.isEmpty_iff, Lib.toList_data] at q
  obtain ⟨d⟩ := M
  simp at q
  exact h (by rw [q])
open Classical in
noncomputable def runK (s : ByteArray) (i : Nat) (b : Bool) : Nat := if h : ∃ k, RunE s i b k then Classical.choose h else 0
theorem runK_eq {s : ByteArray} {i k : Nat} {b : Bool} (h : RunE s i b k) : runK s i b = k := by
  have q : ∃ k, RunE s i b k := ⟨k, h⟩
  unfold runK
  rw [dif_pos q]
  exact runE_one (Classical.choose_spec q) h
open Classical in
noncomputable def colK (s : ByteArray) (i : Nat) : Nat × Int := if h : ∃ p : Nat × Int, ColE s i p.1 p.2 then Classical.choose h else (0, 0)
theorem colK_eq {s : ByteArray} {i k : Nat} {f : Int} (h : ColE s i k f) : colK s i = (k, f) := by
  have q : ∃ p : Nat × Int, ColE s i p.1 p.2 := ⟨(k, f), h⟩
  unfold colK
  rw [dif_pos q]
  have e := colE_one (Classical.choose_spec q) h
  exact Prod.ext e.1 e.2
/-- What is done at a place: go on with some tokens more, or stop. -/
inductive Sp25 where
  | go (i c : Nat) (t : List Tok)
  | stop (a e : Int)
noncomputable def sp25 (s : ByteArray) (g : ByteArray → Int) (i c : Nat) : Sp25 :=
  if ¬ i < s.size then .stop 0 0
  else if (chS s i).2 = 0 then .stop (c : Int) 12
  else if blkS (chS s i).1 = true then .go (i + (chS s i).2) (c + 1) []
  else if (chS s i).1 = 35 then (if (colK s i).2 = 0 then .stop 0 0 else .stop ((c : Int) + ((colK s i).1 : Nat)) 12)
  else if digS (chS s i).1 = true then (if g (s.extract i (ps s i (runK s i true))) = 0 then .go (ps s i (runK s i true)) (c + runK s i true) [⟨1, s.extract i (ps s i (runK s i true)), (c : Int)⟩] else .stop (c : Int) 7)
  else if letS (chS s i).1 = true then (if 32 < ps s i (runK s i false) - i then .stop (c : Int) 17 else .go (ps s i (runK s i false)) (c + runK s i false) [⟨2, s.extract i (ps s i (runK s i false)), (c : Int)⟩])
  else if mkS (chS s i).1 = ⟨#[]⟩ then .stop (c : Int) 13
  else .go (i + (chS s i).2) (c + 1) [⟨3, mkS (chS s i).1, (c : Int)⟩]
/-- The tokens from the place i, in the column c, on; the column that is told, the error. -/
inductive Tkn (s : ByteArray) (g : ByteArray → Int) : Nat → Nat → List Tok → Int → Int → Prop
  | stop {i c : Nat} {a e : Int} : sp25 s g i c = .stop a e → Tkn s g i c [] a e
  | go {i c i' c' : Nat} {t L : List Tok} {a e : Int} : sp25 s g i c = .go i' c' t → Tkn s g i' c' L a e → Tkn s g i c (if e = 0 then t ++ L else []) a e
theorem tkn_one {s : ByteArray} {g : ByteArray → Int} {i c : Nat} {L L' : List Tok} {a a' e e' : Int} (h : Tkn s g i c L a e) (h' : Tkn s g i c L' a' e') : L = L' ∧ a = a' ∧ e = e' := by
  induction h generalizing L' a' e' with
  | stop q =>
    cases h' with
    | stop q' => rw [q] at q'; cases q'; exact ⟨rfl, rfl, rfl⟩
    | go q' _ => rw [q] at q'; cases q'
  | go q h ih =>
    cases h' with
    | stop q' => rw [q] at q'; cases q'
    | go q' h2 =>
      rw [q] at q'
      cases q'
      obtain ⟨rfl, rfl, rfl⟩ := ih h2
      exact ⟨rfl, rfl, rfl⟩
def TkN (s : ByteArray) (g : ByteArray → Int) (i c : Nat) (L0 : List Tok) : Prop := ∀ L a e, Tkn s g i c L a e → Tkn s g 0 1 (if e = 0 then L0 ++ L else []) a e
theorem TkN.start (s : ByteArray) (g : ByteArray → Int) : TkN s g 0 1 [] := fun L a e h => by
  by_cases q : e = 0
  · rw [if_pos q, List.nil_append]; exact h
  · have : L = [] := by
      cases h with
      | stop _ => rfl
      | go _ _ => exact if_neg q
    rw [if_neg q, ← this]; exact h
theorem TkN.next {s : ByteArray} {g : ByteArray → Int} {i c i' c' : Nat} {L0 t : List Tok} (h : TkN s g i c L0) (q : sp25 s g i c = .go i' c' t) : TkN s g i' c' (L0 ++ t) := fun L a e hL => by
  have := h _ _ _ (Tkn.go q hL)
  by_cases z : e = 0
  · rw [if_pos z] at this ⊢
    rw [if_pos z, ← List.append_assoc] at this
    exact this
  · rw [if_neg z] at this ⊢
    exact this
theorem TkN.fin {s : ByteArray} {g : ByteArray → Int} {i c : Nat} {L0 : List Tok} (h : TkN s g i c L0) (q : sp25 s g i c = .stop 0 0) : Tkn s g 0 1 L0 0 0 := by
  have := h _ _ _ (Tkn.stop q)
  rw [if_pos rfl, List.append_nil] at this
  exact this
theorem TkN.bad {s : ByteArray} {g : ByteArray → Int} {i c : Nat} {L0 : List Tok} {a e : Int} (h : TkN s g i c L0) (q : sp25 s g i c = .stop a e) (he : e ≠ 0) : Tkn s g 0 1 [] a e := by
  have := h _ _ _ (Tkn.stop q)
  rw [if_neg he] at this
  exact this
/-- What Tokens answers. -/
def TokD (s : ByteArray) (g : ByteArray → Int) (w : World) (x : Ending) (w' : World) : Prop := ∃ v L a e, x = .returned (.tuple #[v, .int .i64 a, .int .i64 e]) ∧ Tkn s g 0 1 L a e ∧ Toks w.heap.size w' v L ∧ Below w.heap.size w w'
def GrC (s : ByteArray) (g : ByteArray → Int) : Prop := ∀ (i j : Nat) (w : World), Calls Tryd.prog 23 #[.string (s.extract i j)] w fun x w' => ∃ v, x = .returned (.tuple #[v, .int .i64 (g (s.extract i j))]) ∧ Below w.heap.size w w'
set_option maxHeartbeats 6400000 in
set_option maxRecDepth 100000 in
theorem rtokens25 (w : World) {s : ByteArray} {g : ByteArray → Int} (hs : s.size ≤ 1000000000) (hg : GrC s g) : Calls Tryd.prog 9 #[.string s] w (TokD s g w) := by
  have HC : Hid (∀ (wx : World) (i : Nat), i < s.size → Calls Tryd.prog 17 #[.string s, .int .i64 (i : Int)] wx (ChD s i wx)) := hid fun wx i hi => char25 wx hi (by omega)
  have HR : Hid (∀ (wx : World) (i : Nat) (b : Bool), i ≤ s.size → Calls Tryd.prog 22 #[.string s, .int .i64 (i : Int), .bool b] wx fun e w' => ∃ k, e = .returned (.tuple #[.int .i64 ((ps s i k - i : Nat) : Int), .int .i64 (k : Int)]) ∧ RunE s i b k ∧ w' = wx) := hid fun wx i b hi => rrun25 wx b hi (by omega)
  have HO : Hid (∀ (wx : World) (i c : Nat), i ≤ s.size → c ≤ 1000000002 → Calls Tryd.prog 20 #[.string s, .int .i64 (i : Int), .int .i64 (c : Int)] wx fun e w' => ∃ k f, e = .returned (.int .i64 (if f = 0 then 0 else (c : Int) + (k : Nat))) ∧ ColE s i k f ∧ w' = wx) := hid fun wx i c hi hc => rcomment25 wx (c : Int) hi (by omega) (by omega)
  have HS := hid hs
  have HG := hid hg
  clear hs hg
  unfold TokD
  obtain ⟨B, hB⟩ : ∃ B, w.heap.size = B := ⟨_, rfl⟩
  have HBB := hid hB
  rw [hB]
  clear hB
  go_enter Tryd.func9, Tryd.ntmps9
  go_wp2_with fail
  go_loopg [5, 6, 7] s.size (fun gk s5 s6 s7 wr => ∃ (i c : Nat) (L0 : List Tok), s6 = .int .i64 (c : Int) ∧ s7 = .int .i64 (i : Int) ∧ i ≤ s.size ∧ c ≤ i + 1 ∧ 1 ≤ c ∧ gk = s.size - i ∧ Hid (Toks B wr s5 L0) ∧ L0.length ≤ i ∧ Hid (TkN s g i c L0) ∧ Hid (Below B w wr))
  case atStart => exact ⟨0, 1, [], rfl, rfl, Nat.zero_le _, Nat.le_refl _, Nat.le_refl _, rfl, hid (Toks.nil _ _), Nat.le_refl _, hid (TkN.start s g), hid (HBB.out ▸ Below.refl _ _)⟩
  case round =>
    rename World => wr
    obtain ⟨i, c, L0, rfl, rfl, hi, hc, hc1, hgk, HL, hll, HT, HB⟩ := hrel
    have HGK := hid hgk
    clear hgk
    have hsz := HS.out
    have HQ : Hid (B ≤ wr.heap.size) := hid (by have := HB.out.size; have := HBB.out; omega)
    by_cases hend : ¬ i < s.size
    · have h1 : ¬ (i : Int) < (s.size : Int) := by omega
      have FIN := hid (HT.out.fin (by unfold sp25; exact if_pos hend))
      clear HC HR HO HG HS HGK HQ HT HBB
      go_wp2
      go_ret3
      exact ⟨_, _, _, _, rfl, FIN.out, HL.out, HB.out⟩
    have hlt : i < s.size := by omega
    have h1 : (i : Int) < (s.size : Int) := by omega
    have CH := hid (HC.out wr i hlt)
    have HIN := hid (chS_in hlt)
    have SP : Hid (sp25 s g i c = _) := hid (by unfold sp25; exact if_neg hend)
    unfold ChD at CH
    clear hend HC
    obtain ⟨V, hV⟩ : ∃ V, (chS s i).1 = V := ⟨_, rfl⟩
    obtain ⟨N, hN⟩ : ∃ N, (chS s i).2 = N := ⟨_, rfl⟩
    rw [hV, hN] at CH
    rw [hN] at HIN
    rw [hV, hN] at SP
    have HN := hid hN
    have HV := hid hV
    clear hV hN
    have CM := hid (mark25 wr V)
    have CB := hid (blank25 wr V)
    have CD := hid (digit25 wr V)
    have CL := hid (letter25 wr V)
    have RT := hid (HR.out wr i true hi)
    have RF := hid (HR.out wr i false hi)
    have CO := hid (HO.out wr i c hi (by omega))
    clear HR HO HS
    by_cases h0 : N = 0
    · subst h0
      have FIN := hid (HT.out.bad (SP.out.trans (if_pos rfl)) (by omega))
      clear SP HT HL HGK HQ HIN HN HV HG CB CD CL RT RF CO
      go_wp2_with fail
      refine CH.out.mono ?_
      rintro e w1 ⟨rfl, hw1⟩
      subst hw1
      clear CH
      go_wp2_with fail
      refine CM.out.mono ?_
      rintro e w1 ⟨rfl, hw1⟩
      subst hw1
      clear CM
      go_wp2
      go_ret3
      exact ⟨_, _, _, _, rfl, FIN.out, HBB.out ▸ Toks.nil _ _, HB.out⟩
    have hn0 : ((N : Int) == 0) = false := by rw [beq_eq_false_iff_ne]; omega
    have SP1 := hid (SP.out.trans (if_neg h0))
    clear SP
    by_cases hb : blkS V = true
    · have NX := hid (HT.out.next (SP1.out.trans (if_pos hb)))
      rw [hb] at CB
      have gc : IntKind.i64.wrap ((c : Int) + 1) = ((c + 1 : Nat) : Int) := by rw [wrap_is] <;> omega
      have gi : IntKind.i64.wrap ((i : Int) + (N : Int)) = ((i + N : Nat) : Int) := by have := HIN.out; rw [wrap_is] <;> omega
      have hin := HIN.out
      clear SP1 HT HIN HN HV HG CD CL RT RF CO
      go_wp2_with fail
      refine CH.out.mono ?_
      rintro e w1 ⟨rfl, hw1⟩
      subst hw1
      clear CH
      go_wp2_with fail
      refine CM.out.mono ?_
      rintro e w1 ⟨rfl, hw1⟩
      subst hw1
      clear CM
      go_wp2_with fail
      refine CB.out.mono ?_
      rintro e w1 ⟨rfl, hw1⟩
      subst hw1
      clear CB
      go_wp2_with fail
      go_roundg (s.size - (i + N))
      case rel => exact ⟨i + N, c + 1, L0 ++ [], by first | rfl | go_num, by first | rfl | go_num, by omega, by omega, by omega, rfl, hid (by rw [List.append_nil]; exact HL.out), by rw [List.append_nil]; omega, NX, HB⟩
      case measure => have := HGK.out; omega
    have hb0 : blkS V = false := by simpa using hb
    have SP2 := hid (SP1.out.trans (if_neg hb))
    rw [hb0] at CB
    clear SP1 hb hb0
    by_cases h35 : V = 35
    · subst h35
      have SP3 := hid (SP2.out.trans (if_pos rfl))
      clear SP2
      clear HIN HN HV HG CD CL RT RF
      go_wp2_with fail
      refine CH.out.mono ?_
      rintro e w1 ⟨rfl, hw1⟩
      subst hw1
      clear CH
      go_wp2_with fail
      refine CM.out.mono ?_
      rintro e w1 ⟨rfl, hw1⟩
      subst hw1
      clear CM
      go_wp2_with fail
      refine CB.out.mono ?_
      rintro e w1 ⟨rfl, hw1⟩
      subst hw1
      clear CB
      go_wp2_with fail
      refine CO.out.mono ?_
      rintro e w1 ⟨k, f, rfl, hcol, hw1⟩
      subst hw1
      have HCOL := hid hcol
      rw [colK_eq hcol] at SP3
      clear CO hcol
      by_cases hf : f = 0
      · subst hf
        have FIN := hid (HT.out.fin (SP3.out.trans (if_pos rfl)))
        clear SP3 HT HGK HQ HCOL
        go_wp2
        go_ret3
        exact ⟨_, _, _, _, rfl, FIN.out, HL.out, HB.out⟩
      · have hf12 : f = 12 := by rcases HCOL.out.2 with ⟨q, _⟩ | ⟨q, _⟩ <;> omega
        subst hf12
        have FIN := hid (HT.out.bad (SP3.out.trans (if_neg (by simp))) (by omega))
        have hpos : (0 : Int) < (c : Int) + (k : Int) := by omega
        have e0 : (if (12 : Int) = 0 then (0 : Int) else (c : Int) + (k : Nat)) = (c : Int) + (k : Int) := by rw [if_neg (by omega)]
        rw [e0]
        clear SP3 HT HL HGK HQ HCOL e0
        go_wp2
        go_ret3
        exact ⟨_, _, _, _, rfl, FIN.out, HBB.out ▸ Toks.nil _ _, HB.out⟩
    have h35b : ((V : Int) == 35) = false := by rw [beq_eq_false_iff_ne]; omega
    have SP3 := hid (SP2.out.trans (if_neg h35))
    clear SP2 CO
    by_cases hd : digS V = true
    · have SP4 := hid (SP3.out.trans (if_pos hd))
      rw [hd] at CD
      clear SP3 CL RF
      go_wp2_with fail
      refine CH.out.mono ?_
      rintro e w1 ⟨rfl, hw1⟩
      subst hw1
      clear CH
      go_wp2_with fail
      refine CM.out.mono ?_
      rintro e w1 ⟨rfl, hw1⟩
      subst hw1
      clear CM
      go_wp2_with fail
      refine CB.out.mono ?_
      rintro e w1 ⟨rfl, hw1⟩
      subst hw1
      clear CB
      go_wp2_with fail
      refine CD.out.mono ?_
      rintro e w1 ⟨rfl, hw1⟩
      subst hw1
      clear CD
      go_wp2_with fail
      refine RT.out.mono ?_
      rintro e w1 ⟨k, rfl, hrun, hw1⟩
      subst hw1
      have HRUN := hid hrun
      rw [runK_eq hrun] at SP4
      have hk := hrun.1.le hi
      have hk1 : 1 ≤ k := by
        by_cases q : k = 0
        · subst q
          exact absurd ⟨hlt, by rw [show ps s i 0 = i from rfl, HN.out]; exact h0, by rw [show ps s i 0 = i from rfl, HV.out]; unfold okC; rw [hd]; rfl⟩ hrun.2.2
        · omega
      have hp := hrun.1 0 (by omega)
      obtain ⟨P, hP⟩ : ∃ P, ps s i k = P := ⟨_, rfl⟩
      rw [hP] at hk ⊢
      rw [hP] at SP4
      clear RT hrun HRUN hP hp HN HV
      have g1 : IntKind.i64.wrap ((i : Int) + ((P - i : Nat) : Int)) = (P : Int) := by rw [wrap_is] <;> omega
      have g2 : IntKind.i64.wrap ((c : Int) + (k : Int)) = ((c + k : Nat) : Int) := by rw [wrap_is] <;> omega
      have g3 : (i : Int) ≤ (P : Int) := by omega
      have g4 : (P : Int) ≤ (s.size : Int) := by omega
      have GC := hid (HG.out i P w1)
      clear HG HIN
      obtain ⟨X, hX⟩ : ∃ X, s.extract i P = X := ⟨_, rfl⟩
      have HX := hid hX
      obtain ⟨E, hE⟩ : ∃ E, g X = E := ⟨_, rfl⟩
      have HE := hid hE
      rw [hX] at GC SP4
      rw [hE] at GC SP4
      clear hX hE
      go_wp2_with fail
      rw [HX.out]
      go_wp2_with fail
      refine GC.out.mono ?_
      rintro e w2 ⟨vg, rfl, hbg⟩
      have HB2 := hid (HB.out.trans (hbg.mono HQ.out))
      have HL2 := hid (HL.out.now hbg)
      have HQ2 : Hid (B ≤ w2.heap.size) := hid (Nat.le_trans HQ.out hbg.size)
      clear GC hbg HB HL HQ HX
      by_cases he0 : E = 0
      · subst he0
        have NX := hid (HT.out.next (SP4.out.trans (if_pos rfl)))
        clear SP4 HT HE
        have KB : Hid (Below B w (w2.alloc (.cells #[.int .i64 1, .string (X), .int .i64 (c : Int)] 41))) := hid (HB2.out.trans ((alo25 w2 _).1.mono HQ2.out))
        have KL : Hid (Toks B (w2.alloc (.cells #[.int .i64 1, .string (X), .int .i64 (c : Int)] 41)) u5 L0) := hid (HL2.out.now (alo25 w2 _).1)
        have KN : Hid (L0.length ≤ 1000000000000) := hid (by omega)
        have K0 : Hid ((w2.alloc (.cells #[.int .i64 1, .string (X), .int .i64 (c : Int)] 41)).cell? ⟨w2.heap.size, 0, none⟩ = some (.int .i64 1)) := hid (by simp)
        have K1 : Hid ((w2.alloc (.cells #[.int .i64 1, .string (X), .int .i64 (c : Int)] 41)).cell? ⟨w2.heap.size, 1, none⟩ = some (.string (X))) := hid (by simp)
        have K2 : Hid ((w2.alloc (.cells #[.int .i64 1, .string (X), .int .i64 (c : Int)] 41)).cell? ⟨w2.heap.size, 2, none⟩ = some (.int .i64 (c : Int))) := hid (by simp)
        have KQ : Hid (B ≤ (w2.alloc (.cells #[.int .i64 1, .string (X), .int .i64 (c : Int)] 41)).heap.size) := hid (by have := HQ2.out; simp; omega)
        clear HB2 HL2 HQ2
        go_wp2_with (at_builtin; refine wpList_append_tok25 _ rfl (.tmp 78) (.tmp 82) rfl B _ L0 ⟨1, X, (c : Int)⟩ rfl KL.out w2.heap.size rfl K0.out K1.out K2.out KN.out KQ.out ?_)
        intro m5 a5 cap5 w5 hm5 hs5 hb5
        have HB5 := hid (KB.out.trans hb5.out)
        have HS5 := hs5
        clear hb5 hs5 KB KL KN K0 K1 K2 KQ hm5
        go_wp2_with fail
        go_roundg (s.size - P)
        case rel => exact ⟨P, (c + k), L0 ++ [⟨1, X, (c : Int)⟩], by first | rfl | go_num, by first | rfl | go_num, by omega, by omega, by omega, rfl, HS5, by rw [List.length_append, List.length_singleton]; omega, NX, HB5⟩
        case measure => have := HGK.out; omega
      · have he : (E != 0) = true := by rw [bne_iff_ne]; exact he0
        have FIN := hid (HT.out.bad (SP4.out.trans (if_neg he0)) (by omega))
        clear SP4 HT HL2 HGK HQ2 HE
        go_wp2
        go_ret3
        exact ⟨_, _, _, _, rfl, FIN.out, Toks.nil _ _, HB2.out⟩
    have hd0 : digS V = false := by simpa using hd
    rw [hd0] at CD
    have SP4 := hid (SP3.out.trans (if_neg hd))
    clear SP3 RT HG
    by_cases hl : letS V = true
    · have SP5 := hid (SP4.out.trans (if_pos hl))
      rw [hl] at CL
      clear SP4
      go_wp2_with fail
      refine CH.out.mono ?_
      rintro e w1 ⟨rfl, hw1⟩
      subst hw1
      clear CH
      go_wp2_with fail
      refine CM.out.mono ?_
      rintro e w1 ⟨rfl, hw1⟩
      subst hw1
      clear CM
      go_wp2_with fail
      refine CB.out.mono ?_
      rintro e w1 ⟨rfl, hw1⟩
      subst hw1
      clear CB
      go_wp2_with fail
      refine CD.out.mono ?_
      rintro e w1 ⟨rfl, hw1⟩
      subst hw1
      clear CD
      go_wp2_with fail
      refine CL.out.mono ?_
      rintro e w1 ⟨rfl, hw1⟩
      subst hw1
      clear CL
      go_wp2_with fail
      refine RF.out.mono ?_
      rintro e w1 ⟨k, rfl, hrun, hw1⟩
      subst hw1
      have HRUN := hid hrun
      rw [runK_eq hrun] at SP5
      have hk := hrun.1.le hi
      have hk1 : 1 ≤ k := by
        by_cases q : k = 0
        · subst q
          exact absurd ⟨hlt, by rw [show ps s i 0 = i from rfl, HN.out]; exact h0, by rw [show ps s i 0 = i from rfl, HV.out]; unfold okC; rw [hl]; simp⟩ hrun.2.2
        · omega
      have hp := hrun.1 0 (by omega)
      obtain ⟨P, hP⟩ : ∃ P, ps s i k = P := ⟨_, rfl⟩
      rw [hP] at hk ⊢
      rw [hP] at SP5
      clear RF hrun HRUN hP hp HN HV
      have g1 : IntKind.i64.wrap ((i : Int) + ((P - i : Nat) : Int)) = (P : Int) := by rw [wrap_is] <;> omega
      have g2 : IntKind.i64.wrap ((c : Int) + (k : Int)) = ((c + k : Nat) : Int) := by rw [wrap_is] <;> omega
      have g3 : (i : Int) ≤ (P : Int) := by omega
      have g4 : (P : Int) ≤ (s.size : Int) := by omega
      clear HIN
      by_cases hlong : 32 < P - i
      · have g5 : (32 : Int) < ((P - i : Nat) : Int) := by omega
        have FIN := hid (HT.out.bad (SP5.out.trans (if_pos hlong)) (by omega))
        clear SP5 HT HL HGK HQ
        go_wp2
        go_ret3
        exact ⟨_, _, _, _, rfl, FIN.out, Toks.nil _ _, HB.out⟩
      · have g5 : ¬ (32 : Int) < ((P - i : Nat) : Int) := by omega
        have NX := hid (HT.out.next (SP5.out.trans (if_neg hlong)))
        clear SP5 HT
        have KB : Hid (Below B w (w1.alloc (.cells #[.int .i64 2, .string (s.extract i P), .int .i64 (c : Int)] 41))) := hid (HB.out.trans ((alo25 w1 _).1.mono HQ.out))
        have KL : Hid (Toks B (w1.alloc (.cells #[.int .i64 2, .string (s.extract i P), .int .i64 (c : Int)] 41)) u5 L0) := hid (HL.out.now (alo25 w1 _).1)
        have KN : Hid (L0.length ≤ 1000000000000) := hid (by omega)
        have K0 : Hid ((w1.alloc (.cells #[.int .i64 2, .string (s.extract i P), .int .i64 (c : Int)] 41)).cell? ⟨w1.heap.size, 0, none⟩ = some (.int .i64 2)) := hid (by simp)
        have K1 : Hid ((w1.alloc (.cells #[.int .i64 2, .string (s.extract i P), .int .i64 (c : Int)] 41)).cell? ⟨w1.heap.size, 1, none⟩ = some (.string (s.extract i P))) := hid (by simp)
        have K2 : Hid ((w1.alloc (.cells #[.int .i64 2, .string (s.extract i P), .int .i64 (c : Int)] 41)).cell? ⟨w1.heap.size, 2, none⟩ = some (.int .i64 (c : Int))) := hid (by simp)
        have KQ : Hid (B ≤ (w1.alloc (.cells #[.int .i64 2, .string (s.extract i P), .int .i64 (c : Int)] 41)).heap.size) := hid (by have := HQ.out; simp; omega)
        clear HB HL HQ
        go_wp2_with (at_builtin; refine wpList_append_tok25 _ rfl (.tmp 102) (.tmp 111) rfl B _ L0 ⟨2, s.extract i P, (c : Int)⟩ rfl KL.out w1.heap.size rfl K0.out K1.out K2.out KN.out KQ.out ?_)
        intro m5 a5 cap5 w5 hm5 hs5 hb5
        have HB5 := hid (KB.out.trans hb5.out)
        have HS5 := hs5
        clear hb5 hs5 KB KL KN K0 K1 K2 KQ hm5
        go_wp2_with fail
        go_roundg (s.size - P)
        case rel => exact ⟨P, (c + k), L0 ++ [⟨2, s.extract i P, (c : Int)⟩], by first | rfl | go_num, by first | rfl | go_num, by omega, by omega, by omega, rfl, HS5, by rw [List.length_append, List.length_singleton]; omega, NX, HB5⟩
        case measure => have := HGK.out; omega
    have hl0 : letS V = false := by simpa using hl
    rw [hl0] at CL
    have SP5 := hid (SP4.out.trans (if_neg hl))
    clear SP4 RF HN HV
    obtain ⟨M, hM⟩ : ∃ M, mkS V = M := ⟨_, rfl⟩
    rw [hM] at CM SP5
    clear hM
    by_cases hm : M = ⟨#[]⟩
    · subst hm
      have FIN := hid (HT.out.bad (SP5.out.trans (if_pos rfl)) (by omega))
      clear SP5 HT HL HGK HQ HIN
      go_wp2_with fail
      refine CH.out.mono ?_
      rintro e w1 ⟨rfl, hw1⟩
      subst hw1
      clear CH
      go_wp2_with fail
      refine CM.out.mono ?_
      rintro e w1 ⟨rfl, hw1⟩
      subst hw1
      clear CM
      go_wp2_with fail
      refine CB.out.mono ?_
      rintro e w1 ⟨rfl, hw1⟩
      subst hw1
      clear CB
      go_wp2_with fail
      refine CD.out.mono ?_
      rintro e w1 ⟨rfl, hw1⟩
      subst hw1
      clear CD
      go_wp2_with fail
      refine CL.out.mono ?_
      rintro e w1 ⟨rfl, hw1⟩
      subst hw1
      clear CL
      go_wp2
      go_ret3
      exact ⟨_, _, _, _, rfl, FIN.out, HBB.out ▸ Toks.nil _ _, HB.out⟩
    · have NX := hid (HT.out.next (SP5.out.trans (if_neg hm)))
      have hin := HIN.out
      have gc : IntKind.i64.wrap ((c : Int) + 1) = ((c + 1 : Nat) : Int) := by rw [wrap_is] <;> omega
      have gi : IntKind.i64.wrap ((i : Int) + (N : Int)) = ((i + N : Nat) : Int) := by have := HIN.out; rw [wrap_is] <;> omega
      clear SP5 HT HIN
      have hm2 := emp25 hm
      go_wp2_with fail
      refine CH.out.mono ?_
      rintro e w1 ⟨rfl, hw1⟩
      subst hw1
      clear CH
      go_wp2_with fail
      refine CM.out.mono ?_
      rintro e w1 ⟨rfl, hw1⟩
      subst hw1
      clear CM
      go_wp2_with fail
      refine CB.out.mono ?_
      rintro e w1 ⟨rfl, hw1⟩
      subst hw1
      clear CB
      go_wp2_with fail
      refine CD.out.mono ?_
      rintro e w1 ⟨rfl, hw1⟩
      subst hw1
      clear CD
      go_wp2_with fail
      refine CL.out.mono ?_
      rintro e w1 ⟨rfl, hw1⟩
      subst hw1
      clear CL
      have KB : Hid (Below B w (w1.alloc (.cells #[.int .i64 3, .string (M), .int .i64 (c : Int)] 41))) := hid (HB.out.trans ((alo25 w1 _).1.mono HQ.out))
      have KL : Hid (Toks B (w1.alloc (.cells #[.int .i64 3, .string (M), .int .i64 (c : Int)] 41)) u5 L0) := hid (HL.out.now (alo25 w1 _).1)
      have KN : Hid (L0.length ≤ 1000000000000) := hid (by omega)
      have K0 : Hid ((w1.alloc (.cells #[.int .i64 3, .string (M), .int .i64 (c : Int)] 41)).cell? ⟨w1.heap.size, 0, none⟩ = some (.int .i64 3)) := hid (by simp)
      have K1 : Hid ((w1.alloc (.cells #[.int .i64 3, .string (M), .int .i64 (c : Int)] 41)).cell? ⟨w1.heap.size, 1, none⟩ = some (.string (M))) := hid (by simp)
      have K2 : Hid ((w1.alloc (.cells #[.int .i64 3, .string (M), .int .i64 (c : Int)] 41)).cell? ⟨w1.heap.size, 2, none⟩ = some (.int .i64 (c : Int))) := hid (by simp)
      have KQ : Hid (B ≤ (w1.alloc (.cells #[.int .i64 3, .string (M), .int .i64 (c : Int)] 41)).heap.size) := hid (by have := HQ.out; simp; omega)
      clear HB HL HQ
      go_wp2_with (at_builtin; refine wpList_append_tok25 _ rfl (.tmp 122) (.tmp 126) rfl B _ L0 ⟨3, M, (c : Int)⟩ rfl KL.out w1.heap.size rfl K0.out K1.out K2.out KN.out KQ.out ?_)
      intro m5 a5 cap5 w5 hm5 hs5 hb5
      have HB5 := hid (KB.out.trans hb5.out)
      have HS5 := hs5
      clear hb5 hs5 KB KL KN K0 K1 K2 KQ hm5
      go_wp2_with fail
      go_roundg (s.size - (i + N))
      case rel => exact ⟨(i + N), (c + 1), L0 ++ [⟨3, M, (c : Int)⟩], by first | rfl | go_num, by first | rfl | go_num, by omega, by omega, by omega, rfl, HS5, by rw [List.length_append, List.length_singleton]; omega, NX, HB5⟩
      case measure => have := HGK.out; omega
end Go.Proofs.YtdfnehngffajiaaDoor
