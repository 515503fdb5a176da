/-
  QSb12ToBu12: Sb12, Bu12, joined.
-/
import Derived.Test.YtiedmlfiboalhaaGreatQWk12ToLw12
import Derived.Test.YtiedmlfiboalhaaGreatQSo12ToIx12
import Derived.Deep.Cut

/- Sb12 -/
namespace Go.Proofs.YtiedmlfiboalhaaGreat
open Go.RowKit
set_option linter.unusedVariables false

theorem lawPrimeB {w : World} {p : Nat} : Calls Tryz.prog 6 #[.int .u64 (p : Int)] w fun e w' => e = .returned (.bool (gdB p)) ∧ w' = w := by
  by_cases h : p < 2 ∨ 2147483648 ≤ p
  · have e : gdB p = false := by
      unfold gdB
      rcases h with h | h
      · rw [prB_false (fun q => by have := q.1; omega)]; simp
      · simp; omega
    rw [e]
    exact lawPrime_no h
  · have e : gdB p = prB p := by unfold gdB; simp [show p < 2147483648 by omega]
    rw [e]
    exact lawPrime_any (by omega) (by omega)
theorem soundB {w : World} {r c : Int} {a : Option Addr} {l cap : Nat} {s : Bool} (hl : l ≤ 1048576) (hs : s = true ↔ Snd r c l) : Calls Tryz.prog 5 #[mrV r c a l cap] w fun e w' => e = .returned (.bool s) ∧ Below w.heap.size w w' := by
  refine (sound12 hl).mono ?_
  rintro e w' ⟨b, rfl, hb, bb⟩
  have : b = s := by
    rcases Bool.eq_false_or_eq_true s with q | q
    · rw [q, hb]; exact hs.1 q
    · rw [q]
      rcases Bool.eq_false_or_eq_true b with q2 | q2
      · have := hs.2 (hb.1 q2); rw [q] at this; cases this
      · exact q2
  subst this
  exact ⟨rfl, bb⟩
end Go.Proofs.YtiedmlfiboalhaaGreat

/- Bu12 -/
namespace Go.Proofs.YtiedmlfiboalhaaGreat
open Go.RowKit
set_option linter.unusedVariables false

def uniR (r i : Nat) : List Int := (List.range r).map fun j => if i = j then 1 else 0
def wideL (r : Nat) (ms : List (List Int)) : List (List Int) := (List.range r).map fun i => rowE ms i ++ uniR r i
theorem uniR_len (r i : Nat) : (uniR r i).length = r := by simp [uniR]
theorem wideL_len (r : Nat) (ms : List (List Int)) : (wideL r ms).length = r := by simp [wideL]
theorem wideL_at {r i : Nat} {ms : List (List Int)} (h : i < r) : (wideL r ms)[i]? = some (rowE ms i ++ uniR r i) := by simp [wideL, h]
theorem uni_set {r i c : Nat} {row : List Int} (hc : row.length = c) (hi : i < r) : (row ++ List.replicate r 0).set (c + i) 1 = row ++ uniR r i := by
  subst hc
  apply List.ext_getElem
  · simp [uniR]
  · intro j h1 h2
    rw [List.getElem_set]
    by_cases q : j < row.length
    · rw [if_neg (by omega), List.getElem_append_left q, List.getElem_append_left q]
    · rw [List.getElem_append_right (by omega), List.getElem_append_right (by omega)]
      simp [uniR]
      by_cases e : row.length + i = j
      · rw [if_pos e, if_pos (by omega)]
      · rw [if_neg e, if_neg (by omega)]
theorem wpList_copy_wide (w : World) {ops : Array Oper} {rest : List Oper} {o : Oper} {a : Act} {Q : Exit → Act → World → Prop}
    (hgd : o.guard = none) (d s : Operand) (hop : o.op = .call { callee := .builtin .copy, args := #[d, s], argTypes := #[41, 41] })
    (g N n capD capS b : Nat) (src : List Int) (hrow : Row w g (ws (List.replicate N 0))) (hd : a.eval d = .slice (some ⟨g, 0, none⟩) N capD) (hs : a.eval s = .slice (some ⟨b, 0, none⟩) n capS)
    (hlen : src.length = n) (hnN : n ≤ N) (hsrc : Row w b (ws src))
    (hK : ∀ w', Row w' g (ws (src ++ List.replicate (N - n) 0)) → Below g w w' → wpList Tryz.prog ops Q rest (a.put o.dst (goInt n)) w') :
    wpList Tryz.prog ops Q (o :: rest) a w := by
  refine wpList_copy_splice hgd d s 41 41 hop 25 Tryz.underlying41 Tryz.sizeW _ _ N capD n capS hd hs g 0 (ws (List.replicate N 0)) 25 hrow (ws src) (by rw [length_ws, hlen]; exact (Nat.min_eq_left hnN).symm) ?_ (by simp [length_ws]; omega) ?_ g w (Below.refl _ _) (Nat.le_refl _) ?_
  · intro hpos
    refine ⟨rfl, _, rfl, fun j v hj => ?_⟩
    rw [head_add12]
    exact (show Cel w b 25 (ws src) from hsrc).at hj
  · intro v hv
    simp only [ws, List.mem_map] at hv
    obtain ⟨x, -, rfl⟩ := hv
    rfl
  · intro w' h1 h2
    rw [length_ws, hlen]
    refine hK w' ?_ h2
    have := h1.out
    rw [splice_words N n src hlen] at this
    exact this
def BuH (w : World) (p c r N : Nat) (lv : Value) (ms : List (List Int)) (gk : Nat) (s : Value) (wx : World) : Prop :=
  ∃ (i : Nat) (gs : List Nat) (jv : Value), s = .int .i64 (i : Int) ∧ i ≤ r ∧ gk = r - i ∧ Lns (w.heap.size + 3) wx jv N gs (ms.take i) ∧ Cel wx w.heap.size 55 (shc p c lv) ∧ Cel wx (w.heap.size + 1) 55 [.int .u64 0, .int .i64 0, .slice none 0 0] ∧ Cel wx (w.heap.size + 2) 55 (shc p N jv) ∧ Below w.heap.size w wx
set_option maxHeartbeats 3200000 in
set_option maxRecDepth 100000 in
theorem besideUnit12 {w : World} {lv : Value} {B p r c : Nat} {gs0 : List Nat} {m0 : List (List Int)} (hL : Lns B w lv c gs0 m0) (hm : m0.length = r) (hr : r ≤ 64) (hc : c ≤ 64) :
    Calls Tryz.prog 47 #[shv p c lv] w (Sheeted w p (c + r) (wideL r m0)) := by
  obtain ⟨a0, cap0, rfl, hcap, hform⟩ := hL.form
  rw [hm] at hL hcap hform ⊢
  obtain ⟨N, hN⟩ : ∃ N, c + r = N := ⟨_, rfl⟩
  have hcr : IntKind.i64.wrap ((c : Int) + (r : Int)) = ((N : Nat) : Int) := by rw [wrap_is] <;> omega
  have hcr2 := hcr
  rw [IntKind.wrap_i64] at hcr2
  have HNN := hid hN
  rw [hN]
  obtain ⟨W0, hW⟩ : ∃ W0, ((w.alloc (shO p c (.slice a0 r cap0))).alloc shz).alloc (shO p N (.slice none 0 0)) = W0 := ⟨_, rfl⟩
  have b0 : Below w.heap.size w W0 := by rw [← hW]; exact ((((Below.refl _ _).alloc (Nat.le_refl _) _).alloc (by simp) _).alloc (by simp; omega) _)
  have PM : Hid (Cel W0 w.heap.size 55 (shc p c (.slice a0 r cap0))) := by
    unfold Hid; rw [← hW]
    exact ((Cel.new w _ _).step (alo12 _ _).1).step (alo12 _ _).1
  have PZ : Hid (Cel W0 (w.heap.size + 1) 55 [.int .u64 0, .int .i64 0, .slice none 0 0]) := by
    unfold Hid; rw [← hW]
    have := (Cel.new (w.alloc (shO p c (.slice a0 r cap0))) 55 [.int .u64 0, .int .i64 0, .slice none 0 0]).step (alo12 _ (shO p N (.slice none 0 0))).1
    simpa using this
  have PS : Hid (Cel W0 (w.heap.size + 2) 55 (shc p N (.slice none 0 0))) := by
    unfold Hid; rw [← hW]
    have := Cel.new ((w.alloc (shO p c (.slice a0 r cap0))).alloc shz) 55 (shc p N (.slice none 0 0))
    simpa using this
  obtain ⟨ms, hms⟩ : ∃ ms, wideL r m0 = ms := ⟨_, rfl⟩
  have HMS : Hid (∀ i, i < r → ms[i]? = some (rowE m0 i ++ uniR r i)) := fun i hi => by rw [← hms]; exact wideL_at hi
  have HML : Hid (ms.length = r) := by unfold Hid; rw [← hms]; exact wideL_len _ _
  rw [hms]
  have H0 : Hid (BuH w p c r N (.slice a0 r cap0) ms r (.int .i64 0) W0) := ⟨0, [], _, rfl, Nat.zero_le _, rfl, by rw [List.take_zero]; exact Lns.nil _ _ _, PM.out, PZ.out, PS.out, b0⟩
  have LS := hid hL
  have HM0 := hid hm
  have HF := hid hform
  have y1 := (Cel.new w 55 (shc p c (.slice a0 r cap0))).step (alo12 _ shz).1
  have x0 := y1.at (i := 0) rfl
  have x1 := y1.at (i := 1) rfl
  have x2 := y1.at (i := 2) rfl
  have z2 := PM.out.at (i := 2) rfl
  rw [← hW] at z2
  have EW := hid hW
  clear b0 hW hL hm hform hms PM PZ PS y1 hN
  go_enter Tryz.func47, Tryz.ntmps47
  go_wp2_with fail
  rw [EW.out]
  clear EW x0 x1 x2 z2
  go_loopg [19] r (fun gk s19 wx => BuH w p c r N (.slice a0 r cap0) ms gk s19 wx)
  case atStart => exact H0.out
  case round =>
    clear H0
    obtain ⟨i, gs, jv, rfl, hin, hgk, hln, hmm, hz0, hs0, hG⟩ := hrel
    have LN := hid hln
    have PM := hid hmm
    have PZ := hid hz0
    have PS := hid hs0
    have G := hid hG
    have HG := hid hgk
    have hti : (ms.take i).length = i := by rw [List.length_take, HML.out]; omega
    obtain ⟨la, lcap, rfl, -, -⟩ := hln.form
    rw [hti] at LN PS
    have HTI := hid hti
    clear hln hmm hz0 hs0 hG hgk hti
    by_cases hlt : i < r
    · have hlt' : (i : Int) < (r : Int) := by omega
      obtain ⟨L, rfl, -, -⟩ := HF.out (by omega)
      obtain ⟨gi, q1, q2, q3, q4⟩ := LS.out.blk (i := i) (by rw [HM0.out]; exact hlt)
      have LSW := hid (LS.out.now G.out)
      have k0 := (LSW.out.line q1).1
      have RS : Hid (Row wr gi (ws (rowE m0 i))) := by
        obtain ⟨gi', e1, e2, e3, e4⟩ := LSW.out.blk (i := i) (by rw [HM0.out]; exact hlt)
        rw [q1, Option.some.injEq] at e1
        subst e1
        exact e3
      have HR4 := hid q4
      have hw := wrapI9 (i := i) (by omega)
      have hci : IntKind.i64.wrap ((c : Int) + (i : Int)) = ((c + i : Nat) : Int) := by rw [wrap_is] <;> omega
      have hci2 := hci
      rw [IntKind.wrap_i64] at hci2
      have hcn : ((c + i : Nat) : Int) < (N : Int) := by have := HNN.out; omega
      have k1 := PM.out.at (i := 1) rfl
      have s1 := PS.out.at (i := 1) rfl
      have HMM : Hid (r - (i + 1) < gk) := by unfold Hid; rw [HG.out]; omega
      have HB1 : Hid (w.heap.size + 3 ≤ wr.heap.size) := by unfold Hid; have := PS.out.blk; omega
      have HMI := hid (HMS.out i hlt)
      clear HG q1 q2 q3 q4 LSW
      go_wp2_with (at_make; refine wpList_make_words _ rfl _ _ rfl _ _ N N rfl rfl rfl rfl (Nat.le_refl _) (by have := HNN.out; omega) ?_)
      intro w1 hrow hb1 hsz1
      have RS1 := hid (RS.out.stay hb1)
      have R1 := hid hrow
      have B1 := hid hb1
      clear hrow hb1 hsz1 s1 k0 RS
      go_wp2_with (refine wpList_copy_wide _ rfl (.tmp 27) (.tmp 28) rfl wr.heap.size N c N c gi (rowE m0 i) R1.out rfl rfl HR4.out (by have := HNN.out; omega) RS1.out ?_)
      intro w2 hrow2 hb2
      have B2 := hid (B1.out.trans hb2)
      have E2 : Hid (Row w2 wr.heap.size (ws (rowE m0 i ++ List.replicate r 0))) := by
        unfold Hid
        rw [show N - c = r by have := HNN.out; omega] at hrow2
        exact hrow2
      have k1' := cnow B2.out k1
      obtain ⟨gn, hgn⟩ : ∃ gn, wr.heap.size = gn := ⟨_, rfl⟩
      rw [hgn] at E2
      have HGN := hid hgn
      have hcl : c + i < (ws (rowE m0 i ++ List.replicate r 0)).length := by rw [length_ws, List.length_append, HR4.out, List.length_replicate]; omega
      obtain ⟨v0, hv0⟩ : ∃ v0, (ws (rowE m0 i ++ List.replicate r 0))[c + i]? = some (.int .u64 v0) := ⟨(rowE m0 i ++ List.replicate r 0)[c + i]'(by rw [length_ws] at hcl; exact hcl), by unfold ws; rw [List.getElem?_map, List.getElem?_eq_getElem (by rw [length_ws] at hcl; exact hcl)]; rfl⟩
      have u0 := (show Cel w2 gn 25 _ from E2.out).at hv0
      have u1 := (show Cel w2 gn 25 _ from E2.out).fz (c + i)
      obtain ⟨w3, hw3⟩ : ∃ w3, w2.setCell ⟨gn, c + i, none⟩ (.int .u64 1) = w3 := ⟨_, rfl⟩
      have R3 : Hid (Row w3 gn (ws (rowE m0 i ++ uniR r i))) := by
        unfold Hid
        rw [← hw3, ← uni_set HR4.out hlt]
        have := (show Cel w2 gn 25 _ from E2.out).set (c + i) (.int .u64 1)
        have e : (ws (rowE m0 i ++ List.replicate r 0)).set (c + i) (.int .u64 1) = ws ((rowE m0 i ++ List.replicate r 0).set (c + i) 1) := by simp [ws, List.map_set]
        rw [e] at this
        exact this
      have B3 : Hid (Below wr.heap.size wr w3) := by unfold Hid; rw [← hw3]; exact bset B2.out (by omega)
      obtain ⟨V, hV⟩ : ∃ V, w3.alloc (.cells #[rowv N gn] 41) = V := ⟨_, rfl⟩
      obtain ⟨b4, sz4⟩ := alo12 w3 (.cells #[rowv N gn] 41)
      rw [hV] at b4 sz4
      have CB : Hid (Cel V w3.heap.size 41 [rowv N gn]) := by unfold Hid; rw [← hV]; exact Cel.new _ _ _
      have R4 := hid (R3.out.stay b4)
      have B4 := hid (below_step B3.out b4)
      have LN4 := hid (LN.out.now B4.out)
      have PM4 := hid (PM.out.step B4.out)
      have PZ4 := hid (PZ.out.step B4.out)
      have PS4 := hid (PS.out.step B4.out)
      have G4 := hid (below_step G.out B4.out)
      have c0 := CB.out.at (i := 0) rfl
      have p2 := (PS.out.step B3.out).at (i := 2) rfl
      have HGS : Hid (∀ b ∈ gs, b < gn) := fun b hb => by
        obtain ⟨j, hj, e⟩ := List.mem_iff_getElem.1 hb
        have := (LN.out.2.2.2.2.2 j b (by rw [← e]; exact List.getElem?_eq_getElem hj)).lt
        have := HGN.out
        omega
      have HLW : Hid ((rowE m0 i ++ uniR r i).length = N) := by unfold Hid; rw [List.length_append, HR4.out, uniR_len]; exact HNN.out
      have HSV : Hid (w.heap.size + 3 ≤ V.heap.size) := by unfold Hid; have := B4.out.size; have := HB1.out; omega
      obtain ⟨ci, hcie⟩ : ∃ ci, c + i = ci := ⟨_, rfl⟩
      rw [hcie] at hci hci2 hcn u0 u1 hw3
      have EV := hid hV
      have E3 := hid hw3
      rw [hgn]
      clear hcie
      clear hrow2 hb2 hgn RS1 R1 B1 B2 E2 R3 B3 hV hw3 b4 sz4 LN PM PZ PS G hv0 hcl k1
      obtain ⟨mt0, hmt⟩ : ∃ mt0, ms.take i = mt0 := ⟨_, rfl⟩
      rw [hmt] at LN4 HTI
      have HMT := hid hmt
      clear hmt
      go_upto_region 8 with fail
      rw [E3.out]
      clear E3 u0 u1 k1' hci hci2 hcn
      go_wp2_with (at_builtin; rw [EV.out]; refine wpList_append_lns V rfl (.tmp 37) (.tmp 39) rfl (w.heap.size + 3) N (.slice la i lcap) gs mt0 gn (rowE m0 i ++ uniR r i) rfl LN4.out w3.heap.size rfl c0 R4.out HLW.out HGS.out (by have := HB1.out; have := HGN.out; omega) (by rw [HTI.out]; omega) HSV.out ?_)
      intro a9 cap9 w9 LN9 KC9 BB9
      have e9 : mt0 ++ [rowE m0 i ++ uniR r i] = ms.take (i + 1) := by
        have h1 := HMI.out
        rw [← HMT.out]
        rw [List.getElem?_eq_some_iff] at h1
        obtain ⟨h1, h2⟩ := h1
        rw [List.take_succ_eq_append_getElem h1, h2]
      rw [HTI.out, e9] at LN9
      rw [HTI.out]
      have PM9 := hid (KC9.out _ _ _ PM4.out (by decide))
      have PZ9 := hid (KC9.out _ _ _ PZ4.out (by decide))
      have PS9 := hid (KC9.out _ _ _ PS4.out (by decide))
      have G9 : Hid (Below w.heap.size w w9) := by
        unfold Hid
        exact G4.out.trans (BB9.out.mono (by omega))
      have r2 := PS9.out.at (i := 2) rfl
      have f2 := PS9.out.fz 2
      have HN1 : Hid (BuH w p c r N (.slice (some ⟨L, 0, none⟩) r cap0) ms (r - (i + 1)) (.int .i64 ((i + 1 : Nat) : Int)) (w9.setCell ⟨w.heap.size + 2, 2, none⟩ (.slice (some ⟨a9, 0, none⟩) (i + 1) cap9))) :=
        ⟨i + 1, _, _, rfl, by omega, rfl, LN9.out.box PS9.out (by decide) (by decide), PM9.out.ne (by omega), PZ9.out.ne (by omega), PS9.out.set 2 _, bset G9.out (by omega)⟩
      clear LN4 LN9 PM4 PM9 PZ4 PZ9 PS4 PS9 KC9 BB9 G4 G9 CB R4 HGS HLW HMI HTI e9 c0 p2 HB1
      go_wp2_with fail
      go_roundg (r - (i + 1))
      case rel => exact HN1.out
      case measure => exact HMM.out
    · have hlt' : ¬ (i : Int) < (r : Int) := by omega
      obtain rfl : i = r := by omega
      have x0 := PS.out.at (i := 0) rfl
      have x1 := PS.out.at (i := 1) rfl
      have x2 := PS.out.at (i := 2) rfl
      have y0 := PZ.out.at (i := 0) rfl
      have y1 := PZ.out.at (i := 1) rfl
      have y2 := PZ.out.at (i := 2) rfl
      have g0 := PZ.out.fz 0
      have g1 := PZ.out.fz 1
      have g2 := PZ.out.fz 2
      have hts : ms.take i = ms := by rw [← HML.out]; exact List.take_length
      rw [hts] at LN
      have FIN : Hid (Sheeted w p N ms (.returned (shv p N (.slice la i lcap))) (put3 wr (w.heap.size + 1) (.int .u64 (p : Int)) (.int .i64 (N : Int)) (.slice la i lcap))) :=
        ⟨_, gs, rfl, ((((LN.out.box PZ.out (by decide) (by decide)).box (PZ.out.set 0 _) (by decide) (by decide)).box ((PZ.out.set 0 _).set 1 _) (by decide) (by decide))).mono (by omega), below_put3 G.out (by omega) _ _ _⟩
      have PF := hid (PZ.out.put3 (.int .u64 (p : Int)) (.int .i64 (N : Int)) (.slice la i lcap))
      clear LN PM PZ PS G HG hts
      go_wp2
      exact bodyPost_ret (sback Tryz.results47 PF.out _ (by rfl)) rfl FIN.out
end Go.Proofs.YtiedmlfiboalhaaGreat
