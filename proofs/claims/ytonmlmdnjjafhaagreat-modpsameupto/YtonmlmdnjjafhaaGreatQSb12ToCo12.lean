/-
  QSb12ToCo12: Sb12, Bu12, Bs12, Lin12, Dim12, Br12, Wo12, Co12, joined.
-/
import Derived.Test.YtonmlmdnjjafhaaGreatQLw12
import Derived.Test.YtonmlmdnjjafhaaGreatQSo12ToIx12
import Derived.Deep.Cut
import Derived.Test.YtonmlmdnjjafhaaGreatQRd12
import Derived.Shelf.Slices.SearchI
import Derived.Shelf.Slices.Empties
import Derived.Test.YtonmlmdnjjafhaaGreatQPr12ToFn12
import Derived.Test.YtonmlmdnjjafhaaGreatQCa12ToWk12
import Derived.Test.YtonmlmdnjjafhaaGreatQCw12ToTy9

/- Sb12 -/
namespace Go.Proofs.YtonmlmdnjjafhaaGreat
open Go.RowKit
set_option linter.unusedVariables false

theorem lawPrimeB {w : World} {p : Nat} : Calls Tryz.prog 10 #[.int .u64 (p : Int)] w fun e w' => e = .returned (.bool (gdB p)) ∧ w' = w := by
  by_cases h : p < 2 ∨ 2147483648 ≤ p
  · have e : gdB p = false := by
      unfold gdB
      rcases h with h | h
      · rw [prB_false (fun q => by have := q.1; omega)]; simp
      · simp; omega
    rw [e]
    exact lawPrime_no h
  · have e : gdB p = prB p := by unfold gdB; simp [show p < 2147483648 by omega]
    rw [e]
    exact lawPrime_any (by omega) (by omega)
theorem soundB {w : World} {r c : Int} {a : Option Addr} {l cap : Nat} {s : Bool} (hl : l ≤ 1048576) (hs : s = true ↔ Snd r c l) : Calls Tryz.prog 9 #[mrV r c a l cap] w fun e w' => e = .returned (.bool s) ∧ Below w.heap.size w w' := by
  refine (sound12 hl).mono ?_
  rintro e w' ⟨b, rfl, hb, bb⟩
  have : b = s := by
    rcases Bool.eq_false_or_eq_true s with q | q
    · rw [q, hb]; exact hs.1 q
    · rw [q]
      rcases Bool.eq_false_or_eq_true b with q2 | q2
      · have := hs.2 (hb.1 q2); rw [q] at this; cases this
      · exact q2
  subst this
  exact ⟨rfl, bb⟩
end Go.Proofs.YtonmlmdnjjafhaaGreat

/- Bu12 -/
namespace Go.Proofs.YtonmlmdnjjafhaaGreat
open Go.RowKit
set_option linter.unusedVariables false

def uniR (r i : Nat) : List Int := (List.range r).map fun j => if i = j then 1 else 0
def wideL (r : Nat) (ms : List (List Int)) : List (List Int) := (List.range r).map fun i => rowE ms i ++ uniR r i
theorem uniR_len (r i : Nat) : (uniR r i).length = r := by simp [uniR]
theorem wideL_len (r : Nat) (ms : List (List Int)) : (wideL r ms).length = r := by simp [wideL]
theorem wideL_at {r i : Nat} {ms : List (List Int)} (h : i < r) : (wideL r ms)[i]? = some (rowE ms i ++ uniR r i) := by simp [wideL, h]
theorem uni_set {r i c : Nat} {row : List Int} (hc : row.length = c) (hi : i < r) : (row ++ List.replicate r 0).set (c + i) 1 = row ++ uniR r i := by
  subst hc
  apply List.ext_getElem
  · simp [uniR]
  · intro j h1 h2
    rw [List.getElem_set]
    by_cases q : j < row.length
    · rw [if_neg (by omega), List.getElem_append_left q, List.getElem_append_left q]
    · rw [List.getElem_append_right (by omega), List.getElem_append_right (by omega)]
      simp [uniR]
      by_cases e : row.length + i = j
      · rw [if_pos e, if_pos (by omega)]
      · rw [if_neg e, if_neg (by omega)]
theorem wpList_copy_wide (w : World) {ops : Array Oper} {rest : List Oper} {o : Oper} {a : Act} {Q : Exit → Act → World → Prop}
    (hgd : o.guard = none) (d s : Operand) (hop : o.op = .call { callee := .builtin .copy, args := #[d, s], argTypes := #[34, 34] })
    (g N n capD capS b : Nat) (src : List Int) (hrow : Row w g (ws (List.replicate N 0))) (hd : a.eval d = .slice (some ⟨g, 0, none⟩) N capD) (hs : a.eval s = .slice (some ⟨b, 0, none⟩) n capS)
    (hlen : src.length = n) (hnN : n ≤ N) (hsrc : Row w b (ws src))
    (hK : ∀ w', Row w' g (ws (src ++ List.replicate (N - n) 0)) → Below g w w' → wpList Tryz.prog ops Q rest (a.put o.dst (goInt n)) w') :
    wpList Tryz.prog ops Q (o :: rest) a w := by
  refine wpList_copy_splice hgd d s 34 34 hop 25 Tryz.underlying34 Tryz.sizeW _ _ N capD n capS hd hs g 0 (ws (List.replicate N 0)) 25 hrow (ws src) (by rw [length_ws, hlen]; exact (Nat.min_eq_left hnN).symm) ?_ (by simp [length_ws]; omega) ?_ g w (Below.refl _ _) (Nat.le_refl _) ?_
  · intro hpos
    refine ⟨rfl, _, rfl, fun j v hj => ?_⟩
    rw [head_add12]
    exact (show Cel w b 25 (ws src) from hsrc).at hj
  · intro v hv
    simp only [ws, List.mem_map] at hv
    obtain ⟨x, -, rfl⟩ := hv
    rfl
  · intro w' h1 h2
    rw [length_ws, hlen]
    refine hK w' ?_ h2
    have := h1.out
    rw [splice_words N n src hlen] at this
    exact this
def BuH (w : World) (p c r N : Nat) (lv : Value) (ms : List (List Int)) (gk : Nat) (s : Value) (wx : World) : Prop :=
  ∃ (i : Nat) (gs : List Nat) (jv : Value), s = .int .i64 (i : Int) ∧ i ≤ r ∧ gk = r - i ∧ Lns (w.heap.size + 3) wx jv N gs (ms.take i) ∧ Cel wx w.heap.size 66 (shc p c lv) ∧ Cel wx (w.heap.size + 1) 66 [.int .u64 0, .int .i64 0, .slice none 0 0] ∧ Cel wx (w.heap.size + 2) 66 (shc p N jv) ∧ Below w.heap.size w wx
set_option maxHeartbeats 3200000 in
set_option maxRecDepth 100000 in
theorem besideUnit12 {w : World} {lv : Value} {B p r c : Nat} {gs0 : List Nat} {m0 : List (List Int)} (hL : Lns B w lv c gs0 m0) (hm : m0.length = r) (hr : r ≤ 64) (hc : c ≤ 64) :
    Calls Tryz.prog 74 #[shv p c lv] w (Sheeted w p (c + r) (wideL r m0)) := by
  obtain ⟨a0, cap0, rfl, hcap, hform⟩ := hL.form
  rw [hm] at hL hcap hform ⊢
  obtain ⟨N, hN⟩ : ∃ N, c + r = N := ⟨_, rfl⟩
  have hcr : IntKind.i64.wrap ((c : Int) + (r : Int)) = ((N : Nat) : Int) := by rw [wrap_is] <;> omega
  have hcr2 := hcr
  rw [IntKind.wrap_i64] at hcr2
  have HNN := hid hN
  rw [hN]
  obtain ⟨W0, hW⟩ : ∃ W0, ((w.alloc (shO p c (.slice a0 r cap0))).alloc shz).alloc (shO p N (.slice none 0 0)) = W0 := ⟨_, rfl⟩
  have b0 : Below w.heap.size w W0 := by rw [← hW]; exact ((((Below.refl _ _).alloc (Nat.le_refl _) _).alloc (by simp) _).alloc (by simp; omega) _)
  have PM : Hid (Cel W0 w.heap.size 66 (shc p c (.slice a0 r cap0))) := by
    unfold Hid; rw [← hW]
    exact ((Cel.new w _ _).step (alo12 _ _).1).step (alo12 _ _).1
  have PZ : Hid (Cel W0 (w.heap.size + 1) 66 [.int .u64 0, .int .i64 0, .slice none 0 0]) := by
    unfold Hid; rw [← hW]
    have := (Cel.new (w.alloc (shO p c (.slice a0 r cap0))) 66 [.int .u64 0, .int .i64 0, .slice none 0 0]).step (alo12 _ (shO p N (.slice none 0 0))).1
    simpa using this
  have PS : Hid (Cel W0 (w.heap.size + 2) 66 (shc p N (.slice none 0 0))) := by
    unfold Hid; rw [← hW]
    have := Cel.new ((w.alloc (shO p c (.slice a0 r cap0))).alloc shz) 66 (shc p N (.slice none 0 0))
    simpa using this
  obtain ⟨ms, hms⟩ : ∃ ms, wideL r m0 = ms := ⟨_, rfl⟩
  have HMS : Hid (∀ i, i < r → ms[i]? = some (rowE m0 i ++ uniR r i)) := fun i hi => by rw [← hms]; exact wideL_at hi
  have HML : Hid (ms.length = r) := by unfold Hid; rw [← hms]; exact wideL_len _ _
  rw [hms]
  have H0 : Hid (BuH w p c r N (.slice a0 r cap0) ms r (.int .i64 0) W0) := ⟨0, [], _, rfl, Nat.zero_le _, rfl, by rw [List.take_zero]; exact Lns.nil _ _ _, PM.out, PZ.out, PS.out, b0⟩
  have LS := hid hL
  have HM0 := hid hm
  have HF := hid hform
  have y1 := (Cel.new w 66 (shc p c (.slice a0 r cap0))).step (alo12 _ shz).1
  have x0 := y1.at (i := 0) rfl
  have x1 := y1.at (i := 1) rfl
  have x2 := y1.at (i := 2) rfl
  have z2 := PM.out.at (i := 2) rfl
  rw [← hW] at z2
  have EW := hid hW
  clear b0 hW hL hm hform hms PM PZ PS y1 hN
  go_enter Tryz.func74, Tryz.ntmps74
  go_wp2_with fail
  rw [EW.out]
  clear EW x0 x1 x2 z2
  go_loopg [19] r (fun gk s19 wx => BuH w p c r N (.slice a0 r cap0) ms gk s19 wx)
  case atStart => exact H0.out
  case round =>
    clear H0
    obtain ⟨i, gs, jv, rfl, hin, hgk, hln, hmm, hz0, hs0, hG⟩ := hrel
    have LN := hid hln
    have PM := hid hmm
    have PZ := hid hz0
    have PS := hid hs0
    have G := hid hG
    have HG := hid hgk
    have hti : (ms.take i).length = i := by rw [List.length_take, HML.out]; omega
    obtain ⟨la, lcap, rfl, -, -⟩ := hln.form
    rw [hti] at LN PS
    have HTI := hid hti
    clear hln hmm hz0 hs0 hG hgk hti
    by_cases hlt : i < r
    · have hlt' : (i : Int) < (r : Int) := by omega
      obtain ⟨L, rfl, -, -⟩ := HF.out (by omega)
      obtain ⟨gi, q1, q2, q3, q4⟩ := LS.out.blk (i := i) (by rw [HM0.out]; exact hlt)
      have LSW := hid (LS.out.now G.out)
      have k0 := (LSW.out.line q1).1
      have RS : Hid (Row wr gi (ws (rowE m0 i))) := by
        obtain ⟨gi', e1, e2, e3, e4⟩ := LSW.out.blk (i := i) (by rw [HM0.out]; exact hlt)
        rw [q1, Option.some.injEq] at e1
        subst e1
        exact e3
      have HR4 := hid q4
      have hw := wrapI9 (i := i) (by omega)
      have hci : IntKind.i64.wrap ((c : Int) + (i : Int)) = ((c + i : Nat) : Int) := by rw [wrap_is] <;> omega
      have hci2 := hci
      rw [IntKind.wrap_i64] at hci2
      have hcn : ((c + i : Nat) : Int) < (N : Int) := by have := HNN.out; omega
      have k1 := PM.out.at (i := 1) rfl
      have s1 := PS.out.at (i := 1) rfl
      have HMM : Hid (r - (i + 1) < gk) := by unfold Hid; rw [HG.out]; omega
      have HB1 : Hid (w.heap.size + 3 ≤ wr.heap.size) := by unfold Hid; have := PS.out.blk; omega
      have HMI := hid (HMS.out i hlt)
      clear HG q1 q2 q3 q4 LSW
      go_wp2_with (at_make; refine wpList_make_words _ rfl _ _ rfl _ _ N N rfl rfl rfl rfl (Nat.le_refl _) (by have := HNN.out; omega) ?_)
      intro w1 hrow hb1 hsz1
      have RS1 := hid (RS.out.stay hb1)
      have R1 := hid hrow
      have B1 := hid hb1
      clear hrow hb1 hsz1 s1 k0 RS
      go_wp2_with (refine wpList_copy_wide _ rfl (.tmp 27) (.tmp 28) rfl wr.heap.size N c N c gi (rowE m0 i) R1.out rfl rfl HR4.out (by have := HNN.out; omega) RS1.out ?_)
      intro w2 hrow2 hb2
      have B2 := hid (B1.out.trans hb2)
      have E2 : Hid (Row w2 wr.heap.size (ws (rowE m0 i ++ List.replicate r 0))) := by
        unfold Hid
        rw [show N - c = r by have := HNN.out; omega] at hrow2
        exact hrow2
      have k1' := cnow B2.out k1
      obtain ⟨gn, hgn⟩ : ∃ gn, wr.heap.size = gn := ⟨_, rfl⟩
      rw [hgn] at E2
      have HGN := hid hgn
      have hcl : c + i < (ws (rowE m0 i ++ List.replicate r 0)).length := by rw [length_ws, List.length_append, HR4.out, List.length_replicate]; omega
      obtain ⟨v0, hv0⟩ : ∃ v0, (ws (rowE m0 i ++ List.replicate r 0))[c + i]? = some (.int .u64 v0) := ⟨(rowE m0 i ++ List.replicate r 0)[c + i]'(by rw [length_ws] at hcl; exact hcl), by unfold ws; rw [List.getElem?_map, List.getElem?_eq_getElem (by rw [length_ws] at hcl; exact hcl)]; rfl⟩
      have u0 := (show Cel w2 gn 25 _ from E2.out).at hv0
      have u1 := (show Cel w2 gn 25 _ from E2.out).fz (c + i)
      obtain ⟨w3, hw3⟩ : ∃ w3, w2.setCell ⟨gn, c + i, none⟩ (.int .u64 1) = w3 := ⟨_, rfl⟩
      have R3 : Hid (Row w3 gn (ws (rowE m0 i ++ uniR r i))) := by
        unfold Hid
        rw [← hw3, ← uni_set HR4.out hlt]
        have := (show Cel w2 gn 25 _ from E2.out).set (c + i) (.int .u64 1)
        have e : (ws (rowE m0 i ++ List.replicate r 0)).set (c + i) (.int .u64 1) = ws ((rowE m0 i ++ List.replicate r 0).set (c + i) 1) := by simp [ws, List.map_set]
        rw [e] at this
        exact this
      have B3 : Hid (Below wr.heap.size wr w3) := by unfold Hid; rw [← hw3]; exact bset B2.out (by omega)
      obtain ⟨V, hV⟩ : ∃ V, w3.alloc (.cells #[rowv N gn] 34) = V := ⟨_, rfl⟩
      obtain ⟨b4, sz4⟩ := alo12 w3 (.cells #[rowv N gn] 34)
      rw [hV] at b4 sz4
      have CB : Hid (Cel V w3.heap.size 34 [rowv N gn]) := by unfold Hid; rw [← hV]; exact Cel.new _ _ _
      have R4 := hid (R3.out.stay b4)
      have B4 := hid (below_step B3.out b4)
      have LN4 := hid (LN.out.now B4.out)
      have PM4 := hid (PM.out.step B4.out)
      have PZ4 := hid (PZ.out.step B4.out)
      have PS4 := hid (PS.out.step B4.out)
      have G4 := hid (below_step G.out B4.out)
      have c0 := CB.out.at (i := 0) rfl
      have p2 := (PS.out.step B3.out).at (i := 2) rfl
      have HGS : Hid (∀ b ∈ gs, b < gn) := fun b hb => by
        obtain ⟨j, hj, e⟩ := List.mem_iff_getElem.1 hb
        have := (LN.out.2.2.2.2.2 j b (by rw [← e]; exact List.getElem?_eq_getElem hj)).lt
        have := HGN.out
        omega
      have HLW : Hid ((rowE m0 i ++ uniR r i).length = N) := by unfold Hid; rw [List.length_append, HR4.out, uniR_len]; exact HNN.out
      have HSV : Hid (w.heap.size + 3 ≤ V.heap.size) := by unfold Hid; have := B4.out.size; have := HB1.out; omega
      obtain ⟨ci, hcie⟩ : ∃ ci, c + i = ci := ⟨_, rfl⟩
      rw [hcie] at hci hci2 hcn u0 u1 hw3
      have EV := hid hV
      have E3 := hid hw3
      rw [hgn]
      clear hcie
      clear hrow2 hb2 hgn RS1 R1 B1 B2 E2 R3 B3 hV hw3 b4 sz4 LN PM PZ PS G hv0 hcl k1
      obtain ⟨mt0, hmt⟩ : ∃ mt0, ms.take i = mt0 := ⟨_, rfl⟩
      rw [hmt] at LN4 HTI
      have HMT := hid hmt
      clear hmt
      go_upto_region 8 with fail
      rw [E3.out]
      clear E3 u0 u1 k1' hci hci2 hcn
      go_wp2_with (at_builtin; rw [EV.out]; refine wpList_append_lns V rfl (.tmp 37) (.tmp 39) rfl (w.heap.size + 3) N (.slice la i lcap) gs mt0 gn (rowE m0 i ++ uniR r i) rfl LN4.out w3.heap.size rfl c0 R4.out HLW.out HGS.out (by have := HB1.out; have := HGN.out; omega) (by rw [HTI.out]; omega) HSV.out ?_)
      intro a9 cap9 w9 LN9 KC9 BB9
      have e9 : mt0 ++ [rowE m0 i ++ uniR r i] = ms.take (i + 1) := by
        have h1 := HMI.out
        rw [← HMT.out]
        rw [List.getElem?_eq_some_iff] at h1
        obtain ⟨h1, h2⟩ := h1
        rw [List.take_succ_eq_append_getElem h1, h2]
      rw [HTI.out, e9] at LN9
      rw [HTI.out]
      have PM9 := hid (KC9.out _ _ _ PM4.out (by decide))
      have PZ9 := hid (KC9.out _ _ _ PZ4.out (by decide))
      have PS9 := hid (KC9.out _ _ _ PS4.out (by decide))
      have G9 : Hid (Below w.heap.size w w9) := by
        unfold Hid
        exact G4.out.trans (BB9.out.mono (by omega))
      have r2 := PS9.out.at (i := 2) rfl
      have f2 := PS9.out.fz 2
      have HN1 : Hid (BuH w p c r N (.slice (some ⟨L, 0, none⟩) r cap0) ms (r - (i + 1)) (.int .i64 ((i + 1 : Nat) : Int)) (w9.setCell ⟨w.heap.size + 2, 2, none⟩ (.slice (some ⟨a9, 0, none⟩) (i + 1) cap9))) :=
        ⟨i + 1, _, _, rfl, by omega, rfl, LN9.out.box PS9.out (by decide) (by decide), PM9.out.ne (by omega), PZ9.out.ne (by omega), PS9.out.set 2 _, bset G9.out (by omega)⟩
      clear LN4 LN9 PM4 PM9 PZ4 PZ9 PS4 PS9 KC9 BB9 G4 G9 CB R4 HGS HLW HMI HTI e9 c0 p2 HB1
      go_wp2_with fail
      go_roundg (r - (i + 1))
      case rel => exact HN1.out
      case measure => exact HMM.out
    · have hlt' : ¬ (i : Int) < (r : Int) := by omega
      obtain rfl : i = r := by omega
      have x0 := PS.out.at (i := 0) rfl
      have x1 := PS.out.at (i := 1) rfl
      have x2 := PS.out.at (i := 2) rfl
      have y0 := PZ.out.at (i := 0) rfl
      have y1 := PZ.out.at (i := 1) rfl
      have y2 := PZ.out.at (i := 2) rfl
      have g0 := PZ.out.fz 0
      have g1 := PZ.out.fz 1
      have g2 := PZ.out.fz 2
      have hts : ms.take i = ms := by rw [← HML.out]; exact List.take_length
      rw [hts] at LN
      have FIN : Hid (Sheeted w p N ms (.returned (shv p N (.slice la i lcap))) (put3 wr (w.heap.size + 1) (.int .u64 (p : Int)) (.int .i64 (N : Int)) (.slice la i lcap))) :=
        ⟨_, gs, rfl, ((((LN.out.box PZ.out (by decide) (by decide)).box (PZ.out.set 0 _) (by decide) (by decide)).box ((PZ.out.set 0 _).set 1 _) (by decide) (by decide))).mono (by omega), below_put3 G.out (by omega) _ _ _⟩
      have PF := hid (PZ.out.put3 (.int .u64 (p : Int)) (.int .i64 (N : Int)) (.slice la i lcap))
      clear LN PM PZ PS G HG hts
      go_wp2
      exact bodyPost_ret (sback Tryz.results74 PF.out _ (by rfl)) rfl FIN.out
end Go.Proofs.YtonmlmdnjjafhaaGreat

/- Bs12 -/
namespace Go.Proofs.YtonmlmdnjjafhaaGreat
open Go.RowKit
set_option linter.unusedVariables false

def renB : Go.Shelf.Ren := ⟨fun | 25 => 75 | 31 => 94 | 32 => 95 | 37 => 104 | n => n, fun | 0 => 0 | 3 => 3 | 4 => 4 | 22 => 47 | 40 => 122 | n => n, fun n => n⟩
theorem laysB : Go.Proofs.Lays2.n25 Tryz.prog renB := {
  mixed := by kernel_rfl
  f25 := Tryz.func75.trans (congrArg some (by kernel_rfl))
  f31 := Tryz.func94.trans (congrArg some (by kernel_rfl))
  f32 := Tryz.func95.trans (congrArg some (by kernel_rfl))
  f37 := Tryz.func104.trans (congrArg some (by kernel_rfl))
  t0 := by kernel_rfl
  a0 := fun w => by kernel_rfl
  z0 := fun w => by kernel_rfl
  v0 := fun w => by kernel_rfl
  t3 := Tryz.underlying3
  a3 := Tryz.isAgg3
  z3 := Tryz.sizeOf3
  v3 := Tryz.zeroValue3
  t4 := Tryz.underlying4
  a4 := Tryz.isAgg4
  z4 := Tryz.sizeOf4
  v4 := Tryz.zeroValue4
  t22 := Tryz.underlying47
  a22 := Tryz.isAgg47
  z22 := Tryz.sizeOf47
  v22 := Tryz.zeroValue47
  t40 := Tryz.underlying122
  a40 := Tryz.isAgg122
  z40 := Tryz.sizeOf122
  v40 := Tryz.zeroValue122 }
/-- How many of these lie below x. -/
def cntB (pv : List Nat) (x : Nat) : Nat := pv.countP (· < x)
theorem cntB_le (pv : List Nat) (x : Nat) : cntB pv x ≤ pv.length := List.countP_le_length
theorem search12 {w : World} {B : Nat} {v : Value} {pv : List Nat} {x : Nat} (hv : Pvs B w v pv) (hp : pv.Pairwise (· < ·)) (hl : pv.length ≤ 1000000) :
    Calls Tryz.prog 75 #[v, .int .i64 (x : Int)] w fun e w' => ∃ f, e = .returned (.tuple #[.int .i64 (cntB pv x : Int), .bool f]) ∧ Below w.heap.size w w' := by
  have e1 : ((pv.map fun (a : Nat) => (a : Int)).countP (· < (x : Int)) : Nat) = cntB pv x := by
    unfold cntB
    rw [List.countP_map]
    exact List.countP_congr fun a _ => by simp
  have hs : (pv.map fun (a : Nat) => (a : Int)).Pairwise (· ≤ ·) := by
    rw [List.pairwise_map]
    exact hp.imp fun h => by omega
  have hv' := hv
  obtain ⟨q1, ⟨q2, q3⟩ | ⟨g, cap, cur, q2, q3, q4, q5, q6⟩⟩ := hv
  · rw [q2]
    have hnil : pv = [] := List.eq_nil_of_length_eq_zero q3
    refine (Any.slices_BinarySearch_int_empty laysB none 0 (x : Int) w).mono ?_
    rintro e w' ⟨rfl, rfl⟩
    exact ⟨false, by rw [hnil]; rfl, Below.refl _ _⟩
  · rw [q2]
    refine (Any.slices_BinarySearch_int laysB g 0 pv.length cap (pv.map fun (a : Nat) => (a : Int)) (x : Int) w (by simp) (by omega) (fun j hj => ?_) (by rw [List.take_of_length_le (by simp)]; exact hs)).mono ?_
    · have hj' : j < pv.length := by simpa using hj
      rw [q2] at hv'
      have := World.ownsRow.cellAt hv' j (by omega)
      rw [Nat.zero_add, this]
      simp [hj']
    · rintro e w' ⟨rfl, q, rfl⟩
      refine ⟨_, by rw [List.take_of_length_le (by simp), e1], ?_⟩
      exact ⟨rfl, rfl, rfl, Nat.le_refl _, fun _ _ => rfl⟩
end Go.Proofs.YtonmlmdnjjafhaaGreat

/- Lin12 -/
namespace Go.Proofs.YtonmlmdnjjafhaaGreat
set_option linter.unusedVariables false

variable {p : Nat} [NeZero p]

def sm : Nat → (Nat → Fin p) → Fin p
  | 0, _ => 0
  | n + 1, f => sm n f + f n
theorem sm_congr : ∀ {n : Nat} {f g : Nat → Fin p}, (∀ k, k < n → f k = g k) → sm n f = sm n g
  | 0, _, _, _ => rfl
  | n + 1, f, g, h => by
    simp only [sm]
    rw [sm_congr (n := n) (fun k hk => h k (by omega)), h n (by omega)]
theorem sm_zero : ∀ {n : Nat} {f : Nat → Fin p}, (∀ k, k < n → f k = 0) → sm n f = 0
  | 0, _, _ => rfl
  | n + 1, f, h => by
    simp only [sm]
    rw [sm_zero (n := n) (fun k hk => h k (by omega)), h n (by omega)]
    grind
theorem sm_add : ∀ (n : Nat) (f g : Nat → Fin p), sm n (fun k => f k + g k) = sm n f + sm n g
  | 0, _, _ => by simp only [sm]; grind
  | n + 1, f, g => by
    simp only [sm]
    rw [sm_add n f g]
    grind
theorem sm_mul : ∀ (n : Nat) (c : Fin p) (f : Nat → Fin p), sm n (fun k => c * f k) = c * sm n f
  | 0, _, _ => by simp only [sm]; grind
  | n + 1, c, f => by
    simp only [sm]
    rw [sm_mul n c f]
    grind
theorem sm_mulr (n : Nat) (c : Fin p) (f : Nat → Fin p) : sm n (fun k => f k * c) = sm n f * c := by
  rw [sm_congr (g := fun k => c * f k) (fun k _ => by grind), sm_mul]
  grind
theorem sm_swap : ∀ (n m : Nat) (f : Nat → Nat → Fin p), sm n (fun i => sm m (fun j => f i j)) = sm m (fun j => sm n (fun i => f i j))
  | 0, m, f => by
    simp only [sm]
    rw [sm_zero (fun _ _ => rfl)]
  | n + 1, m, f => by
    simp only [sm]
    rw [sm_swap n m f, sm_add]
/-- One place alone counts. -/
theorem sm_one : ∀ {n i : Nat} {f : Nat → Fin p}, i < n → (∀ k, k < n → k ≠ i → f k = 0) → sm n f = f i
  | 0, i, f, h, _ => by omega
  | n + 1, i, f, h, hz => by
    simp only [sm]
    by_cases e : i = n
    · subst e
      rw [sm_zero (fun k hk => hz k (by omega) (by omega))]
      grind
    · rw [sm_one (i := i) (by omega) (fun k hk hne => hz k (by omega) hne), hz n (by omega) (fun q => e q.symm)]
      grind
/-- The terms from r on are 0. -/
theorem sm_cut {r : Nat} {f : Nat → Fin p} : ∀ {m : Nat}, r ≤ m → (∀ k, r ≤ k → k < m → f k = 0) → sm m f = sm r f
  | 0, h, _ => by
    obtain rfl : r = 0 := by omega
    rfl
  | m + 1, h, hz => by
    by_cases e : r = m + 1
    · subst e; rfl
    · simp only [sm]
      rw [sm_cut (m := m) (by omega) (fun k h1 h2 => hz k h1 (by omega)), hz m (by omega) (by omega)]
      grind

def dlt (i j : Nat) : Fin p := if i = j then 1 else 0
/-- x (of length m) times M. -/
def vm (m : Nat) (x : Nat → Fin p) (M : Nat → Nat → Fin p) (j : Nat) : Fin p := sm m (fun i => x i * M i j)
theorem vm_assoc (m k : Nat) (x : Nat → Fin p) (A B : Nat → Nat → Fin p) (j : Nat) : vm k (vm m x A) B j = vm m x (fun i => vm k (A i) B) j := by
  unfold vm
  rw [sm_congr (g := fun i => sm m (fun l => x l * A l i * B i j)) (fun i _ => (sm_mulr _ _ _).symm), sm_swap]
  refine sm_congr fun i _ => ?_
  rw [← sm_mul]
  exact sm_congr fun l _ => by grind
theorem vm_congr {m : Nat} {x y : Nat → Fin p} {A B : Nat → Nat → Fin p} {j : Nat} (hx : ∀ i, i < m → x i = y i) (hA : ∀ i, i < m → A i j = B i j) : vm m x A j = vm m y B j :=
  sm_congr fun i hi => by rw [hx i hi, hA i hi]
theorem vm_dlt {m i : Nat} (hi : i < m) (A : Nat → Nat → Fin p) (j : Nat) : vm m (dlt i) A j = A i j := by
  unfold vm
  rw [sm_one hi (fun k _ hne => by unfold dlt; rw [if_neg (fun q => hne q.symm)]; grind)]
  unfold dlt
  rw [if_pos rfl]
  grind

/-- The rows of M (m of them) are combinations of the rows of A (l of them), in the first n columns. -/
def Comb (n m l : Nat) (M A : Nat → Nat → Fin p) : Prop := ∃ U : Nat → Nat → Fin p, ∀ i j, i < m → j < n → M i j = vm l (U i) A j
theorem Comb.refl (n m : Nat) (M : Nat → Nat → Fin p) : Comb n m m M M := ⟨dlt, fun i j hi _ => (vm_dlt hi M j).symm⟩
theorem Comb.trans {n m l k : Nat} {M A B : Nat → Nat → Fin p} (h1 : Comb n m l M A) (h2 : Comb n l k A B) : Comb n m k M B := by
  obtain ⟨U, hU⟩ := h1
  obtain ⟨V, hV⟩ := h2
  refine ⟨fun i => vm l (U i) V, fun i j hi hj => ?_⟩
  rw [hU i j hi hj, vm_assoc]
  exact vm_congr (fun _ _ => rfl) (fun k hk => hV k j hk hj)
/-- A matrix whose rows are each one row of A times a number plus another row of A times a number. -/
theorem Comb.two {n m : Nat} {M A : Nat → Nat → Fin p} {f g : Nat → Nat} {a b : Nat → Fin p} (hf : ∀ i, i < m → f i < m) (hg : ∀ i, i < m → g i < m) (h : ∀ i j, i < m → j < n → M i j = a i * A (f i) j + b i * A (g i) j) : Comb n m m M A := by
  refine ⟨fun i k => a i * dlt (f i) k + b i * dlt (g i) k, fun i j hi hj => ?_⟩
  rw [h i j hi hj]
  unfold vm
  rw [sm_congr (g := fun k => a i * (dlt (f i) k * A k j) + b i * (dlt (g i) k * A k j)) (fun k _ => by grind), sm_add, sm_mul, sm_mul]
  have e1 := vm_dlt (hf i hi) A j
  have e2 := vm_dlt (hg i hi) A j
  unfold vm at e1 e2
  rw [e1, e2]
def Eqv (n m : Nat) (M A : Nat → Nat → Fin p) : Prop := Comb n m m M A ∧ Comb n m m A M
theorem Eqv.refl (n m : Nat) (M : Nat → Nat → Fin p) : Eqv n m M M := ⟨Comb.refl _ _ _, Comb.refl _ _ _⟩
theorem Eqv.trans {n m : Nat} {M A B : Nat → Nat → Fin p} (h1 : Eqv n m M A) (h2 : Eqv n m A B) : Eqv n m M B := ⟨h1.1.trans h2.1, h2.2.trans h1.2⟩
theorem Eqv.symm {n m : Nat} {M A : Nat → Nat → Fin p} (h : Eqv n m M A) : Eqv n m A M := ⟨h.2, h.1⟩

/-- Reduced echelon form in the first c columns, with these pivots. -/
structure Rref (m c : Nat) (M : Nat → Nat → Fin p) (pv : List Nat) : Prop where
  len : pv.length ≤ m
  inc : ∀ (s t a b : Nat), s < t → pv[s]? = some a → pv[t]? = some b → a < b
  lt : ∀ (t a : Nat), pv[t]? = some a → a < c
  one : ∀ (t a i : Nat), pv[t]? = some a → i < m → M i a = dlt i t
  low : ∀ (t a j : Nat), pv[t]? = some a → j < a → M t j = 0
  zer : ∀ (i j : Nat), pv.length ≤ i → i < m → j < c → M i j = 0
theorem Rref.start (m : Nat) (M : Nat → Nat → Fin p) : Rref m 0 M [] :=
  ⟨by simp, fun s t a b _ h => by simp at h, fun t a h => by simp at h, fun t a i h => by simp at h, fun t a j h => by simp at h, fun i j _ _ h => by omega⟩
theorem Rref.congr {m c n : Nat} {M N : Nat → Nat → Fin p} {pv : List Nat} (h : Rref m c M pv) (hc : c ≤ n) (e : ∀ i j, i < m → j < n → N i j = M i j) : Rref m c N pv := by
  refine ⟨h.len, h.inc, h.lt, fun t a i ht hi => ?_, fun t a j ht hj => ?_, fun i j h1 h2 h3 => ?_⟩
  · rw [e i a hi (by have := h.lt t a ht; omega)]; exact h.one t a i ht hi
  · have h1 : t < pv.length := (List.getElem?_eq_some_iff.1 ht).1
    have h2 := h.len
    rw [e t j (by omega) (by have := h.lt t a ht; omega)]; exact h.low t a j ht hj
  · rw [e i j h2 (by omega)]; exact h.zer i j h1 h2 h3
theorem Rref.skip {m c : Nat} {M : Nat → Nat → Fin p} {pv : List Nat} (h : Rref m c M pv) (hz : ∀ i, pv.length ≤ i → i < m → M i c = 0) : Rref m (c + 1) M pv := by
  refine ⟨h.len, h.inc, fun t a q => Nat.lt_succ_of_lt (h.lt t a q), h.one, h.low, fun i j h1 h2 h3 => ?_⟩
  by_cases e : j = c
  · subst e; exact hz i h1 h2
  · exact h.zer i j h1 h2 (by omega)
/-- Two rows below the pivots' change places. -/
theorem Rref.swap {m c : Nat} {M N : Nat → Nat → Fin p} {pv : List Nat} (h : Rref m c M pv) {a b : Nat} (ha : pv.length ≤ a) (hb : pv.length ≤ b) (ham : a < m) (hbm : b < m)
    (hN : ∀ i j, i < m → N i j = M (if i = a then b else if i = b then a else i) j) : Rref m c N pv := by
  have key : ∀ i, i < m → (if i = a then b else if i = b then a else i) < m := fun i hi => by split; · exact hbm
                                                                                              · split <;> omega
  have keep : ∀ i, i < pv.length → (if i = a then b else if i = b then a else i) = i := fun i hi => by rw [if_neg (by omega), if_neg (by omega)]
  have hl := h.len
  refine ⟨h.len, h.inc, h.lt, fun t q i ht hi => ?_, fun t q j ht hj => ?_, fun i j h1 h2 h3 => ?_⟩
  · have h1 : t < pv.length := (List.getElem?_eq_some_iff.1 ht).1
    rw [hN i q hi, h.one t q _ ht (key i hi)]
    unfold dlt
    by_cases e : i < pv.length
    · rw [keep i e]
    · have : (if i = a then b else if i = b then a else i) ≠ t := by split; · omega
                                                                     · split <;> omega
      rw [if_neg this, if_neg (by omega)]
  · have h1 : t < pv.length := (List.getElem?_eq_some_iff.1 ht).1
    rw [hN t j (by omega), keep t h1]
    exact h.low t q j ht hj
  · rw [hN i j h2]
    refine h.zer _ j ?_ (key i h2) h3
    split
    · omega
    · split <;> omega
/-- The pivot's row is divided by its entry and taken from all others. -/
theorem Rref.clear {m c : Nat} {M N : Nat → Nat → Fin p} {pv : List Nat} (h : Rref m c M pv) (htop : pv.length < m) {y : Fin p} (hy : M pv.length c * y = 1)
    (hN : ∀ i j, i < m → N i j = if i = pv.length then M i j * y else M i j - M i c * (M pv.length j * y)) : Rref m (c + 1) N (pv ++ [c]) := by
  have hz : ∀ j, j < c → M pv.length j = 0 := fun j hj => h.zer _ j (Nat.le_refl _) htop hj
  have same : ∀ i j, i < m → j < c → N i j = M i j := fun i j hi hj => by
    rw [hN i j hi]
    split
    · rename_i e; subst e; rw [hz j hj]; grind
    · rw [hz j hj]; grind
  have split_at : ∀ t a, (pv ++ [c])[t]? = some a → (pv[t]? = some a ∧ t < pv.length) ∨ (t = pv.length ∧ a = c) := fun t a ht => by
    by_cases q : t < pv.length
    · rw [List.getElem?_append_left q] at ht; exact .inl ⟨ht, q⟩
    · rw [List.getElem?_append_right (by omega)] at ht
      right
      by_cases q2 : t - pv.length = 0
      · rw [q2] at ht; simp at ht; exact ⟨by omega, ht.symm⟩
      · rw [show t - pv.length = (t - pv.length - 1) + 1 by omega] at ht; simp at ht
  refine ⟨by simp; omega, fun s t a b hst hs ht => ?_, fun t a ht => ?_, fun t a i ht hi => ?_, fun t a j ht hj => ?_, fun i j h1 h2 h3 => ?_⟩
  · rcases split_at s a hs with ⟨h1, q1⟩ | ⟨rfl, rfl⟩
    · rcases split_at t b ht with ⟨h2, q2⟩ | ⟨rfl, rfl⟩
      · exact h.inc s t a b hst h1 h2
      · exact h.lt s a h1
    · rcases split_at t b ht with ⟨h2, q2⟩ | ⟨rfl, rfl⟩ <;> omega
  · rcases split_at t a ht with ⟨h1, q1⟩ | ⟨rfl, rfl⟩
    · exact Nat.lt_succ_of_lt (h.lt t a h1)
    · omega
  · rcases split_at t a ht with ⟨h1, q1⟩ | ⟨rfl, rfl⟩
    · rw [same i a hi (h.lt t a h1)]; exact h.one t a i h1 hi
    · rw [hN i a hi]
      unfold dlt
      by_cases e : i = pv.length
      · subst e; rw [if_pos rfl, if_pos rfl]; exact hy
      · rw [if_neg e, if_neg e, hy]; grind
  · rcases split_at t a ht with ⟨h1, q1⟩ | ⟨rfl, rfl⟩
    · rw [same t j (by have := h.len; omega) (by have := h.lt t a h1; omega)]; exact h.low t a j h1 hj
    · rw [same _ j htop hj]; exact hz j hj
  · simp only [List.length_append, List.length_cons, List.length_nil] at h1
    by_cases e : j = c
    · subst e
      rw [hN i j h2, if_neg (by omega), hy]; grind
    · rw [same i j h2 (by omega)]; exact h.zer i j (by omega) h2 (by omega)
/-- A combination of the rows is told by what it has at the pivots. -/
theorem Rref.coords {m n : Nat} {M : Nat → Nat → Fin p} {pv : List Nat} (h : Rref m n M pv) {v x : Nat → Fin p} (hv : ∀ j, j < n → v j = vm m x M j) {j : Nat} (hj : j < n) :
    v j = vm pv.length (fun t => v (pv.getD t 0)) M j := by
  rw [hv j hj]
  unfold vm
  rw [sm_cut h.len (fun k h1 h2 => by rw [h.zer k j h1 h2 hj]; grind)]
  refine sm_congr fun t ht => ?_
  have e : pv[t]? = some (pv.getD t 0) := by simp [ht]
  have hl := h.len
  congr 1
  show x t = v (pv.getD t 0)
  rw [hv _ (h.lt t _ e)]
  unfold vm
  rw [sm_one (i := t) (by omega) (fun k hk hne => by rw [h.one t _ k e hk]; unfold dlt; rw [if_neg hne]; grind), h.one t _ t e (by omega)]
  unfold dlt
  rw [if_pos rfl]
  grind
end Go.Proofs.YtonmlmdnjjafhaaGreat

/- Dim12 -/
namespace Go.Proofs.YtonmlmdnjjafhaaGreat
set_option linter.unusedVariables false

variable {p : Nat} [NeZero p]

/-- What is not 0 has an inverse; 1 is not 0. -/
def Fld (p : Nat) [NeZero p] : Prop := (∀ x : Fin p, x ≠ 0 → ∃ y, x * y = 1) ∧ (1 : Fin p) ≠ 0
/-- Past the place i. -/
def sk (i k : Nat) : Nat := if k < i then k else k + 1
theorem sm_skip {f : Nat → Fin p} : ∀ {s i : Nat}, i ≤ s → sm (s + 1) f = sm s (fun k => f (sk i k)) + f i
  | 0, i, h => by
    obtain rfl : i = 0 := by omega
    simp only [sm]
  | s + 1, i, h => by
    by_cases e : i = s + 1
    · subst e
      show sm (s + 1) f + f (s + 1) = _
      rw [sm_congr (g := f) (f := fun k => f (sk (s + 1) k)) (fun k hk => by unfold sk; rw [if_pos hk])]
    · have ih := sm_skip (f := f) (s := s) (i := i) (by omega)
      show sm (s + 1) f + f (s + 1) = (sm s (fun k => f (sk i k)) + f (sk i s)) + f i
      rw [ih]
      have : sk i s = s + 1 := by unfold sk; rw [if_neg (by omega)]
      rw [this]
      grind
/-- More rows than columns: a combination that is not idle gives 0. -/
theorem idle (F : Fld p) : ∀ {r s : Nat} (Z : Nat → Nat → Fin p), r < s → ∃ x : Nat → Fin p, (∃ i, i < s ∧ x i ≠ 0) ∧ ∀ j, j < r → vm s x Z j = 0
  | 0, s, Z, h => ⟨dlt 0, ⟨0, h, by unfold dlt; rw [if_pos rfl]; exact F.2⟩, fun j hj => by omega⟩
  | r + 1, s, Z, h => by
    by_cases hz : ∀ i, i < s → Z i r = 0
    · obtain ⟨x, hx, h0⟩ := idle F (r := r) (s := s) Z (by omega)
      refine ⟨x, hx, fun j hj => ?_⟩
      by_cases e : j = r
      · subst e
        exact sm_zero fun k hk => by rw [hz k hk]; grind
      · exact h0 j (by omega)
    · obtain ⟨i0, hi0, hne⟩ : ∃ i, i < s ∧ Z i r ≠ 0 := by
        apply Classical.byContradiction
        intro q
        exact hz fun i hi => Classical.byContradiction fun k => q ⟨i, hi, k⟩
      obtain ⟨y, hy⟩ := F.1 _ hne
      obtain ⟨s', rfl⟩ : ∃ s', s = s' + 1 := ⟨s - 1, by omega⟩
      obtain ⟨x, ⟨i1, hi1, hx1⟩, h0⟩ := idle F (r := r) (s := s') (fun i j => Z (sk i0 i) j - Z (sk i0 i) r * y * Z i0 j) (by omega)
      refine ⟨fun i => if i = i0 then -(sm s' (fun k => x k * Z (sk i0 k) r * y)) else x (if i < i0 then i else i - 1), ⟨sk i0 i1, ?_, ?_⟩, fun j hj => ?_⟩
      · unfold sk; split <;> omega
      · have n1 : sk i0 i1 ≠ i0 := by unfold sk; split <;> omega
        have n2 : (if sk i0 i1 < i0 then sk i0 i1 else sk i0 i1 - 1) = i1 := by unfold sk; split <;> (first | omega | (split <;> omega))
        simp only [n1, if_false, n2]
        exact hx1
      · unfold vm
        rw [sm_skip (i := i0) (by omega)]
        have e1 : sm s' (fun k => (if sk i0 k = i0 then -(sm s' (fun k => x k * Z (sk i0 k) r * y)) else x (if sk i0 k < i0 then sk i0 k else sk i0 k - 1)) * Z (sk i0 k) j) = sm s' (fun k => x k * Z (sk i0 k) j) := sm_congr fun k hk => by
          have n1 : sk i0 k ≠ i0 := by unfold sk; split <;> omega
          have n2 : (if sk i0 k < i0 then sk i0 k else sk i0 k - 1) = k := by unfold sk; split <;> (first | omega | (split <;> omega))
          simp only [n1, if_false, n2]
        rw [e1]
        simp only [if_true]
        by_cases e : j = r
        · subst e
          have e2 : sm s' (fun k => x k * Z (sk i0 k) j * y) = sm s' (fun k => x k * Z (sk i0 k) j) * y := sm_mulr _ _ _
          rw [e2]
          generalize sm s' (fun k => x k * Z (sk i0 k) j) = S
          have : Z i0 j * y = 1 := hy
          grind
        · have h1 := h0 j (by omega)
          unfold vm at h1
          rw [sm_congr (g := fun k => x k * Z (sk i0 k) j + (-(Z i0 j)) * (x k * Z (sk i0 k) r * y)) (fun k _ => by grind), sm_add, sm_mul] at h1
          grind
theorem dim_le (F : Fld p) {r s : Nat} {Z Y : Nat → Nat → Fin p} (h : ∀ i j, i < s → j < s → dlt i j = vm r (Z i) Y j) : s ≤ r := by
  apply Classical.byContradiction
  intro q
  obtain ⟨x, ⟨i, hi, hne⟩, h0⟩ := idle F (r := r) (s := s) Z (by omega)
  apply hne
  have e1 : vm s x (fun a b => dlt a b) i = x i := by
    unfold vm
    rw [sm_one hi (fun k hk hk2 => by show x k * dlt k i = 0; unfold dlt; rw [if_neg hk2]; grind)]
    show x i * dlt i i = x i
    unfold dlt
    rw [if_pos rfl]
    grind
  rw [← e1, vm_congr (y := x) (B := fun a => vm r (Z a) Y) (fun _ _ => rfl) (fun a ha => h a i ha hi), ← vm_assoc]
  exact sm_zero fun k hk => by rw [h0 k hk]; grind
theorem Rref.rank_le (F : Fld p) {m n r : Nat} {M Y : Nat → Nat → Fin p} {pv : List Nat} (h : Rref m n M pv) (hc : Comb n m r M Y) : pv.length ≤ r := by
  obtain ⟨Z, hZ⟩ := hc
  refine dim_le F (Z := Z) (Y := fun k t => Y k (pv.getD t 0)) fun i t hi ht => ?_
  have e : pv[t]? = some (pv.getD t 0) := by simp [ht]
  have hl := h.len
  have h1 := h.one t _ i e (by omega)
  have h2 := hZ i (pv.getD t 0) (by omega) (h.lt t _ e)
  rw [← h1, h2]
  rfl
/-- The ranks of a matrix and of its transpose. -/
theorem rank_turn_le (F : Fld p) {m n : Nat} {A M N : Nat → Nat → Fin p} {pv qv : List Nat} (h : Rref m n M pv) (hA : Comb n m m A M) (h' : Rref n m N qv) (hN : Comb m n n N (fun j i => A i j)) : qv.length ≤ pv.length := by
  refine h'.rank_le F (r := pv.length) (Y := fun t i => A i (pv.getD t 0)) (hN.trans ?_)
  obtain ⟨V, hV⟩ := hA
  refine ⟨fun j t => M t j, fun j i hj hi => ?_⟩
  have := h.coords (v := A i) (x := V i) (fun j hj => hV i j hi hj) hj
  show A i j = _
  rw [this]
  unfold vm
  exact sm_congr fun t _ => by grind
theorem sorted_eq : ∀ {l m : List Nat}, l.Pairwise (· < ·) → m.Pairwise (· < ·) → (∀ x, x ∈ l ↔ x ∈ m) → l = m
  | [], [], _, _, _ => rfl
  | [], b :: m, _, _, h => by have := (h b).2 (by simp); simp at this
  | a :: l, [], _, _, h => by have := (h a).1 (by simp); simp at this
  | a :: l, b :: m, hl, hm, h => by
    rw [List.pairwise_cons] at hl hm
    have e : a = b := by
      rcases List.mem_cons.1 ((h a).1 (by simp)) with q | q
      · exact q
      · rcases List.mem_cons.1 ((h b).2 (by simp)) with q2 | q2
        · exact q2.symm
        · have := hm.1 a q; have := hl.1 b q2; omega
    subst e
    congr 1
    refine sorted_eq hl.2 hm.2 fun x => ⟨fun hx => ?_, fun hx => ?_⟩
    · rcases List.mem_cons.1 ((h x).1 (by simp [hx])) with q | q
      · subst q; have := hl.1 x hx; omega
      · exact q
    · rcases List.mem_cons.1 ((h x).2 (by simp [hx])) with q | q
      · subst q; have := hm.1 x hx; omega
      · exact q
theorem Rref.sorted {m n : Nat} {M : Nat → Nat → Fin p} {pv : List Nat} (h : Rref m n M pv) : pv.Pairwise (· < ·) := by
  rw [List.pairwise_iff_getElem]
  intro i j hi hj hij
  exact h.inc i j _ _ hij (List.getElem?_eq_getElem hi) (List.getElem?_eq_getElem hj)
theorem Rref.sub (F : Fld p) {m n : Nat} {M N : Nat → Nat → Fin p} {pv qv : List Nat} (h : Rref m n M pv) (h' : Rref m n N qv) (hc : Comb n m m M N) {a : Nat} (ha : a ∈ pv) : a ∈ qv := by
  obtain ⟨t, ht, e⟩ := List.mem_iff_getElem.1 ha
  have et : pv[t]? = some a := by rw [← e]; exact List.getElem?_eq_getElem ht
  obtain ⟨U, hU⟩ := hc
  have hl := h.len
  apply Classical.byContradiction
  intro hn
  have h1 := h'.coords (v := M t) (x := U t) (fun j hj => hU t j (by omega) hj) (h.lt t a et)
  rw [h.one t a t et (by omega)] at h1
  have h2 : vm qv.length (fun s => M t (qv.getD s 0)) N a = 0 := sm_zero fun s hs => by
    have es : qv[s]? = some (qv.getD s 0) := by simp [hs]
    show M t (qv.getD s 0) * N s a = 0
    rcases Nat.lt_trichotomy (qv.getD s 0) a with q | q | q
    · rw [h.low t a _ et q]; grind
    · exfalso; apply hn; rw [← q]; exact List.mem_of_getElem? es
    · rw [h'.low s _ a es q]; grind
  rw [h2] at h1
  unfold dlt at h1
  rw [if_pos rfl] at h1
  exact F.2 h1
/-- There is one reduced echelon form. -/
theorem Rref.unique (F : Fld p) {m n : Nat} {M N : Nat → Nat → Fin p} {pv qv : List Nat} (h : Rref m n M pv) (h' : Rref m n N qv) (he : Eqv n m M N) : pv = qv ∧ ∀ i j, i < m → j < n → M i j = N i j := by
  have e : pv = qv := sorted_eq h.sorted h'.sorted fun a => ⟨h.sub F h' he.1, h'.sub F h he.2⟩
  subst e
  refine ⟨rfl, fun i j hi hj => ?_⟩
  by_cases q : i < pv.length
  · obtain ⟨U, hU⟩ := he.1
    rw [h'.coords (v := M i) (x := U i) (fun j hj => hU i j hi hj) hj]
    unfold vm
    rw [sm_one q (fun k hk hne => ?_)]
    · show M i (pv.getD i 0) * N i j = N i j
      rw [h.one i _ i (show pv[i]? = some (pv.getD i 0) by simp [q]) hi]
      unfold dlt
      rw [if_pos rfl]
      grind
    · show M i (pv.getD k 0) * N k j = 0
      rw [h.one k _ i (show pv[k]? = some (pv.getD k 0) by simp [hk]) hi]
      unfold dlt
      rw [if_neg (fun q => hne q.symm)]
      grind
  · rw [h.zer i j (by omega) hi hj, h'.zer i j (by omega) hi hj]
end Go.Proofs.YtonmlmdnjjafhaaGreat

/- Br12 -/
namespace Go.Proofs.YtonmlmdnjjafhaaGreat
set_option linter.unusedVariables false

theorem fin_eq {q : Nat} {a b : Fin q} (h : ((a.val : Nat) : Int) = ((b.val : Nat) : Int)) : a = b := Fin.ext (by omega)
variable {p : Nat} [NeZero p]

def fp (x : Int) : Fin p := ⟨(x % (p : Int)).toNat, by
  have h0 : 0 < p := Nat.pos_of_ne_zero (NeZero.ne p)
  have h1 := Int.emod_nonneg x (b := (p : Int)) (by omega)
  have h2 := Int.emod_lt_of_pos x (b := (p : Int)) (by omega)
  omega⟩
theorem fp_val (x : Int) : (((fp x : Fin p).val : Nat) : Int) = x % (p : Int) := by
  have h0 : 0 < p := Nat.pos_of_ne_zero (NeZero.ne p)
  have h1 := Int.emod_nonneg x (b := (p : Int)) (by omega)
  show (((x % (p : Int)).toNat : Nat) : Int) = _
  omega
theorem fp_eq {x y : Int} : (fp x : Fin p) = fp y ↔ x % (p : Int) = y % (p : Int) := by
  refine ⟨fun h => ?_, fun h => ?_⟩
  · have h1 := fp_val (p := p) x
    rw [h, fp_val] at h1
    exact h1.symm
  · exact fin_eq (by rw [fp_val, fp_val, h])
theorem fp_mod (x : Int) : (fp (x % (p : Int)) : Fin p) = fp x := fp_eq.2 (Int.emod_emod_of_dvd x (Int.dvd_refl _))
theorem fp_add (x y : Int) : (fp (x + y) : Fin p) = fp x + fp y := by
  apply fin_eq
  rw [fp_val, Fin.val_add]
  have := fp_val (p := p) x
  have h2 := fp_val (p := p) y
  rw [Int.natCast_emod, Int.natCast_add, this, h2, ← Int.add_emod]
theorem fp_mul (x y : Int) : (fp (x * y) : Fin p) = fp x * fp y := by
  apply fin_eq
  rw [fp_val, Fin.val_mul]
  have := fp_val (p := p) x
  have h2 := fp_val (p := p) y
  rw [Int.natCast_emod, Int.natCast_mul, this, h2, ← Int.mul_emod]
theorem fp_zero : (fp 0 : Fin p) = 0 := by
  apply fin_eq
  rw [fp_val]
  simp
theorem fp_p : (fp (p : Int) : Fin p) = 0 := by rw [← fp_zero]; exact fp_eq.2 (by simp)
theorem fp_one (hp : 2 ≤ p) : (fp 1 : Fin p) = 1 := by
  apply fin_eq
  rw [fp_val]
  have e : ((1 : Fin p).val : Nat) = 1 % p := rfl
  rw [e, Nat.mod_eq_of_lt (by omega), Int.emod_eq_of_lt (by omega) (by omega)]
  rfl
theorem fp_sub (x y : Int) : (fp (x - y) : Fin p) = fp x - fp y := by
  have h := fp_add (p := p) (x - y) y
  rw [show x - y + y = x by omega] at h
  rw [h]
  grind
theorem fp_is_zero {x : Int} (h : IsR p x) : (fp x : Fin p) = 0 ↔ x = 0 := by
  rw [← fp_zero, fp_eq]
  unfold IsR at h
  rw [Int.emod_eq_of_lt h.1 h.2]
  simp
theorem fp_inj {x y : Int} (hx : IsR p x) (hy : IsR p y) (h : (fp x : Fin p) = fp y) : x = y := by
  rw [fp_eq] at h
  unfold IsR at hx hy
  rw [Int.emod_eq_of_lt hx.1 hx.2, Int.emod_eq_of_lt hy.1 hy.2] at h
  exact h
theorem fld_of (hp : IsPr p) : Fld p := by
  have h2 := hp.1
  refine ⟨fun x hx => ?_, fun h => ?_⟩
  · refine ⟨fp ((x.val ^ (p - 2) % p : Nat) : Int), ?_⟩
    have hd : ¬ p ∣ x.val := fun q => by
      have := Nat.eq_zero_of_dvd_of_lt q x.isLt
      exact hx (Fin.ext (by simpa using this))
    have h1 := fermat_inv hp hd
    have ex : x = fp (x.val : Int) := fin_eq (by rw [fp_val, Int.emod_eq_of_lt (by omega) (by have := x.isLt; omega)])
    rw [ex, ← fp_mul, ← ex, ← fp_one h2, fp_eq]
    have h3 : ((x.val * (x.val ^ (p - 2) % p) : Nat) : Int) % (p : Int) = 1 := by
      rw [← Int.natCast_emod, h1]; rfl
    rw [Int.natCast_mul] at h3
    rw [h3, Int.emod_eq_of_lt (by omega) (by omega)]
  · have e : ((1 : Fin p).val : Nat) = 1 % p := rfl
    rw [h, Nat.mod_eq_of_lt (by omega)] at e
    simp at e
theorem inv_right (hp : IsPr p) {x : Int} (hx : IsR p x) (h0 : x ≠ 0) : (fp x : Fin p) * fp (invP p x) = 1 := by
  have h2 := hp.1
  unfold IsR at hx
  have hd : ¬ p ∣ x.toNat := fun q => by
    have := Nat.eq_zero_of_dvd_of_lt q (by omega)
    omega
  have h1 := fermat_inv hp hd
  rw [← fp_mul, ← fp_one h2, fp_eq]
  unfold invP
  have e : x = ((x.toNat : Nat) : Int) := by omega
  have h3 : ((x.toNat * (x.toNat ^ (p - 2) % p) : Nat) : Int) % (p : Int) = 1 := by
    rw [← Int.natCast_emod, h1]; rfl
  rw [Int.natCast_mul, ← e] at h3
  rw [h3, Int.emod_eq_of_lt (by omega) (by omega)]
/-- The matrix of residues over the field. -/
def mt (m : List (List Int)) (i j : Nat) : Fin p := fp (ent m i j)
theorem dvL_at {q : Nat} {b : Int} {l : List Int} {j : Nat} (hj : j < l.length) : (fp ((dvL p b l).getD j 0) : Fin p) = fp (l.getD j 0) * fp (invP p b) := by
  have e : (dvL p b l).getD j 0 = l.getD j 0 * invP p b % (p : Int) := by simp [dvL, hj]
  rw [e, fp_mod, fp_mul]
theorem tkL_at {t : Int} {l o : List Int} {j : Nat} (hj : j < l.length) (hl : o.length = l.length) : (fp ((tkL p t l o).getD j 0) : Fin p) = fp (l.getD j 0) - fp t * fp (o.getD j 0) := by
  unfold tkL
  by_cases h : t = 0
  · rw [if_pos h, h, fp_zero]; grind
  · rw [if_neg h]
    have ho : j < o.length := by omega
    have e : (List.zipWith (fun x y => (x + ((p : Int) - t) * y) % (p : Int)) l o).getD j 0 = (l.getD j 0 + ((p : Int) - t) * o.getD j 0) % (p : Int) := by simp [List.getElem?_zipWith, hj, ho]
    rw [e, fp_mod, fp_add, fp_mul, fp_sub, fp_p]
    grind
theorem ent_sw {m : List (List Int)} {a b i j : Nat} (ha : a < m.length) (hb : b < m.length) (hi : i < m.length) : ent (swE m a b) i j = ent m (if i = a then b else if i = b then a else i) j := by
  unfold ent swE
  rw [rowE_set (by simpa using hb)]
  by_cases h1 : b = i
  · subst h1
    rw [if_pos rfl]
    by_cases h2 : b = a
    · subst h2; rw [if_pos rfl]
    · rw [if_neg h2, if_pos rfl]
  · rw [if_neg h1, rowE_set ha]
    by_cases h2 : a = i
    · subst h2; rw [if_pos rfl, if_pos rfl]
    · rw [if_neg h2, if_neg (fun q => h2 q.symm), if_neg (fun q => h1 q.symm)]
/-- One column's step. -/
theorem step_rref (hp : IsPr p) {n c r : Nat} {s : St12} (ho : Ok12 p n c r s) (hc : c < n) (h : Rref r c (mt (p := p) s.m) s.pv) :
    Rref r (c + 1) (mt (p := p) (step12 p c s).m) (step12 p c s).pv ∧ Eqv n r (mt (p := p) (step12 p c s).m) (mt (p := p) s.m) := by
  have hp2 := hp.1
  have F := fld_of hp
  have hl := ho.len
  unfold step12
  split
  · rename_i hf
    rw [List.findIdx?_eq_none_iff] at hf
    refine ⟨h.skip fun i hi hir => ?_, Eqv.refl _ _ _⟩
    have hm : rowE s.m i ∈ s.m.drop s.pv.length := by
      rw [rowE_at (by omega)]
      have : (s.m.drop s.pv.length)[i - s.pv.length]'(by simp; omega) = s.m[i]'(by omega) := by
        rw [List.getElem_drop]
        congr 1
        omega
      rw [← this]
      exact List.getElem_mem _
    have := hf _ hm
    have e : (rowE s.m i).getD c 0 = 0 := by simpa using this
    show fp (ent s.m i c) = 0
    unfold ent
    rw [e, fp_zero]
  · rename_i k hf
    obtain ⟨hk1, hk2, -⟩ := List.findIdx?_eq_some_iff_getElem.1 hf
    rw [List.length_drop] at hk1
    have hkn : ent s.m (s.pv.length + k) c ≠ 0 := by
      unfold ent
      rw [rowE_at (by omega)]
      rw [List.getElem_drop] at hk2
      simpa using hk2
    have hm1 : ∃ m1, (if 0 < k then swE s.m s.pv.length (s.pv.length + k) else s.m) = m1 ∧ WidE n m1 ∧ ResM p m1 ∧ m1.length = r ∧ (∀ i j, i < r → ent m1 i j = ent s.m (if i = s.pv.length then s.pv.length + k else if i = s.pv.length + k then s.pv.length else i) j) := by
      refine ⟨_, rfl, ?_, ?_, ?_, ?_⟩
      · split
        · exact swE_wide ho.wid (by omega) (by omega)
        · exact ho.wid
      · split
        · exact swE_res ho.res
        · exact ho.res
      · split
        · simp [swE, hl]
        · exact hl
      · intro i j hi
        split
        · exact ent_sw (by omega) (by omega) (by omega)
        · obtain rfl : k = 0 := by omega
          congr 1
          split
          · omega
          · split <;> omega
    obtain ⟨m1, em, w1, r1, l1, e1⟩ := hm1
    simp only [em]
    have hR1 : Rref r c (mt (p := p) m1) s.pv := h.swap (a := s.pv.length) (b := s.pv.length + k) (by omega) (by omega) (by omega) (by omega) (fun i j hi => by unfold mt; rw [e1 i j hi])
    have hE1 : Eqv n r (mt (p := p) m1) (mt (p := p) s.m) := by
      have key : ∀ i, i < r → (if i = s.pv.length then s.pv.length + k else if i = s.pv.length + k then s.pv.length else i) < r := fun i hi => by (repeat' split) <;> omega
      refine ⟨Comb.two (f := fun i => if i = s.pv.length then s.pv.length + k else if i = s.pv.length + k then s.pv.length else i) (g := fun i => i) (a := fun _ => 1) (b := fun _ => 0) key (fun i hi => hi) (fun i j hi hj => ?_), Comb.two (f := fun i => if i = s.pv.length then s.pv.length + k else if i = s.pv.length + k then s.pv.length else i) (g := fun i => i) (a := fun _ => 1) (b := fun _ => 0) key (fun i hi => hi) (fun i j hi hj => ?_)⟩
      · show fp (ent m1 i j) = _
        rw [e1 i j hi]
        show mt s.m _ j = _
        grind
      · show fp (ent s.m i j) = 1 * fp (ent m1 _ j) + 0 * _
        rw [e1 _ j (key i hi)]
        have : (if (if i = s.pv.length then s.pv.length + k else if i = s.pv.length + k then s.pv.length else i) = s.pv.length then s.pv.length + k else if (if i = s.pv.length then s.pv.length + k else if i = s.pv.length + k then s.pv.length else i) = s.pv.length + k then s.pv.length else (if i = s.pv.length then s.pv.length + k else if i = s.pv.length + k then s.pv.length else i)) = i := by
          (repeat' split) <;> omega
        rw [this]
        grind
    have ht : s.pv.length < r := by omega
    have hx : ent m1 s.pv.length c ≠ 0 := by rw [e1 _ _ ht, if_pos rfl]; exact hkn
    have rx : IsR p (ent m1 s.pv.length c) := (r1.at s.pv.length).getD (by omega) c
    obtain ⟨x, hxx⟩ : ∃ x, ent m1 s.pv.length c = x := ⟨_, rfl⟩
    rw [hxx] at hx rx
    simp only [hxx]
    have hy := inv_right hp rx hx
    obtain ⟨rt, hrt⟩ : ∃ rt, dvL p x (rowE m1 s.pv.length) = rt := ⟨_, rfl⟩
    simp only [hrt]
    have lrt : rt.length = n := by rw [← hrt, dvL_len]; exact w1.at (by omega)
    have hrtj : ∀ j, j < n → (fp (rt.getD j 0) : Fin p) = mt m1 s.pv.length j * fp (invP p x) := fun j hj => by
      rw [← hrt, dvL_at (q := p) (by rw [w1.at (by omega)]; exact hj)]
      rfl
    have key : ∀ i j, i < r → j < n → (mt (clr p c s.pv.length rt (m1.set s.pv.length rt) m1.length) i j : Fin p) = if i = s.pv.length then mt m1 i j * fp (invP p x) else mt m1 i j - mt m1 i c * (mt m1 s.pv.length j * fp (invP p x)) := fun i j hi hj => by
      have hset : rowE (m1.set s.pv.length rt) i = if s.pv.length = i then rt else rowE m1 i := rowE_set (by omega)
      unfold mt
      show fp ((rowE (clr p c s.pv.length rt (m1.set s.pv.length rt) m1.length) i).getD j 0) = _
      rw [clr_at (by rw [List.length_set]; omega)]
      by_cases e : i = s.pv.length
      · rw [if_pos (.inl e), if_pos e, hset, if_pos e.symm, hrtj j hj, e]
        rfl
      · rw [if_neg (by omega), if_neg e]
        have he : ent (m1.set s.pv.length rt) i c = ent m1 i c := by
          unfold ent
          rw [hset, if_neg (fun q => e q.symm)]
        rw [hset, if_neg (fun q => e q.symm), he, tkL_at (by rw [w1.at (by omega)]; exact hj) (by rw [lrt, w1.at (by omega)]), hrtj j hj]
        rfl
    refine ⟨?_, Eqv.trans ?_ hE1⟩
    · have hc1 := hR1.clear (N := fun i j => if i = s.pv.length then mt m1 i j * fp (invP p x) else mt m1 i j - mt m1 i c * (mt m1 s.pv.length j * fp (invP p x))) ht (y := fp (invP p x)) (by show fp (ent m1 s.pv.length c) * _ = 1; rw [hxx]; exact hy) (fun i j hi => rfl)
      exact hc1.congr (n := n) (by omega) key
    · refine ⟨Comb.two (f := fun i => i) (g := fun _ => s.pv.length) (a := fun i => if i = s.pv.length then fp (invP p x) else 1) (b := fun i => if i = s.pv.length then 0 else -(mt m1 i c * fp (invP p x))) (fun i hi => hi) (fun _ _ => ht) (fun i j hi hj => ?_), Comb.two (f := fun i => i) (g := fun _ => s.pv.length) (a := fun i => if i = s.pv.length then fp x else 1) (b := fun i => if i = s.pv.length then 0 else mt m1 i c) (fun i hi => hi) (fun _ _ => ht) (fun i j hi hj => ?_)⟩
      · rw [key i j hi hj]
        by_cases e : i = s.pv.length
        · simp only [e, if_true]; grind
        · simp only [e, if_false]; grind
      · rw [key i j hi hj, key s.pv.length j ht hj]
        by_cases e : i = s.pv.length
        · subst e
          simp only [if_true]
          have : (fp x : Fin p) * fp (invP p x) = 1 := hy
          grind
        · simp only [e, if_false, if_true]; grind
theorem red_rref (hp : IsPr p) {n r : Nat} {m : List (List Int)} (hw : WidE n m) (hr : ResM p m) (hl : m.length = r) : ∀ c, c ≤ n → Rref r c (mt (p := p) (red12 p m c).m) (red12 p m c).pv ∧ Eqv n r (mt (p := p) (red12 p m c).m) (mt (p := p) m)
  | 0, _ => ⟨Rref.start _ _, Eqv.refl _ _ _⟩
  | c + 1, h => by
    obtain ⟨h1, h2⟩ := red_rref hp hw hr hl c (by omega)
    obtain ⟨h3, h4⟩ := step_rref hp (Ok12.red hp.1 hw hr hl c) (by omega) h1
    exact ⟨h3, h4.trans h2⟩
end Go.Proofs.YtonmlmdnjjafhaaGreat

/- Wo12 -/
namespace Go.Proofs.YtonmlmdnjjafhaaGreat
open Go.RowKit
set_option linter.unusedVariables false

theorem wideL_wide {c r : Nat} {ms : List (List Int)} (h : WidE c ms) (hl : ms.length = r) : WidE (c + r) (wideL r ms) := fun l hm => by
  obtain ⟨i, hi, rfl⟩ := List.mem_map.1 hm
  rw [List.length_append, uniR_len, h.at (by rw [hl]; exact List.mem_range.1 hi)]
theorem uniR_res {p : Nat} (hp : 2 ≤ p) (r i : Nat) : Res p (uniR r i) := fun x hx => by
  obtain ⟨j, _, rfl⟩ := List.mem_map.1 hx
  split <;> exact ⟨by omega, by omega⟩
theorem wideL_res {p r : Nat} {ms : List (List Int)} (hp : 2 ≤ p) (h : ResM p ms) : ResM p (wideL r ms) := fun l hm => by
  obtain ⟨i, hi, rfl⟩ := List.mem_map.1 hm
  intro x hx
  rcases List.mem_append.1 hx with q | q
  · exact h.at i x q
  · exact uniR_res hp r i x q
/-- The state behind worked. -/
def wkS (p r c : Nat) (zs : List Int) : St12 := red12 p (wideL r (linesL p r c zs)) (c + r)
def wkR (p r c : Nat) (zs : List Int) : Nat := cntB (wkS p r c zs).pv c
theorem wk_ok {p r c : Nat} {zs : List Int} (hp : 2 ≤ p) (hl : zs.length = r * c) : Ok12 p (c + r) (c + r) r (wkS p r c zs) :=
  Ok12.red hp (wideL_wide (linesL_wide hl) (linesL_len _ _ _ _)) (wideL_res hp (linesL_res (by omega))) (wideL_len _ _) (c + r)
theorem wk_sorted {p r c : Nat} {zs : List Int} (hp : IsPr p) (hl : zs.length = r * c) : (wkS p r c zs).pv.Pairwise (· < ·) := by
  have hp2 := hp.1
  haveI : NeZero p := ⟨by omega⟩
  exact (red_rref hp (wideL_wide (linesL_wide hl) (linesL_len _ _ _ _)) (wideL_res hp2 (linesL_res (by omega))) (wideL_len _ _) (c + r) (Nat.le_refl _)).1.sorted
theorem sback1 {f : Func} {s1 s3 : Nat} (hr : f.results = #[ResultVar.cell s1 66, ResultVar.tmp s3]) {W : World} {b : Nat} {x0 x1 x2 e : Value} (h : Cel W b 66 [x0, x1, x2]) (tmps : Array Value) (ht : tmps[s1]? = some (.pointer (some ⟨b, 0, none⟩))) (he : tmps[s3]? = some e) :
    (results f tmps).run Tryz.prog W = .ok (.tuple #[.agg #[x0, x1, x2], e]) W := by
  simp [results, hr, go_sem, ht, he, h.at (i := 0) rfl, h.at (i := 1) rfl, h.at (i := 2) rfl]
def Worked (w : World) (p r c : Nat) (zs : List Int) (e : Ending) (w' : World) : Prop :=
  ∃ lv gs pa pcap, e = .returned (.tuple #[shv p (c + r) lv, .slice pa (wkR p r c zs) pcap]) ∧ Lns w.heap.size w' lv (c + r) gs (wkS p r c zs).m ∧ Below w.heap.size w w'
set_option maxHeartbeats 3200000 in
set_option maxRecDepth 100000 in
theorem worked12 {w : World} {v : Value} {p r c : Nat} {zs : List Int} {K : Nat} (hp : gdB p = true) (h : Mx w v r c zs K) (hK : K ≤ 1099511627775) :
    Calls Tryz.prog 47 #[v, .int .u64 (p : Int)] w (Worked w p r c zs) := by
  obtain ⟨hpr, hp2⟩ := gd_parts hp
  have hp1 := hpr.1
  have hm0 := h
  obtain ⟨a, cap, rfl, hr, hc⟩ := h.form
  have hl : zs.length = r * c := by obtain ⟨_, _, _, _, _, q, _⟩ := hm0; exact q
  have OKS := hid (wk_ok (p := p) (c := c) (r := r) hp1 hl)
  have SRT := hid (wk_sorted (p := p) hpr hl)
  obtain ⟨n, hn⟩ : ∃ n, r * c = n := ⟨_, rfl⟩
  rw [hn] at hm0 ⊢
  obtain ⟨W0, hW⟩ : ∃ W0, (w.alloc (mrO (r : Int) (c : Int) a n cap)).alloc shz = W0 := ⟨_, rfl⟩
  have b0 : Below w.heap.size w W0 := by rw [← hW]; exact ((Below.refl _ _).alloc (Nat.le_refl _) _).alloc (by simp) _
  have sz0 : W0.heap.size = w.heap.size + 2 := by rw [← hW]; simp
  have P1 : Hid (Cel W0 w.heap.size 24 (mrC (r : Int) (c : Int) a n cap)) := by unfold Hid; rw [← hW]; exact (Cel.new w _ _).step (alo12 _ _).1
  have PR : Hid (Cel W0 (w.heap.size + 1) 66 [.int .u64 0, .int .i64 0, .slice none 0 0]) := by
    unfold Hid; rw [← hW]
    have := Cel.new (w.alloc (mrO (r : Int) (c : Int) a n cap)) 66 [.int .u64 0, .int .i64 0, .slice none 0 0]
    simpa using this
  have x0 := P1.out.at (i := 0) rfl
  have x1 := P1.out.at (i := 1) rfl
  have x2 := P1.out.at (i := 2) rfl
  rw [← hW] at x0 x1 x2
  have HSH := hid (sheetOf12 hp1 hp2 (hm0.now b0) hK)
  have G0 := hid b0
  have EW := hid hW
  have SZ := hid sz0
  obtain ⟨LL, hLL⟩ : ∃ LL, linesL p r c zs = LL := ⟨_, rfl⟩
  have HLN : Hid (LL.length = r) := by unfold Hid; rw [← hLL]; exact linesL_len _ _ _ _
  obtain ⟨ML, hML⟩ : ∃ ML, wideL r LL = ML := ⟨_, rfl⟩
  have HRS : Hid (ResM p ML) := by unfold Hid; rw [← hML, ← hLL]; exact wideL_res hp1 (linesL_res (by omega))
  have HMN : Hid (ML.length = r) := by unfold Hid; rw [← hML]; exact wideL_len _ _
  obtain ⟨N, hN⟩ : ∃ N, c + r = N := ⟨_, rfl⟩
  have HNN := hid hN
  have HS : Hid (wkS p r c zs = red12 p ML N) := by unfold Hid wkS; rw [hLL, hML, hN]
  obtain ⟨S, hS⟩ : ∃ S, wkS p r c zs = S := ⟨_, rfl⟩
  obtain ⟨rk, hrk⟩ : ∃ rk, wkR p r c zs = rk := ⟨_, rfl⟩
  have HRK : Hid (cntB S.pv c = rk) := by unfold Hid; rw [← hrk, ← hS]; rfl
  rw [hS] at OKS SRT HS
  have HPL : Hid (S.pv.length ≤ r) := OKS.out.piv
  have HRL : Hid (rk ≤ S.pv.length) := by unfold Hid; rw [← HRK.out]; exact cntB_le _ _
  have HBU := hML
  have HWK : Hid (∀ e w', (∃ lv gs pa pcap, e = .returned (.tuple #[shv p N lv, .slice pa rk pcap]) ∧ Lns w.heap.size w' lv N gs S.m ∧ Below w.heap.size w w') → Worked w p r c zs e w') := fun e w' q => by
    unfold Worked
    rw [hN, hrk, hS]
    exact q
  rw [hLL] at HSH
  clear b0 hW h hm0 hK hLL hl hn hpr hp hS hrk sz0 hN
  refine Calls.mono ?_ (fun e w' q => HWK.out e w' q)
  clear HWK
  go_enter Tryz.func47, Tryz.ntmps47
  go_wp2_with fail
  rw [EW.out]
  refine HSH.out.mono ?_
  rintro e w1 ⟨lv, gs, rfl, hln, b1⟩
  have HB := hid (besideUnit12 (p := p) hln HLN.out hr hc)
  rw [HBU, HNN.out] at HB
  obtain ⟨la, lcap, rfl, -, -⟩ := hln.form
  replace P1 := hid (P1.out.step b1)
  replace PR := hid (PR.out.step b1)
  have G1 := hid (below_step G0.out b1)
  have L1 : Hid (w.heap.size + 2 ≤ w1.heap.size) := by unfold Hid; have := SZ.out; have := b1.size; omega
  clear HSH hln b1 x0 x1 x2 EW G0 SZ HBU
  go_wp2_with fail
  refine HB.out.mono ?_
  rintro e w2 ⟨lv2, gs2, rfl, hln2, b2⟩
  obtain ⟨la2, lcap2, rfl, -, -⟩ := hln2.form
  rw [HMN.out] at hln2 ⊢
  obtain ⟨V, hV⟩ : ∃ V, w2.alloc (shO p N (.slice la2 r lcap2)) = V := ⟨_, rfl⟩
  obtain ⟨b3, sz3⟩ := alo12 w2 (shO p N (.slice la2 r lcap2))
  rw [hV] at b3 sz3
  have PV : Hid (Cel V w2.heap.size 66 (shc p N (.slice la2 r lcap2))) := by unfold Hid; rw [← hV]; exact Cel.new _ _ _
  replace P1 := hid ((P1.out.step b2).step b3)
  replace PR := hid ((PR.out.step b2).step b3)
  have G3 := hid (below_step (below_step G1.out b2) b3)
  have HRD := hid (reduce12 hp1 hp2 (hln2.now b3) HRS.out HMN.out hr (by have := HNN.out; omega) (Nat.le_trans b2.size b3.size))
  have L2 : Hid (w1.heap.size ≤ w2.heap.size) := b2.size
  have y0 := PV.out.at (i := 0) rfl
  have y1 := PV.out.at (i := 1) rfl
  have y2 := PV.out.at (i := 2) rfl
  rw [← hV] at y0 y1 y2
  have EV := hid hV
  clear HB hln2 b2 b3 sz3 hV G1
  go_wp2_with fail
  rw [EV.out]
  refine HRD.out.mono ?_
  rintro e w5 ⟨pvv, gs9, rfl, hpv, hln9, b9⟩
  rw [← HS.out] at hpv hln9 ⊢
  replace P1 := hid (b9.2 _ _ _ P1.out (by decide) (by decide))
  replace PR := hid (b9.2 _ _ _ PR.out (by decide) (by decide))
  replace PV := hid (b9.2 _ _ _ PV.out (by decide) (by decide))
  have G5 : Hid (Below w.heap.size w w5) := by
    unfold Hid
    exact G3.out.trans (b9.1.mono (by have := L1.out; omega))
  have HSE := hid (search12 (x := c) hpv SRT.out (by have := HPL.out; omega))
  rw [HRK.out] at HSE
  obtain ⟨pa, pcap, rfl, hpc⟩ := hpv.form
  have LN := hid hln9
  have z1 := P1.out.at (i := 1) rfl
  have HPA : Hid (∃ a2 cap2, ∀ wx, (Instr.slice 47 (.slice pa S.pv.length pcap) none (some (.int .i64 (rk : Int))) none).run Tryz.prog wx = .ok (.slice a2 rk cap2) wx) := by
    unfold Hid
    have h1 := HRL.out
    have i1 : (0 : Int) ≤ (rk : Int) := by omega
    have i2 : (rk : Int) ≤ (pcap : Int) := by omega
    obtain ⟨q1, ⟨q2, q3⟩ | ⟨g, cp, cur, q2, q3, q4, q5, q6⟩⟩ := hpv
    · simp only [Value.slice.injEq] at q2
      obtain ⟨rfl, -, rfl⟩ := q2
      obtain rfl : rk = 0 := by omega
      refine ⟨none, 0, fun wx => ?_⟩
      go_simp
    · simp only [Value.slice.injEq] at q2
      obtain ⟨rfl, -, rfl⟩ := q2
      refine ⟨some ⟨g, 0, none⟩, pcap, fun wx => ?_⟩
      go_simp
  obtain ⟨a2, cap2, hsl⟩ := HPA.out
  clear HRD hpv hln9 b9 G3 EV y0 y1 y2 HPA
  go_wp2_with fail
  refine HSE.out.mono ?_
  rintro e w6 ⟨fl, rfl, b6⟩
  replace PR := hid (PR.out.step b6)
  replace PV := hid (PV.out.step b6)
  have G6 := hid (below_step G5.out b6)
  have LN6 := hid (LN.out.now b6)
  have y0 := PV.out.at (i := 0) rfl
  have y1 := PV.out.at (i := 1) rfl
  have y2 := PV.out.at (i := 2) rfl
  have r0 := PR.out.at (i := 0) rfl
  have r1 := PR.out.at (i := 1) rfl
  have r2 := PR.out.at (i := 2) rfl
  have f0 := PR.out.fz 0
  have f1 := PR.out.fz 1
  have f2 := PR.out.fz 2
  obtain ⟨X, hX⟩ : ∃ X, (put3 w6 (w.heap.size + 1) (.int .u64 (p : Int)) (.int .i64 (N : Int)) (.slice la2 r lcap2)).drew = X := ⟨_, rfl⟩
  have bX : Below (put3 w6 (w.heap.size + 1) (.int .u64 (p : Int)) (.int .i64 (N : Int)) (.slice la2 r lcap2)).heap.size (put3 w6 (w.heap.size + 1) (.int .u64 (p : Int)) (.int .i64 (N : Int)) (.slice la2 r lcap2)) X := by rw [← hX]; exact (Below.refl _ _).drew
  have FIN : Hid (∃ lv gs pa pcap, Ending.returned (.tuple #[shv p N (.slice la2 r lcap2), .slice a2 rk cap2]) = .returned (.tuple #[shv p N lv, .slice pa rk pcap]) ∧ Lns w.heap.size X lv N gs S.m ∧ Below w.heap.size w X) :=
    ⟨_, gs9, _, _, rfl, ((((LN6.out.box PR.out (by decide) (by decide)).box (PR.out.set 0 _) (by decide) (by decide)).box ((PR.out.set 0 _).set 1 _) (by decide) (by decide)).now bX).mono (by have := L1.out; omega), below_step (below_put3 G6.out (by omega) _ _ _) bX⟩
  have PF := hid ((PR.out.put3 (.int .u64 (p : Int)) (.int .i64 (N : Int)) (.slice la2 r lcap2)).step bX)
  have EX := hid hX
  clear HSE LN G5 b6 z1 P1 LN6 G6 PR PV hX bX
  go_wp2_with fail
  go_region
  all_goals rw [EX.out]
  all_goals go_wp2
  all_goals exact bodyPost_ret (sback1 Tryz.results47 PF.out _ (by rfl) (by rfl)) rfl FIN.out
end Go.Proofs.YtonmlmdnjjafhaaGreat

/- Co12 -/
namespace Go.Proofs.YtonmlmdnjjafhaaGreat
open Go.RowKit
set_option linter.unusedVariables false

def cornL (top left : Nat) (ms : List (List Int)) : List (List Int) := (ms.drop top).map (List.drop left)
theorem step_append_sl (w : World) {ops : Array Oper} {o : Oper} {a : Act} {K : Act → World → Prop} {Q : Exit → Act → World → Prop} {E : Prop}
    (hgd : o.guard = none) (s x : Operand) (hop : o.op = .call { callee := .builtin .append, args := #[s, x], argTypes := #[64, 64] })
    (B n : Nat) (v : Value) (Us : List Value) (u : Value) (hs : a.eval s = v) (h1 : w.ownsRow B 34 1 v n Us) (gx : Nat) (hx : a.eval x = .slice (some ⟨gx, 0, none⟩) 1 1) (hc : w.cell? ⟨gx, 0, none⟩ = some u) (hu : u.oneCell' = true) (hlen : n ≤ 1000000000) (hBs : B ≤ w.heap.size)
    (hK : ∀ a' cap' w', Hid (w'.ownsRow B 34 1 (.slice (some ⟨a', 0, none⟩) (n + 1) cap') (n + 1) (Us ++ [u])) → Hid (∀ (b : Nat) (T : TypeId) (L : List Value), Cel w b T L → T ≠ 34 → Cel w' b T L) → Hid (Below B w w') → K (a.put o.dst (.slice (some ⟨a', 0, none⟩) (n + 1) cap')) w') :
    if Region.wanted o (yielded ops a.tmps) = true then Oper.wp Tryz.prog o a w K Q else E := by
  have hw : Region.wanted o (yielded ops a.tmps) = true := by simp [Region.wanted, hgd]
  rw [if_pos hw]
  obtain ⟨i, hi, hz, hsz, hby⟩ := info_parts Tryz.infoLs12
  refine wp_append_lies w s x 64 hop B 34 i (.slice none 0 0) 1 24 Tryz.underlying64 hi hz hsz hby rfl (by omega) v n Us hs h1 ⟨gx, 0, none⟩ 1 1 [u] hx rfl ?_ ?_ (by omega) (by unfold maxLen; omega) (by omega) hBs w.heap.size rfl ?_
  · intro j u' hj
    match j, hj with
    | 0, hj => simp at hj; subst hj; rw [head_add12]; exact hc
  · intro u' hu'
    simp at hu'
    subst hu'
    exact hu
  · intro g' cap' w' k1 k2 k3 k4
    refine hK _ _ w' k1 (fun b T L hC hT => cel_grown hC h1 k2 hT) ?_
    refine ⟨k2.os, k2.tape, k2.output, k2.size, fun k hk => k2.block k (by omega) (fun e => ?_)⟩
    obtain ⟨_, ⟨q, _⟩ | ⟨g1, cap1, cur, q, q3, _⟩⟩ := h1
    · rw [q] at e; cases e
    · rw [q] at e
      obtain rfl : k = g1 := by simpa [Value.ownBlock] using e
      omega
theorem own_box {B n b i : Nat} {w : World} {v u : Value} {Us : List Value} {T : TypeId} {L : List Value} (h : w.ownsRow B 34 1 v n Us) (hb : Cel w b T L) (hT2 : T ≠ 34) : (w.setCell ⟨b, i, none⟩ u).ownsRow B 34 1 v n Us := by
  refine owns_keep h fun g hg hlt => Below.heap_setCell w _ u g fun e => ?_
  have e' : g = b := e
  subst e'
  obtain ⟨q1, ⟨q2, q3⟩ | ⟨g', cap, cur, q2, q3, q4, q5⟩⟩ := h
  · rw [q2] at hg; cases hg
  · rw [q2] at hg
    simp only [Value.ownBlock, Option.some.injEq] at hg
    subst hg
    have := q4.symm.trans (show w.heap[_]? = _ from hb)
    simp only [Option.some.injEq, Obj.cells.injEq] at this
    exact hT2 this.2.1.symm
theorem own_form {B n : Nat} {w : World} {v : Value} {Us : List Value} (h : w.ownsRow B 34 1 v n Us) : ∃ a cap, v = .slice a n cap ∧ n ≤ cap := by
  obtain ⟨q1, ⟨q2, q3⟩ | ⟨g, cap, cur, q2, q3, q4, q5, q6⟩⟩ := h
  · exact ⟨none, 0, by rw [q2, q3], by omega⟩
  · exact ⟨_, cap, q2, q5⟩
/-- The right part of the line in block g. -/
abbrev cutv (left k g : Nat) : Value := .slice (some ⟨g, left, none⟩) k k
def CoH (w : World) (p N k left n : Nat) (slv : Value) (gs : List Nat) (gk : Nat) (s : Value) (wx : World) : Prop :=
  ∃ (i : Nat) (lv : Value), s = .int .i64 (i : Int) ∧ i ≤ n ∧ gk = n - i ∧ wx.ownsRow (w.heap.size + 3) 34 1 lv i ((gs.take i).map (cutv left k)) ∧ Cel wx w.heap.size 66 (shc p N slv) ∧ Cel wx (w.heap.size + 1) 66 [.int .u64 0, .int .i64 0, .slice none 0 0] ∧ Cel wx (w.heap.size + 2) 66 (shc p k lv) ∧ Below w.heap.size w wx
def Cornered (w : World) (p k : Nat) (ls : List (List Int)) (e : Ending) (w' : World) : Prop := ∃ lv, e = .returned (shv p k lv) ∧ Rdl w' lv ls ∧ Below w.heap.size w w'
set_option maxHeartbeats 3200000 in
set_option maxRecDepth 100000 in
theorem corner12 {w : World} {slv : Value} {B p N r top left : Nat} {gs0 : List Nat} {m0 : List (List Int)} (hL : Lns B w slv N gs0 m0) (hm : m0.length = r) (hr : r ≤ 64) (hN : N ≤ 1048576) (htop : top ≤ r) (hleft : left ≤ N) (hlr : 0 < r → left < N) :
    Calls Tryz.prog 48 #[shv p N slv, .int .i64 (top : Int), .int .i64 (left : Int)] w (Cornered w p (N - left) (cornL top left m0)) := by
  have LS := hid hL
  obtain ⟨a0, cap0, rfl, hcap, hform⟩ := hL.form2
  rw [hm] at hcap hform LS ⊢
  obtain ⟨a2, cap2, hs, hcap2, ha2⟩ := slice_any a0 r cap0 top htop hcap hform
  obtain ⟨k, hk⟩ : ∃ k, N - left = k := ⟨_, rfl⟩
  have hkk : IntKind.i64.wrap ((N : Int) - (left : Int)) = ((k : Nat) : Int) := by rw [wrap_is] <;> omega
  have hkk2 := hkk
  rw [IntKind.wrap_i64] at hkk2
  rw [hk]
  obtain ⟨n, hn⟩ : ∃ n, r - top = n := ⟨_, rfl⟩
  rw [hn] at hs hcap2 ha2
  obtain ⟨W0, hW⟩ : ∃ W0, ((w.alloc (shO p N (.slice a0 r cap0))).alloc shz).alloc (shO p k (.slice none 0 0)) = W0 := ⟨_, rfl⟩
  have b0 : Below w.heap.size w W0 := by rw [← hW]; exact ((((Below.refl _ _).alloc (Nat.le_refl _) _).alloc (by simp) _).alloc (by simp; omega) _)
  have PM : Hid (Cel W0 w.heap.size 66 (shc p N (.slice a0 r cap0))) := by
    unfold Hid; rw [← hW]
    exact ((Cel.new w _ _).step (alo12 _ _).1).step (alo12 _ _).1
  have PZ : Hid (Cel W0 (w.heap.size + 1) 66 [.int .u64 0, .int .i64 0, .slice none 0 0]) := by
    unfold Hid; rw [← hW]
    have := (Cel.new (w.alloc (shO p N (.slice a0 r cap0))) 66 [.int .u64 0, .int .i64 0, .slice none 0 0]).step (alo12 _ (shO p k (.slice none 0 0))).1
    simpa using this
  have PS : Hid (Cel W0 (w.heap.size + 2) 66 (shc p k (.slice none 0 0))) := by
    unfold Hid; rw [← hW]
    have := Cel.new ((w.alloc (shO p N (.slice a0 r cap0))).alloc shz) 66 (shc p k (.slice none 0 0))
    simpa using this
  have HGL : Hid (gs0.length = r) := by unfold Hid; rw [← hm]; exact hL.2.2.1
  have H0 : Hid (CoH w p N k left n (.slice a0 r cap0) (gs0.drop top) n (.int .i64 0) W0) := ⟨0, _, rfl, Nat.zero_le _, rfl, World.ownsRow_nil _ _ _ _, PM.out, PZ.out, PS.out, b0⟩
  have HM0 := hid hm
  have HLR := hid hlr
  have HA2 := hid ha2
  have HNN := hid hn
  have HKK := hid hk
  have y1 := (Cel.new w 66 (shc p N (.slice a0 r cap0))).step (alo12 _ shz).1
  have x0 := y1.at (i := 0) rfl
  have x1 := y1.at (i := 1) rfl
  have z2 := PM.out.at (i := 2) rfl
  rw [← hW] at z2
  have EW := hid hW
  clear b0 hW hL hm hform hlr PM PZ PS y1 hn ha2 hk
  go_enter Tryz.func48, Tryz.ntmps48
  go_wp2_with fail
  rw [EW.out]
  clear EW x0 x1 z2
  go_loopg [22] n (fun gk s22 wx => CoH w p N k left n (.slice a0 r cap0) (gs0.drop top) gk s22 wx)
  case atStart => exact H0.out
  case round =>
    clear H0
    obtain ⟨i, lv, rfl, hin, hgk, hln, hmm, hz0, hs0, hG⟩ := hrel
    have LN := hid hln
    have PM := hid hmm
    have PZ := hid hz0
    have PS := hid hs0
    have G := hid hG
    have HG := hid hgk
    obtain ⟨la, lcap, rfl, -⟩ := own_form hln
    clear hln hmm hz0 hs0 hG hgk
    by_cases hlt : i < n
    · have hlt' : (i : Int) < (n : Int) := by omega
      obtain ⟨L, e1, e2⟩ := HA2.out (by omega)
      subst e1
      subst e2
      have hti : top + i < r := by have := HNN.out; omega
      obtain ⟨gi, q1, q2, q3, q4⟩ := LS.out.blk (i := top + i) (by rw [HM0.out]; exact hti)
      have LSW := hid (LS.out.now G.out)
      have k0 := (LSW.out.line q1).1
      have HGI : Hid ((gs0.drop top).take i ++ [gi] = (gs0.drop top).take (i + 1)) := by
        unfold Hid
        have e : (gs0.drop top)[i]? = some gi := by rw [List.getElem?_drop]; exact q1
        obtain ⟨h1, h2⟩ := List.getElem?_eq_some_iff.1 e
        rw [List.take_succ_eq_append_getElem h1, h2]
      have hlN : left < N := HLR.out (by omega)
      have hcs : ∀ wx, (Instr.slice 34 (rowv N gi) (some (.int .i64 (left : Int))) none none).run Tryz.prog wx = .ok (cutv left k gi) wx := fun wx => by
        have i1 : (0 : Int) ≤ (left : Int) := by omega
        have i2 : (left : Int) ≤ (N : Int) := by omega
        have i3 : N ≠ left := by omega
        have i4 := HKK.out
        subst i4
        go_simp
      have hw := wrapI9 (i := i) (by omega)
      have s2 := PS.out.at (i := 2) rfl
      have HMM : Hid (n - (i + 1) < gk) := by unfold Hid; rw [HG.out]; omega
      have HB1 : Hid (w.heap.size + 3 ≤ wr.heap.size) := by unfold Hid; have := PS.out.blk; omega
      clear HG q1 q2 q3 q4 LSW
      go_wp2_with fail
      have KB : Hid (∀ w', Below wr.heap.size wr w' → w'.cell? ⟨w.heap.size + 2, 2, none⟩ = some (.slice la i lcap)) := fun w' h => cnow h s2
      refine wp_region_tail (fun w' => w'.cell? ⟨w.heap.size + 2, 2, none⟩ = some (.slice la i lcap)) 6 (by kernel_rfl) ?_
      obtain ⟨D1, hD⟩ : ∃ D1, wr.drew = D1 := ⟨_, rfl⟩
      have GB : Hid (Below wr.heap.size wr D1) := by unfold Hid; rw [← hD]; exact (Below.refl _ _).drew
      rw [hD]
      clear hD
      refine wpAnyT_take (i := 0) (oi := { dst := some 26, op := Op.fieldAddr 66 (Operand.tmp 7) 2, type := 0, pos := "sheet.go:68", after := #[], guard := none }) (v := (.pointer (some ⟨(w.heap.size + 2), 2, none⟩))) rfl (by kernel_rfl) (fun _ _ _ h => h) (Or.inl ⟨by rfl, ?_⟩) (KB.out _ GB.out) ?_
      · intro w hSw
        (try dsimp only at hSw)
        go_simp
      simp only [Act.put, List.setIfInBounds_toArray, List.set_cons_zero, List.set_cons_succ]
      refine wpAnyT_take (i := 1) (oi := { dst := some 27, op := Op.load 64 (Operand.tmp 26), type := 64, pos := "sheet.go:68", after := #[{ on := 0, ground := Ground.data }], guard := none }) (v := (.slice la i lcap)) rfl (by kernel_rfl) (fun _ _ _ h => h) (Or.inl ⟨by rfl, ?_⟩) (KB.out _ GB.out) ?_
      · intro w hSw
        (try dsimp only at hSw)
        go_simp
      simp only [Act.put, List.setIfInBounds_toArray, List.set_cons_zero, List.set_cons_succ]
      refine wpAnyT_take (i := 2) (oi := { dst := some 28, op := Op.move (Operand.tmp 9), type := 34, pos := "sheet.go:68", after := #[], guard := none }) (v := (rowv N gi)) rfl (by kernel_rfl) (fun _ _ _ h => h) (Or.inl ⟨by rfl, ?_⟩) (KB.out _ GB.out) ?_
      · intro w hSw
        (try dsimp only at hSw)
        go_simp
      simp only [Act.put, List.setIfInBounds_toArray, List.set_cons_zero, List.set_cons_succ]
      refine wpAnyT_take (i := 3) (oi := { dst := some 29, op := Op.move (Operand.tmp 2), type := 3, pos := "sheet.go:68", after := #[], guard := none }) (v := (.int .i64 (left : Int))) rfl (by kernel_rfl) (fun _ _ _ h => h) (Or.inl ⟨by rfl, ?_⟩) (KB.out _ GB.out) ?_
      · intro w hSw
        (try dsimp only at hSw)
        go_simp
      simp only [Act.put, List.setIfInBounds_toArray, List.set_cons_zero, List.set_cons_succ]
      refine wpAnyT_take (i := 4) (oi := { dst := some 30, op := Op.slice 34 (Operand.tmp 28) (some (Operand.tmp 29)) none none, type := 34, pos := "sheet.go:68", after := #[{ on := 2, ground := Ground.data }, { on := 3, ground := Ground.data }], guard := none }) (v := (cutv left k gi)) rfl (by kernel_rfl) (fun _ _ _ h => h) (Or.inl ⟨by rfl, ?_⟩) (KB.out _ GB.out) ?_
      · intro w hSw
        (try dsimp only at hSw)
        go_simp
      simp only [Act.put, List.setIfInBounds_toArray, List.set_cons_zero, List.set_cons_succ]
      refine wpAnyT_one (i := 5) (o := { dst := some 31, op := Op.buildSlice 64 1 #[(0, Operand.tmp 30)], type := 64, pos := "sheet.go:68", after := #[{ on := 4, ground := Ground.data }], guard := none }) (by kernel_rfl) rfl (fun K hK => ?_)
      go_simp
      obtain ⟨V2, hW⟩ : ∃ V2, D1.alloc (.cells #[cutv left k gi] 34) = V2 := ⟨_, rfl⟩
      obtain ⟨b, sz2⟩ := alo12 D1 (.cells #[cutv left k gi] 34)
      rw [hW] at b sz2
      replace GB := hid (below_step GB.out b)
      have CB : Hid (Cel V2 D1.heap.size 34 [cutv left k gi]) := by unfold Hid; rw [← hW]; exact Cel.new _ _ _
      rw [hW]
      clear hW b
      refine hK.out _ _ (fun _ => KB.out _ GB.out) ?_
      clear hK
      try simp only [Act.put]
      refine wpAnyT_one (i := 6) (o := { dst := some 32, op := Op.call { callee := Callee.builtin Builtin.append, args := #[Operand.tmp 27, Operand.tmp 31], argTypes := #[64, 64] }, type := 64, pos := "sheet.go:68", after := #[{ on := 1, ground := Ground.data }, { on := 5, ground := Ground.data }], guard := none }) (by kernel_rfl) rfl (fun K hK => ?_)
      have LN2 := hid (owns_keep LN.out fun b _ hlt => GB.out.block b hlt)
      have q0 := CB.out.at (i := 0) rfl
      refine step_append_sl _ rfl (.tmp 27) (.tmp 31) rfl (w.heap.size + 3) i (.slice la i lcap) (((gs0.drop top).take i).map (cutv left k)) (cutv left k gi) rfl LN2.out D1.heap.size rfl q0 rfl (by omega) (by have := GB.out.size; have := HB1.out; omega) ?_
      intro a9 cap9 w9 LN9 KC9 BB9
      have e9 : ((gs0.drop top).take i).map (cutv left k) ++ [cutv left k gi] = ((gs0.drop top).take (i + 1)).map (cutv left k) := by rw [← HGI.out]; simp
      rw [e9] at LN9
      have PM9 := hid (KC9.out _ _ _ (PM.out.step GB.out) (by decide))
      have PZ9 := hid (KC9.out _ _ _ (PZ.out.step GB.out) (by decide))
      have PS9 := hid (KC9.out _ _ _ (PS.out.step GB.out) (by decide))
      have G9 : Hid (Below w.heap.size w w9) := by
        unfold Hid
        exact (below_step G.out GB.out).trans (BB9.out.mono (by omega))
      have r2 := PS9.out.at (i := 2) rfl
      have f2 := PS9.out.fz 2
      have HN1 : Hid (CoH w p N k left n (.slice (some ⟨L, 0, none⟩) r cap0) (gs0.drop top) (n - (i + 1)) (.int .i64 ((i + 1 : Nat) : Int)) (w9.setCell ⟨w.heap.size + 2, 2, none⟩ (.slice (some ⟨a9, 0, none⟩) (i + 1) cap9))) :=
        ⟨i + 1, _, rfl, by omega, rfl, own_box LN9.out PS9.out (by decide), PM9.out.ne (by omega), PZ9.out.ne (by omega), PS9.out.set 2 _, bset G9.out (by omega)⟩
      clear LN LN2 LN9 PM PM9 PZ PZ9 PS PS9 KC9 BB9 G G9 GB KB CB HGI e9 s2 q0 hs HB1 k0 hcs
      refine hK.out _ _ (fun h => absurd h (by decide)) ?_
      clear hK
      try simp only [Act.put]
      refine wpAnyT_one (i := 7) (o := { dst := some 33, op := Op.fieldAddr 66 (Operand.tmp 7) 2, type := 0, pos := "sheet.go:68", after := #[{ on := 0, ground := Ground.phase }, { on := 1, ground := Ground.phase }, { on := 2, ground := Ground.phase }, { on := 3, ground := Ground.phase }, { on := 4, ground := Ground.phase }, { on := 5, ground := Ground.phase }, { on := 6, ground := Ground.phase }], guard := none }) (by kernel_rfl) rfl (fun K hK => ?_)
      go_simp
      refine hK.out _ _ (fun h => absurd h (by decide)) ?_
      clear hK
      try simp only [Act.put]
      refine wpAnyT_one (i := 8) (o := { dst := none, op := Op.store 64 (Operand.tmp 33) (Operand.tmp 32), type := 0, pos := "sheet.go:68", after := #[{ on := 7, ground := Ground.data }, { on := 6, ground := Ground.data }, { on := 6, ground := Ground.chain }, { on := 0, ground := Ground.phase }, { on := 1, ground := Ground.phase }, { on := 2, ground := Ground.phase }, { on := 3, ground := Ground.phase }, { on := 4, ground := Ground.phase }, { on := 5, ground := Ground.phase }, { on := 6, ground := Ground.phase }], guard := none }) (by kernel_rfl) rfl (fun K hK => ?_)
      go_simp
      refine hK.out _ _ (fun h => absurd h (by decide)) ?_
      clear hK
      try simp only [Act.put]
      refine wpAnyT_done (by kernel_rfl) ?_ _
      go_wp2_with fail
      go_roundg (n - (i + 1))
      case rel => exact HN1.out
      case measure => exact HMM.out
    · have hlt' : ¬ (i : Int) < (n : Int) := by omega
      obtain rfl : i = n := by omega
      have x0 := PS.out.at (i := 0) rfl
      have x1 := PS.out.at (i := 1) rfl
      have x2 := PS.out.at (i := 2) rfl
      have y0 := PZ.out.at (i := 0) rfl
      have y1 := PZ.out.at (i := 1) rfl
      have y2 := PZ.out.at (i := 2) rfl
      have g0 := PZ.out.fz 0
      have g1 := PZ.out.fz 1
      have g2 := PZ.out.fz 2
      have hcl : (cornL top left m0).length = i := by unfold cornL; rw [List.length_map, List.length_drop, HM0.out]; exact HNN.out
      have FIN : Hid (Cornered w p k (cornL top left m0) (.returned (shv p k (.slice la i lcap))) (put3 wr (w.heap.size + 1) (.int .u64 (p : Int)) (.int .i64 (k : Int)) (.slice la i lcap))) := by
        refine ⟨_, rfl, ?_, below_put3 G.out (by omega) _ _ _⟩
        have O2 := own_box (i := 2) (u := .slice la i lcap) (own_box (i := 1) (u := .int .i64 (k : Int)) (own_box (i := 0) (u := .int .u64 (p : Int)) LN.out PZ.out (by decide)) (PZ.out.set 0 _) (by decide)) ((PZ.out.set 0 _).set 1 _) (by decide)
        have B2 : Below w.heap.size w (put3 wr (w.heap.size + 1) (.int .u64 (p : Int)) (.int .i64 (k : Int)) (.slice la i lcap)) := below_put3 G.out (by omega) _ _ _
        obtain ⟨X, hX⟩ : ∃ X, put3 wr (w.heap.size + 1) (.int .u64 (p : Int)) (.int .i64 (k : Int)) (.slice la i lcap) = X := ⟨_, rfl⟩
        have LSX := LS.out.now B2
        have O3 : X.ownsRow (w.heap.size + 3) 34 1 (.slice la i lcap) i (((gs0.drop top).take i).map (cutv left k)) := by rw [← hX]; exact O2
        rw [hX] at LSX ⊢
        obtain ⟨a9, c9, e9, hc9⟩ := own_form O3
        simp only [Value.slice.injEq, true_and] at e9
        refine ⟨la, lcap, by rw [hcl], by rw [hcl]; have := e9.2; omega, by rw [hcl]; have := HNN.out; omega, ?_⟩
        by_cases hz : i = 0
        · exact .inl (List.eq_nil_of_length_eq_zero (hcl.trans hz))
        · have O4 := O3
          obtain ⟨q1, ⟨q2, q3⟩ | ⟨g, cp, cur, q2, q3, q4, q5, q6⟩⟩ := O3
          · exact absurd q3 hz
          · simp only [Value.slice.injEq] at q2
            obtain ⟨rfl, -, -⟩ := q2
            refine .inr ⟨g, 0, rfl, (Array.getElem?_eq_some_iff.1 q4).1, fun j xs hj => ?_⟩
            have hj' : j < i := by have := (List.getElem?_eq_some_iff.1 hj).1; rw [hcl] at this; exact this
            have hti : top + j < r := by have := HNN.out; omega
            obtain ⟨gj, e1, e2, e3, e4⟩ := LSX.blk (i := top + j) (by rw [HM0.out]; exact hti)
            have ec := World.ownsRow.cellAt O4 j (by omega)
            have eu : (((gs0.drop top).take i).map (cutv left k))[j]? = some (cutv left k gj) := by
              rw [List.getElem?_map, List.getElem?_take, if_pos hj', List.getElem?_drop, e1]; rfl
            refine ⟨cutv left k gj, by rw [Nat.zero_add, ec, eu], ?_⟩
            have ex : xs = (rowE m0 (top + j)).drop left := by
              unfold cornL at hj
              rw [List.getElem?_map, List.getElem?_drop] at hj
              unfold rowE
              rw [List.getD_eq_getElem?_getD]
              rw [List.getElem?_eq_getElem (by rw [HM0.out]; exact hti)] at hj ⊢
              simp at hj ⊢
              exact hj.symm
            have hxl : xs.length = k := by rw [ex, List.length_drop, e4]; exact HKK.out
            refine ⟨gj, left, k, by rw [hxl], by omega, e3.lt, fun t ht => ?_⟩
            have hb : left + t < (rowE m0 (top + j)).length := by rw [hxl] at ht; rw [e4]; have := HKK.out; omega
            have := (Row.nil12.2 e3).word (i := left + t) hb
            rw [this]
            congr 2
            subst ex
            rw [List.getElem_drop]
      have PF := hid (PZ.out.put3 (.int .u64 (p : Int)) (.int .i64 (k : Int)) (.slice la i lcap))
      clear LN PM PZ PS G HG hcl
      go_wp2
      exact bodyPost_ret (sback Tryz.results48 PF.out _ (by rfl)) rfl FIN.out
end Go.Proofs.YtonmlmdnjjafhaaGreat
