import Derived.Test.YtplldfnldaehiaaGreatQRl14ToCd14
set_option maxRecDepth 100000
set_option maxHeartbeats 6400000
set_option linter.unusedVariables false
set_option linter.unusedSimpArgs false
namespace Go.Proofs.YtplldfnldaehiaaGreat
open Go.RowKit Go.Shelf
attribute [local go_sem] Oper.semAt_some
theorem zjB {W V : World} {bg : Nat} {x y u u' : Value} {B0 B' : Nat} (hb : Below W.heap.size W V) (d : Duo V bg x y) : KeepsFrom B0 W ((V.setCell ⟨bg, 0, none⟩ u).setCell ⟨bg, 1, none⟩ u') ∧ KpL (· = bg) B' W ((V.setCell ⟨bg, 0, none⟩ u).setCell ⟨bg, 1, none⟩ u') := by
 have k := put_keeps14 (B0 := B0) (B' := B') (u := u) (u' := u') d; refine ⟨⟨Nat.le_trans hb.size k.1.1, fun j o hj e ho => k.1.2 j o hj ((hb.block j (Array.getElem?_eq_some_iff.1 e).1).trans e) ho⟩, (KpL.of hb).trans k.2⟩
theorem zMB {B0 : Nat} {X Y Z : World} (h : KeepsFrom B0 X Y) (h' : KeepsFrom B0 Y Z) : KeepsFrom B0 X Z := ⟨Nat.le_trans h.1 h'.1, fun j o hj e ho => h'.2 j o hj (h.2 j o hj e ho) ho⟩
theorem keeps_of14 {B0 : Nat} {X Y : World} (h : Below X.heap.size X Y) : KeepsFrom B0 X Y := ⟨h.size, fun j o hj e ho => (h.block j (Array.getElem?_eq_some_iff.1 e).1).trans e⟩
theorem commonDivisor_any {w : World} {va : Value} {m n k kk : Nat} {zs : List Int} (ha : Mx w va m n zs kk) (hkk : 64 * kk + 7 ≤ 4000000000) (hkm : k ≤ m) (hkn : k ≤ n) :
  Calls Tryz.prog 37 #[va, .int .i64 (k : Int)] w (zbA w (gcs (cpL (en n zs) m n k (cho n k) (cho m k) 0)) (64 * kk + 7)) := by
 refine (callsIn_wide (n := 6)).1 ?_; have M0 := ha; obtain ⟨aa, ca, rfl, hm64, hn64⟩ := ha.form; have HZA : Hid (∀ z ∈ zs, (z.natAbs : Int) < pw kk) := by obtain ⟨_, _, _, _, h, _⟩ := ha; exact h.lt
 obtain ⟨la, hla⟩ : ∃ la, m * n = la := ⟨_, rfl⟩
 rw [hla] at M0 ⊢; obtain ⟨U0, hU0⟩ : ∃ U0, ((w.alloc (matO m n (.slice aa la ca))).alloc (.cells #[.int .i64 (k : Int)] 3)).alloc zbox = U0 := ⟨_, rfl⟩
 obtain ⟨bu, szu⟩ := zgB w (matO m n (.slice aa la ca)) (.cells #[.int .i64 (k : Int)] 3) zbox; rw [hU0] at bu szu; obtain ⟨W0, hW⟩ : ∃ W0, U0.alloc zbox = W0 := ⟨_, rfl⟩
 obtain ⟨bx, sz0⟩ := alo1 U0 zbox; rw [hW] at bx sz0; have b0 := below_step bu bx; have PA : Hid (Cel W0 w.heap.size 24 (matc m n (.slice aa la ca))) := by
  unfold Hid; refine Cel.step ?_ bx; rw [← hU0]; exact ((Cel.new w 24 (matc m n (.slice aa la ca))).step ((Below.refl _ _).alloc (Nat.le_refl _) _)).step ((Below.refl _ _).alloc (Nat.le_refl _) _)
 have PK : Hid (Cel W0 (w.heap.size + 1) 3 [.int .i64 (k : Int)]) := by
  unfold Hid; refine Cel.step ?_ bx; rw [← hU0]; have := (Cel.new (w.alloc (matO m n (.slice aa la ca))) 3 [.int .i64 (k : Int)]).step ((Below.refl _ _).alloc (Nat.le_refl _) zbox)
  simpa using this
 have PR : Hid (Duo W0 (w.heap.size + 1 + 1) (.bool false) (.slice none 0 0)) := by
  unfold Hid; refine Duo.step ?_ bx; rw [← hU0]; have := Duo.new ((w.alloc (matO m n (.slice aa la ca))).alloc (.cells #[.int .i64 (k : Int)] 3)) (.bool false) (.slice none 0 0)
  simpa using this
 have PG : Hid (Duo W0 (w.heap.size + 1 + 1 + 1) (.bool false) (.slice none 0 0)) := by
  unfold Hid; rw [← hW, ← szu]; exact Duo.new U0 _ _
 have MA := hid (M0.now b0); have G := hid b0; have HOF := hid (of_z (n := 1) (by decide) (by decide) W0); have EU := hid hU0; have EW := hid hW; have SZ : Hid (w.heap.size + 1 + 1 + 1 < W0.heap.size) := by unfold Hid; omega
 clear ha M0 b0 sz0 szu hW hU0 hla bu bx; refine callsIn_of_wp_marks Tryz.func37 rfl trivial ?_ rfl; simp only [Tryz.ntmps37, List.size_toArray, List.length_cons, List.length_nil, Nat.reduceAdd, Nat.reduceSub, Array.replicate_succ, Array.replicate_zero, List.push_toArray, List.append_toArray, List.nil_append, List.cons_append]; gi_wp2_with fail; rw [EU.out, EW.out]; clear EU EW; refine ⟨trivial, (callsIn_wide.2 HOF.out).mono ?_⟩; rintro e w1 ⟨r1, rfl, m1, b⟩; have m1' := m1.mono (Nat.zero_le _); obtain ⟨n1, x1_, a1, c1, rfl⟩ := m1.parts; obtain ⟨l1, hl1⟩ : ∃ l1, x1_.length = l1 := ⟨_, rfl⟩
 rw [hl1] at m1' ⊢; obtain ⟨V1, hV1⟩ : ∃ V1, w1.alloc (duo (.bool n1) (.slice a1 l1 c1)) = V1 := ⟨_, rfl⟩
 obtain ⟨b1, sz1⟩ := alo1 w1 (duo (.bool n1) (.slice a1 l1 c1)); rw [hV1] at b1 sz1; have P1 : Hid (Duo V1 w1.heap.size (.bool n1) (.slice a1 l1 c1)) := by unfold Hid; rw [← hV1]; exact Duo.new w1 _ _
 have Z1 := hid (m1'.now b1); replace PA := hid ((PA.out.step b).step b1); replace PK := hid ((PK.out.step b).step b1); replace PR := hid ((PR.out.step b).step b1); replace PG := hid ((PG.out.step b).step b1); replace MA := hid ((MA.out.now b).now b1); replace G := hid (below_step (below_step G.out b) b1); have lzV1 : Hid (w1.heap.size < V1.heap.size) := by unfold Hid; omega
 have lz1 : Hid (w.heap.size + 1 + 1 + 1 < w1.heap.size) := by unfold Hid; have := b.size; have := SZ.out; omega
 have HTF := hid (tableFor_g (kk := (k : Int)) MA.out (by omega) (by omega) (by omega) (by omega)); have x0 := PA.out.at (i := 0) rfl; have x1 := PA.out.at (i := 1) rfl; have x2 := PA.out.at (i := 2) rfl; have x3 := PK.out.at (i := 0) rfl; rw [← hV1] at x0 x1 x2 x3; have EV := hid hV1; clear b b1 sz1 hV1 HOF m1 m1' hl1; gi_wp2_with fail; rw [EV.out]; clear EV x0 x1 x2 x3; refine ⟨trivial, (callsIn_wide.2 HTF.out).mono ?_⟩; rintro e w2 ⟨vt, rfl, htf, b⟩; obtain ⟨bt, ga, gb, go, bs, os, F, d, rk, rfl, hbt, htm, htb, hrk, hga, hgb, hgo⟩ := htf; obtain ⟨V2, hV2⟩ : ∃ V2, w2.alloc (.cells #[.pointer (some ⟨bt, 0, none⟩)] 74) = V2 := ⟨_, rfl⟩
 obtain ⟨b2, sz2⟩ := alo1 w2 (.cells #[.pointer (some ⟨bt, 0, none⟩)] 74); rw [hV2] at b2 sz2; have PT : Hid (Cel V2 w2.heap.size 74 [.pointer (some ⟨bt, 0, none⟩)]) := by unfold Hid; rw [← hV2]; exact Cel.new w2 _ _
 replace PA := hid ((PA.out.step b).step b2); replace PK := hid ((PK.out.step b).step b2); replace PR := hid ((PR.out.step b).step b2); replace PG := hid ((PG.out.step b).step b2); replace P1 := hid ((P1.out.step b).step b2); replace Z1 := hid ((Z1.out.now b).now b2); replace G := hid (below_step (below_step G.out b) b2); have lz2 : Hid (w1.heap.size < w2.heap.size) := by unfold Hid; have h1 := b.size; have h2 := lzV1.out; omega
 have lzV2 : Hid (w2.heap.size < V2.heap.size) := by unfold Hid; omega
 have HGA : Hid (w1.heap.size < ga) := by unfold Hid; have := lzV1.out; omega
 have TM := hid (htm.now b2); have TB := hid htb; have HRK := hid hrk; have HST := hid (zaD (w := V2) (n := m) (k := k)); have x0 := PA.out.at (i := 0) rfl; have x3 := PK.out.at (i := 0) rfl; rw [← hV2] at x0 x3; have EV := hid hV2; clear b b2 sz2 hV2 HTF htm htb hrk hbt hga hgb hgo MA; gi_wp2_with fail; rw [EV.out]; clear EV x0 x3; refine ⟨trivial, (callsIn_wide.2 HST.out).mono ?_⟩; rintro e w3 ⟨bn, bk, rfl, cn, ck, hbn, hbk, b⟩; replace PA := hid (PA.out.step b); replace PK := hid (PK.out.step b); replace PR := hid (PR.out.step b); replace PG := hid (PG.out.step b); replace P1 := hid (P1.out.step b); replace Z1 := hid (Z1.out.now b); replace PT := hid (PT.out.step b); replace TM := hid (TM.out.now b); replace G := hid (below_step G.out b); have CN := hid cn; have CK := hid ck; have lz3 : Hid (w2.heap.size < w3.heap.size) := by unfold Hid; have h1 := b.size; have h2 := lzV2.out; omega
 obtain ⟨ba, hba⟩ : ∃ ba, w.heap.size = ba := ⟨_, rfl⟩
 obtain ⟨bk0, hbk0⟩ : ∃ bk0, ba + 1 = bk0 := ⟨_, rfl⟩
 obtain ⟨br, hbr⟩ : ∃ br, bk0 + 1 = br := ⟨_, rfl⟩
 obtain ⟨bg, hbg⟩ : ∃ bg, br + 1 = bg := ⟨_, rfl⟩
 obtain ⟨b1, hb1⟩ : ∃ b1, w1.heap.size = b1 := ⟨_, rfl⟩
 obtain ⟨bT, hbT⟩ : ∃ bT, w2.heap.size = bT := ⟨_, rfl⟩
 rw [hba, hbk0] at PK; rw [hba, hbk0, hbr] at PR; rw [hba, hbk0, hbr, hbg] at PG; rw [hba] at PA; rw [hb1] at P1; rw [hbT] at PT; have EBA := hid hba; have O1 : Hid (ba < bk0 ∧ bk0 < br ∧ br < bg ∧ bg < b1 ∧ b1 < bT ∧ bT < w3.heap.size ∧ bT < bn ∧ bT < bk ∧ b1 < ga) := by
  unfold Hid; have := lz1.out; have := lz2.out; have := lz3.out; have := lzV2.out; have := HGA.out; omega
 rw [hba, hbk0, hbr, hbg, hb1, hbT]; clear HST cn ck b hbn hbk hba hbk0 hbr hbg hb1 hbT lz1 lz2 lz3 lzV1 lzV2 SZ HGA; gi_wp2_with fail; obtain ⟨R, hR⟩ : ∃ R, cho m k = R := ⟨_, rfl⟩
 obtain ⟨C, hC⟩ : ∃ C, cho n k = C := ⟨_, rfl⟩
 have ER : Hid ((zVA m k).length = R) := by unfold Hid; rw [← hR]; exact zkC m m k
 have ECC : Hid ((zVA n k).length = C) := by unfold Hid; rw [← hC]; exact zkC n n k
 have ERR := hid hR; have EC := hid hC; obtain ⟨KW, hKW⟩ : ∃ KW, 64 * kk + 7 = KW := ⟨_, rfl⟩
 have EKW := hid hKW; rw [hKW] at TM hkk; have HFIT : Hid (∀ f, ((dcl (en n zs) m n f).natAbs : Int) < pw KW) := fun f => by rw [← hKW]; exact zIF HZA.out hm64
 clear hR hC hKW; refine rangeL (σ := Nat × Nat) (α := Value) (by decide) rfl (enters_of Tryz.func74 (by kernel_rfl) rfl) (fun x => #[x]) (fun _ => rfl)
  (CDo w w3 ga br bg b1 (.bool n1) (.slice a1 l1 c1) (zF m n F) (en n zs) m n k R C KW) (CDo.own (by have := O1.out; have := EBA.out; omega)) (AtS m k) (fun s x => AtS.own s x) (fun s _ => (s.1, s.2 + 1))
  (fun s => KpL (· = bg) s.1) (fun h h' => h.trans h') (fun s W l o o' _ h1 h2 => KpL.put h1 h2)
  (fun s gs A => gs < s.1 ∧ ∃ L, A.heap[gs]? = some (.cells L 3 (0, 0))) (fun s A B gs h h1 h2 t => ?js) (fun s => s.2 = 0 ∧ w3.heap.size ≤ s.1) (fun s => s.2 = R) ?ini
  (fun c W => CdX w br KW c W ∧ gcs (cpL (en n zs) m n k C R 0) = 1) (fun c _ W W' row hs hg hr => ⟨CdX.own (by have := O1.out; have := EBA.out; omega) c () W W' row hs.1 hg hr, hs.2⟩) ?it
  (fun x a' W => ∃ brow, w3.heap.size ≤ brow ∧ Cel W brow 34 [x] ∧ a' = { tmps := #[matv m n (.slice aa la ca), .int .i64 (k : Int), .pointer (some ⟨ba, 0, none⟩), .pointer (some ⟨bk0, 0, none⟩), .pointer (some ⟨br, 0, none⟩), .pointer (some ⟨bg, 0, none⟩), .pointer (some ⟨b1, 0, none⟩), .pointer (some ⟨bT, 0, none⟩), .pointer (some ⟨brow, 0, none⟩), undef, .agg #[.bool n1, .slice a1 l1 c1], .agg #[.int .i64 (m : Int), .int .i64 (n : Int), .slice aa la ca], .int .i64 (k : Int), .pointer (some ⟨bt, 0, none⟩), .pointer (some ⟨ba, 0, none⟩), .int .i64 (m : Int), .int .i64 (k : Int), .func (.func 74) #[] #[.pointer (some ⟨bn, 0, none⟩), .pointer (some ⟨bk, 0, none⟩)], x, undef, undef, undef, undef, undef, undef, undef, undef, undef, undef, undef, undef, undef, undef, undef, undef, undef], defers := [] }) (fun x a' _ W W' row hs hg hr => ?ax) ?assign ?body ?done ?stop
 case js =>
  obtain ⟨q1, q2, q3⟩ := h; obtain ⟨_, L, hL⟩ := h2; exact ⟨q1, q2, q3.tou h1 hL t (by have := O1.out; have := EBA.out; omega)⟩
 case ini =>
  rintro ⟨B, t⟩ ⟨ht, hB⟩; dsimp only at ht hB; subst ht; refine ⟨hB, Nat.zero_le _, Ty.of (Below.refl _ _), TM.out.arr, P1.out, PR.out, ⟨false, none, 0, 0, PG.out, ?_⟩, G.out⟩; exact zm_nil _ _ _
 case it =>
  intro l J' Jy W hW hJ hJb hJs' hJ0 hY; have o := O1.out; have hh := (zgE (S := (· = bg)) (nn := 5) (l := l) (by decide) hm64 hkm J' ((CN.out.step hW).at (i := 0) rfl) ((CK.out.step hW).at (i := 0) rfl) (by show ¬ bn = bg; omega) (by show ¬ bk = bg; omega) hJb (fun s A B gs h h1 h2 t => hJs' s A B gs h h1 h2 t) (fun B hB => hJ0 _ ⟨rfl, Nat.le_trans hW.size hB⟩) (fun b hb => by have hb' : b = bg := hb; have := hW.size; omega) Jy (fun s x X h1 h2 => hY s x X h1 h2))
  refine hh.mono fun e Y h => ?_
  rw [ER.out] at h; exact h
 case ax =>
  obtain ⟨brow, q1, q2, q3⟩ := hs; exact ⟨brow, q1, (zfA hg fun r e => (hr r e).2).cel q2, q3⟩
 case assign =>
  intro l s x W K hj hat hK; obtain ⟨ax, cx, hx, -, -⟩ := hat.2.2.form; obtain ⟨lx_, hlx⟩ : ∃ lx_, ((zVA m k).getD s.2 []).length = lx_ := ⟨_, rfl⟩
  rw [hlx] at hx; subst hx; have b1_ := (alo1 W (.cells #[.slice ax lx_ cx] 34)).1; have HKK := hid (hK { tmps := #[matv m n (.slice aa la ca), .int .i64 (k : Int), .pointer (some ⟨ba, 0, none⟩), .pointer (some ⟨bk0, 0, none⟩), .pointer (some ⟨br, 0, none⟩), .pointer (some ⟨bg, 0, none⟩), .pointer (some ⟨b1, 0, none⟩), .pointer (some ⟨bT, 0, none⟩), .pointer (some ⟨W.heap.size, 0, none⟩), undef, .agg #[.bool n1, .slice a1 l1 c1], .agg #[.int .i64 (m : Int), .int .i64 (n : Int), .slice aa la ca], .int .i64 (k : Int), .pointer (some ⟨bt, 0, none⟩), .pointer (some ⟨ba, 0, none⟩), .int .i64 (m : Int), .int .i64 (k : Int), .func (.func 74) #[] #[.pointer (some ⟨bn, 0, none⟩), .pointer (some ⟨bk, 0, none⟩)], (.slice ax lx_ cx), undef, undef, undef, undef, undef, undef, undef, undef, undef, undef, undef, undef, undef, undef, undef, undef, undef], defers := [] } (W.alloc (.cells #[.slice ax lx_ cx] 34)) ((KeepsOthers.alloc _ _).from _) (KpL.of b1_) (by
   obtain ⟨q1, q2, q3⟩ := hj; exact ⟨q1, q2, q3.now b1_⟩) (by
   obtain ⟨q1, q2, q3⟩ := hat; exact ⟨q1, Nat.le_trans q2 b1_.size, q3.now b1_⟩) ⟨W.heap.size, by
    obtain ⟨q1, q2, q3⟩ := hj; exact q3.ty.1, Cel.new W _ _, rfl⟩)
  clear hK b1_ hlx; gi_wp2; exact HKK.out
 case body =>
  rintro l ⟨B1, t⟩ x a' W hl ⟨r0, hr0⟩ ⟨hB1, htR, hcp⟩ ⟨ht, hBs, hrows⟩ ⟨brow, hbrow, crow, rfl⟩; dsimp only at hB1 htR hcp ht hBs hrows ⊢; have o := O1.out; obtain ⟨rm1, rm2, rm3⟩ := zUC ht; obtain ⟨rows, hrw⟩ : ∃ rows, (zVA m k).getD t [] = rows := ⟨_, rfl⟩
  rw [hrw] at hrows rm1 rm2 rm3; have ERW := hid hrw; obtain ⟨ax, cx, hx, -, -⟩ := hrows.form; rw [rm1] at hx; subst hx; have CP1 := hid hcp; have CR1 := hid crow; have IV1 := hid hrows; have HL0 := hid hr0; have HRO : Hid (∀ b, (Value.slice ax k cx).ownBlock = some b → b < W.heap.size) := fun b hb => hrows.lt13 hb
  have hbrW := crow.blk; have HST2 := hid (zaD (w := W) (n := n) (k := k)); have g2 := (PA.out.ty13 hcp.ty (by decide)).at (i := 1) rfl; have g3 := (PK.out.ty13 hcp.ty (by decide)).at (i := 0) rfl; have HT := hid ht; have HRM := hid (⟨rm1, rm2, rm3⟩ : rows.length = k ∧ rows.Pairwise (· < ·) ∧ ∀ x ∈ rows, x < m); clear hcp crow hrows hr0 hrw ht rm1 rm2 rm3; gi_wp2_with fail; clear g2 g3; refine ⟨trivial, (CallsIn.inRound l (callsIn_wide.2 HST2.out)).mono ?_⟩; rintro e wi ⟨bn2, bk2, rfl, cn2, ck2, hbn2, hbk2, b⟩; have CN2 := hid cn2; have CK2 := hid ck2; have BI := hid b; have hwi := b.size; have hwL : w3.heap.size ≤ W.heap.size := by omega
  clear HST2 cn2 ck2 b; gi_wp2_with fail; refine rangeM (σ := Nat × Nat) (α := Value) (l₀ := l) (r₀ := r0) ((BI.out.block l (Array.getElem?_eq_some_iff.1 HL0.out).1).trans HL0.out) (by decide) rfl (enters_of Tryz.func74 (by kernel_rfl) rfl) (fun x => #[x]) (fun _ => rfl)
   (CDi w w3 W wi ga br bg b1 brow (.bool n1) (.slice a1 l1 c1) (zF m n F) (en n zs) m n k C KW B1 t (.slice ax k cx) rows) (CDi.own (by have := EBA.out; omega) (by omega)) (AtS n k) (fun s x => AtS.own s x) (fun s _ => (s.1, s.2 + 1))
   (fun s => KpL (· = bg) s.1) (fun h h' => h.trans h') (fun s W l o o' _ h1 h2 => KpL.put h1 h2)
   (fun s gs A => gs < s.1 ∧ ∃ L, A.heap[gs]? = some (.cells L 3 (0, 0))) (fun s A B gs h h1 h2 t => ?js2) (fun s => s.2 = 0 ∧ wi.heap.size ≤ s.1) (fun s => s.2 = C) ?ini2
   (fun c Y => (CdX w br KW c Y ∧ gcs (cpL (en n zs) m n k C R 0) = 1) ∧ KeepsFrom w3.heap.size W Y) (fun c _ W_ W' row hs hg hr => ⟨⟨CdX.own (by have := EBA.out; omega) c () W_ W' row hs.1.1 hg hr, hs.1.2⟩, ownFrom_keepsFrom (β := Unit) (by omega) () W_ W' row hs.2 hg hr⟩) ?it2
   (fun y => { tmps := #[matv m n (.slice aa la ca), .int .i64 (k : Int), .pointer (some ⟨ba, 0, none⟩), .pointer (some ⟨bk0, 0, none⟩), .pointer (some ⟨br, 0, none⟩), .pointer (some ⟨bg, 0, none⟩), .pointer (some ⟨b1, 0, none⟩), .pointer (some ⟨bT, 0, none⟩), .pointer (some ⟨brow, 0, none⟩), y, .agg #[.bool n1, .slice a1 l1 c1], .agg #[.int .i64 (m : Int), .int .i64 (n : Int), .slice aa la ca], .int .i64 (k : Int), .pointer (some ⟨bt, 0, none⟩), .pointer (some ⟨ba, 0, none⟩), .int .i64 (m : Int), .int .i64 (k : Int), .func (.func 74) #[] #[.pointer (some ⟨bn, 0, none⟩), .pointer (some ⟨bk, 0, none⟩)], (.slice ax k cx), .pointer (some ⟨ba, 1, none⟩), .int .i64 (n : Int), .int .i64 (k : Int), .func (.func 74) #[] #[.pointer (some ⟨bn2, 0, none⟩), .pointer (some ⟨bk2, 0, none⟩)], y, undef, undef, undef, undef, undef, undef, undef, undef, undef, undef, undef, undef], defers := [] }) ?assign2 ?body2 ?done2 ?stop2
  case js2 =>
   obtain ⟨_, L, hL⟩ := h2; exact h.tou h1 hL t (by have := EBA.out; omega) (by omega) (fun b hb => by have := HRO.out b hb; omega) (by omega)
  case ini2 =>
   rintro ⟨B2, u⟩ ⟨hu0, hB2⟩; dsimp only at hu0 hB2; subst hu0; exact ⟨hB2, Nat.zero_le _, CR1.out.step BI.out, IV1.out.now BI.out, keeps_of14 BI.out, KpL.of BI.out, CP1.out.now BI.out⟩
  case it2 =>
   intro l2 J' Jy X hX hJ hJb hJs' hJ0 hY; have hh := (zgE (S := (· = bg)) (nn := 3) (l := l2) (by decide) hn64 hkn J' ((CN2.out.step hX).at (i := 0) rfl) ((CK2.out.step hX).at (i := 0) rfl)
    (by show ¬ bn2 = bg; omega) (by show ¬ bk2 = bg; omega) hJb (fun s A B gs h h1 h2 t => hJs' s A B gs h h1 h2 t) (fun B hB => hJ0 _ ⟨rfl, Nat.le_trans hX.size hB⟩)
    (fun b hb => by have hb' : b = bg := hb; have := hX.size; omega) Jy (fun s x X h1 h2 => hY s x X h1 h2))
   refine hh.mono fun e Y h => ?_
   rw [ECC.out] at h; exact h
  case assign2 =>
   intro l2 y X K hK; have HKK := hid hK; clear hK; gi_wp2; exact HKK.out
  case done2 =>
   rintro ⟨B2, u⟩ X hfin ⟨q1, q2, q3, q4, q5, q6, q7⟩; dsimp only at hfin q7; subst hfin; rw [zTE] at q7; have FIN : Hid (KeepsFrom w3.heap.size W X ∧ CDo w w3 ga br bg b1 (.bool n1) (.slice a1 l1 c1) (zF m n F) (en n zs) m n k R u KW (B1, t + 1) X ∧ KpL (· = bg) B1 W X) := ⟨q5, ⟨hB1, by have := HT.out; rw [ER.out] at this; omega, q7⟩, q6⟩
   clear q1 q2 q3 q4 q5 q6 q7; gi_wp2; exact FIN.out
  case stop2 =>
   rintro c X ⟨⟨⟨rfl, hx⟩, h1⟩, hkf⟩; have FIN : Hid (KeepsFrom w3.heap.size W X ∧ CdX w br KW .ret X ∧ gcs (cpL (en n zs) m n k C R 0) = 1) := ⟨hkf, ⟨rfl, hx⟩, h1⟩
   clear hx h1 hkf; gi_wp2; exact FIN.out
  case body2 =>
   rintro l2 ⟨B2, u⟩ y X ⟨hB2, huC, crow2, hiv2, hkf, hkp, hcp2⟩ ⟨hu, hBs2, hcols⟩; dsimp only at hB2 huC hcp2 hu hBs2 hcols ⊢; obtain ⟨cm1, cm2, cm3⟩ := zUC hu; obtain ⟨cols, hcw⟩ : ∃ cols, (zVA n k).getD u [] = cols := ⟨_, rfl⟩
   rw [hcw] at hcols cm1 cm2 cm3; obtain ⟨ay, cy, hy, -, -⟩ := hcols.form; rw [cm1] at hy; subst hy; obtain ⟨n0, a0, l0, c0, hg0, hz0⟩ := hcp2.g; have hTM := TM.out.tyI14 hcp2.ty hcp2.arr; have HMI : Hid (∀ X', Below X.heap.size X X' → Calls Tryz.prog 45 #[.pointer (some ⟨bt, 0, none⟩), .slice ax k cx, .slice ay k cy] X' (zbA X' (cpE (en n zs) m n k t u) KW)) := fun X' hb => by
    have := zeE (A := en n zs) (rows := rows) (cols := cols) (hTM.now hb) TB.out HRK.out HFIT.out hkk ((hiv2.now hb).in9 (by rw [HRM.out.1]; omega)) ((hcols.now hb).in9 (by rw [cm1]; omega)) HRM.out.1 cm1 (HRM.out.2.1.imp fun h => Nat.ne_of_lt h) (cm2.imp fun h => Nat.ne_of_lt h) HRM.out.2.2 cm3 (by omega); unfold cpE; rw [ERW.out, hcw]; exact this
   have HG0 := hid hg0; have HZ0 := hid hz0; have HC2 := hid hcp2; have HCR := hid crow2; have HIV := hid hiv2; have HKF := hid hkf; have HKP := hid hkp; have z0 := hg0.c0; have z3 := hg0.c1; have z1 := (PT.out.ty13 hcp2.ty (by decide)).at (i := 0) rfl; have z2 := crow2.at (i := 0) rfl; have HUC : Hid (u < C) := by unfold Hid; rw [← ECC.out]; exact hu
   have HTR : Hid (t < R) := by unfold Hid; have := HT.out; rw [ER.out] at this; exact this
   have HWX : Hid (w.heap.size ≤ X.heap.size) := hcp2.bw.size; have hbgX := hg0.blk; clear hg0 hz0 hcp2 crow2 hiv2 hkf hkp hcols cm1 cm2 cm3 hcw hTM hu; gi_wp2_with fail; have KB : Hid (∀ w', Below X.heap.size X w' → w'.cell? ⟨bg, 0, none⟩ = some (.bool n0) ∧ w'.cell? ⟨bg, 1, none⟩ = some (.slice a0 l0 c0) ∧ w'.cell? ⟨bT, 0, none⟩ = some (.pointer (some ⟨bt, 0, none⟩)) ∧ w'.cell? ⟨brow, 0, none⟩ = some (.slice ax k cx)) := fun w' h => ⟨cnow h z0, cnow h z3, cnow h z1, cnow h z2⟩
   refine zPD (by kernel_rfl) (zeD (by kernel_rfl)) (by rintro ⟨a, w, h⟩; rcases (show _ ∨ _ from h) with q | ⟨cd, (q | ⟨i, q, _⟩), _⟩; (· cases q.1); (· cases q.1); (· cases q)) (wpAny_of_tail (S := fun w' => w'.cell? ⟨bg, 0, none⟩ = some (.bool n0) ∧ w'.cell? ⟨bg, 1, none⟩ = some (.slice a0 l0 c0) ∧ w'.cell? ⟨bT, 0, none⟩ = some (.pointer (some ⟨bt, 0, none⟩)) ∧ w'.cell? ⟨brow, 0, none⟩ = some (.slice ax k cx)) (n := 6) _ _ _ _ ?_); obtain ⟨D61, hD⟩ : ∃ D61, X.drew = D61 := ⟨_, rfl⟩
   have GB : Hid (Below X.heap.size X D61) := by unfold Hid; rw [← hD]; exact (Below.refl _ _).drew
   rw [hD]; clear hD; refine zBA [(0, (.agg #[.bool n0, .slice a0 l0 c0])), (1, (.pointer (some ⟨bt, 0, none⟩))), (2, (.slice ax k cx)), (3, (.slice ay k cy))] 4 ?_ (KB.out _ GB.out) ?_
   ·simp only [zJA, gA9, g09, g19, Act.put, sI9, s09, s19]; (repeat' (first | exact trivial | refine And.intro (Or.inl ⟨by rfl, ?_⟩) ?_)) <;> (intro w hSw; (try dsimp only at hSw); go_simp)
   simp only [actV, gA9, g09, g19, Act.put, sI9, s09, s19]; refine zAA (i := 4) (o := ⟨some 28, .call { callee := .value (.func 45), args := #[.tmp 25, .tmp 26, .tmp 27], argTypes := #[74, 34, 34] }, 37, "minors.go:112", #[⟨1, .data⟩, ⟨2, .data⟩, ⟨3, .data⟩], none⟩) (by kernel_rfl) rfl (fun K hK => ?_); go_simp; go_at_call 45; refine (HMI.out _ GB.out).mono ?_; rintro e w62 ⟨r1, rfl, m1, b⟩; have lz62 := (show Below _ _ _ from b).size; replace GB := hid (below_step GB.out b); have MM := hid (m1.mono (Nat.zero_le _)); obtain ⟨nm, xm, am, cm, rfl⟩ := m1.parts; obtain ⟨lm, hlm⟩ : ∃ lm, xm.length = lm := ⟨_, rfl⟩
   rw [hlm] at MM ⊢; clear m1 hlm; clear b; refine hK.out _ _ (fun _ => KB.out _ GB.out) ?_; clear hK; refine zAA (i := 5) (o := ⟨some 29, .call { callee := .value (.func 40), args := #[.tmp 24, .tmp 28], argTypes := #[37, 37] }, 37, "minors.go:112", #[⟨0, .data⟩, ⟨4, .data⟩, ⟨4, .chain⟩], none⟩) (by kernel_rfl) rfl (fun K hK => ?_); have hs0 := GB.out.size; go_simp; go_at_call 40; refine (ziJ (HZ0.out.now GB.out).zi MM.out.zi (by omega)).mono ?_; rintro e w63 ⟨r1, rfl, m1, b⟩; have lz63 := (show Below _ _ _ from b).size; replace GB := hid (below_step GB.out b); have MG := hid (m1.mono (B' := w.heap.size) (by have := HWX.out; omega)); rw [← zCI, zRG] at MG; obtain ⟨nq, xq, aq, cq, rfl⟩ := m1.parts; obtain ⟨lq, hlq⟩ : ∃ lq, xq.length = lq := ⟨_, rfl⟩
   rw [hlq] at MG ⊢; clear m1 hlq MM; clear b; refine hK.out _ _ (fun _ => KB.out _ GB.out) ?_; clear hK; refine zAA (i := 6) (o := ⟨none, .store 37 (.tmp 5) (.tmp 29), 0, "minors.go:112", #[⟨5, .data⟩, ⟨5, .chain⟩, ⟨0, .phase⟩, ⟨1, .phase⟩, ⟨2, .phase⟩, ⟨3, .phase⟩, ⟨4, .phase⟩, ⟨5, .phase⟩], none⟩) (by kernel_rfl) rfl (fun K hK => ?_); have GD := hid (HG0.out.step GB.out); have h0 := GD.out.c0; have h1 := GD.out.c1; have h2 := GD.out.fz 0; have h3 := GD.out.fz 1; go_simp; clear h0 h1 h2 h3; obtain ⟨V64, hW⟩ : ∃ V64, ((w63.setCell ⟨bg, 0, none⟩ (.bool nq)).setCell ⟨bg, 1, none⟩ (.slice aq lq cq)) = V64 := ⟨_, rfl⟩
   have NC : Hid (CdJ w w3 ga br bg b1 (.bool n1) (.slice a1 l1 c1) (zF m n F) (gcs (cpL (en n zs) m n k C t (u + 1))) KW V64) := by
    unfold Hid; rw [← hW]; exact (HC2.out.now GB.out).put ⟨by omega, by omega, by omega⟩ (by have := EBA.out; omega) MG.out
   have NG : Hid (Duo V64 bg (.bool nq) (.slice aq lq cq)) := by unfold Hid; rw [← hW]; exact GD.out.set _ _
   have NM : Hid (Zm w.heap.size V64 (.agg #[.bool nq, .slice aq lq cq]) (gcs (cpL (en n zs) m n k C t (u + 1))) KW) := by unfold Hid; rw [← hW]; exact MG.out.ty (GD.out.ty13 _ _) (by decide)
   have NK : Hid (KeepsFrom wi.heap.size X V64 ∧ KpL (· = bg) B2 X V64) := by unfold Hid; rw [← hW]; exact zjB GB.out GD.out
   have NK3 : Hid (KeepsFrom w3.heap.size X V64 ∧ KpL (· = bg) B1 X V64) := by unfold Hid; rw [← hW]; exact zjB GB.out GD.out
   have R9 : Hid (Cel V64 brow 34 [.slice ax k cx]) := by unfold Hid; rw [← hW]; exact (HCR.out.step GB.out).ty13 (GD.out.ty13 _ _) (by decide)
   have I9 : Hid (Ivs 0 V64 (.slice ax k cx) rows) := by unfold Hid; rw [← hW]; exact (HIV.out.now GB.out).keep fun b L _ e => (GD.out.ty13 _ _).2 b _ _ _ e (by decide)
   rw [hW]; clear hW; refine hK.out _ _ (fun h => absurd h (by decide)) ?_; clear hK
   try simp only [Act.put]
   refine zDA (by kernel_rfl) ?_ _; obtain ⟨Y0, hY0⟩ : ∃ Y0, V64 = Y0 := ⟨_, rfl⟩
   rw [hY0] at NC NG NM NK NK3 R9 I9 ⊢; clear hY0 GB KB GD MG z0 z1 z2 z3; have HCM := hid (cmp_z NM.out.zi (Z1.out.ty NC.out.ty (by decide)).zi); have y0 := NG.out.c0; have y1 := NG.out.c1; have y2 := NC.out.one.c0; have y3 := NC.out.one.c1; gi_wp2_with fail; clear y0 y1 y2 y3; refine ⟨trivial, (CallsIn.inRound l2 (callsIn_wide.2 HCM.out)).mono ?_⟩; rintro e Y ⟨rfl, b⟩; have BY := hid b; clear b HCM
   by_cases hone : gcs (cpL (en n zs) m n k C t (u + 1)) = 1
   ·have q0 : cmpI (gcs (cpL (en n zs) m n k C t (u + 1))) 1 = 0 := zuF.2 hone
    have HALL : Hid (gcs (cpL (en n zs) m n k C R 0) = 1) := gcs_all HUC.out HTR.out hone; rw [q0]; rw [hone] at NM; have NCY := hid (NC.out.now BY.out); have NGY := hid (NG.out.step BY.out); have y0 := NGY.out.c0; have y1 := NGY.out.c1; have y2 := NCY.out.r.c0; have y3 := NCY.out.r.c1; have y4 := NCY.out.r.fz 0; have y5 := NCY.out.r.fz 1; obtain ⟨U, hU⟩ : ∃ U, (Y.setCell ⟨br, 0, none⟩ (.bool nq)).setCell ⟨br, 1, none⟩ (.slice aq lq cq) = U := ⟨_, rfl⟩
    have FIN : Hid (KeepsFrom wi.heap.size X U ∧ (CdX w br KW .ret U ∧ gcs (cpL (en n zs) m n k C R 0) = 1) ∧ KeepsFrom w3.heap.size W U) := by
     refine ⟨?_, ⟨⟨rfl, nq, aq, lq, cq, ?_, ?_, ?_⟩, HALL.out⟩, ?_⟩
     ·rw [← hU]; exact zMB NK.out.1 (zjB (B' := 0) BY.out NCY.out.r).1
     ·rw [← hU]; exact NCY.out.r.set _ _
     ·rw [← hU]; exact (NM.out.now BY.out).ty (NCY.out.r.ty13 _ _) (by decide)
     ·rw [← hU]; exact bset (bset NCY.out.bw (by have := EBA.out; omega)) (by have := EBA.out; omega)
     ·rw [← hU]; exact zMB (zMB HKF.out NK3.out.1) (zjB (B' := 0) BY.out NCY.out.r).1
    have EU := hid hU; clear NC NG NM NK NK3 R9 I9 NCY NGY BY hU q0; gi_wp2; rw [EU.out]; exact FIN.out
   ·have q0 : ¬ cmpI (gcs (cpL (en n zs) m n k C t (u + 1))) 1 = 0 := fun h => hone (zuF.1 h)
    have q1 : (cmpI (gcs (cpL (en n zs) m n k C t (u + 1))) 1 == 0) = false := by simpa using q0
    have FIN : Hid (KeepsFrom wi.heap.size X Y ∧ CDi w w3 W wi ga br bg b1 brow (.bool n1) (.slice a1 l1 c1) (zF m n F) (en n zs) m n k C KW B1 t (.slice ax k cx) rows (B2, u + 1) Y ∧ KpL (· = bg) B2 X Y) := ⟨zMB NK.out.1 (keeps_of14 BY.out), ⟨hB2, HUC.out, R9.out.step BY.out, I9.out.now BY.out, zMB (zMB HKF.out NK3.out.1) (keeps_of14 BY.out), (HKP.out.trans NK3.out.2).trans (KpL.of BY.out), NC.out.now BY.out⟩, NK.out.2.trans (KpL.of BY.out)⟩
    clear NC NG NM NK NK3 R9 I9 BY; gi_wp2; exact FIN.out
 case done =>
  rintro D ⟨B, t⟩ W hDs hl ⟨hB, htR, hcp⟩ hD; dsimp only at hl hB htR hcp; subst hl; have o := O1.out; obtain ⟨n0, a0, l0, c0, hg0, hz0⟩ := hcp.g; have x0 := hg0.c0; have x1 := hg0.c1; have r0 := hcp.r.c0; have r1 := hcp.r.c1; have f0 := hcp.r.fz 0; have f1 := hcp.r.fz 1; obtain ⟨U, hU⟩ : ∃ U, (W.setCell ⟨br, 0, none⟩ (.bool n0)).setCell ⟨br, 1, none⟩ (.slice a0 l0 c0) = U := ⟨_, rfl⟩
  have tyU : Ty 37 W U := by rw [← hU]; exact hcp.r.ty13 _ _
  have hK1 : U.heap[D]? = some (.deferred (some [])) := by
   rw [← hU]; exact ((KeepsOthers.setCell W ⟨br, 0, none⟩ _).trans (KeepsOthers.setCell _ ⟨br, 1, none⟩ _)).same D _ hD rfl
  have d2 : Duo U br (.bool n0) (.slice a0 l0 c0) := by rw [← hU]; exact hcp.r.set _ _
  have b2 : Below w.heap.size w U := by rw [← hU]; exact bset (bset hcp.bw (by have := EBA.out; omega)) (by have := EBA.out; omega)
  have kg := zfA (grownBy_putObj' U D (.deferred none)) (fun r e => by cases e; exact ⟨_, hK1, rfl⟩); have PP := hid (d2.kc14 kg); have BB := b2.trans (belowK_b (w := w) (Nat.le_refl _) _ D _ (.deferred none) (by have := EBA.out; omega) hK1 rfl rfl); have HZ : Hid (zbA w (gcs (cpL (en n zs) m n k C t 0)) KW (.returned (.agg #[.bool n0, .slice a0 l0 c0])) (U.putObj D (.deferred none))) := ⟨_, rfl, (hz0.ty tyU (by decide)).kc kg, BB⟩
  have HK := hid hK1; have EU := hid hU; clear hcp hg0 hz0 hU hK1 d2 b2 kg BB hD tyU; gi_wp2; rw [EU.out]; refine ⟨by simp, .inl ⟨_, _, rfl, run_takeDeferred HK.out, ?_⟩⟩; exact ⟨_, zlA Tryz.results37 PP.out _ (by rfl), by rw [ERR.out, EC.out, EKW.out]; exact HZ.out⟩
 case stop =>
  rintro D c W hDs ⟨⟨rfl, n0, a0, l0, c0, hd, hz, hb⟩, h1⟩ hD; have kg := zfA (grownBy_putObj' W D (.deferred none)) (fun r e => by cases e; exact ⟨_, hD, rfl⟩); have PP := hid (hd.kc14 kg); have BB := hb.trans (belowK_b (w := w) (Nat.le_refl _) _ D _ (.deferred none) (by have := O1.out; have := EBA.out; omega) hD rfl rfl); have HZ : Hid (zbA w (gcs (cpL (en n zs) m n k C R 0)) KW (.returned (.agg #[.bool n0, .slice a0 l0 c0])) (W.putObj D (.deferred none))) := by
   unfold Hid; rw [h1]; exact ⟨_, rfl, hz.kc kg, BB⟩
  have HK := hid hD; clear hd hz hb hD kg BB h1; gi_wp2; refine ⟨by simp, .inl ⟨_, _, rfl, run_takeDeferred HK.out, ?_⟩⟩; exact ⟨_, zlA Tryz.results37 PP.out _ (by rfl), by rw [ERR.out, EC.out, EKW.out]; exact HZ.out⟩
end Go.Proofs.YtplldfnldaehiaaGreat
