/-
  Lists: the walk of MulnatLists.
-/
import Derived.Test.YtagfekcocdjhlabProduct
import Derived.Test.YtagfekcocdjhlabFresh
import Derived.Test.YtagfekcocdjhlabWake
namespace Go.Proofs.Ytagfekcocdjhlab
open Go.RowKit
set_option linter.unusedVariables false

theorem Try.infoL : (Try.prog.info? 22).map (fun i => (i.zero, i.size, i.bytes)) = some (some (.slice none 0 0), 1, 24) := by kernel_rfl
theorem prodv_reverse (Xs : List (List Int)) : prodv Xs.reverse = prodv Xs := by
  induction Xs with
  | nil => rfl
  | cons x r ih => rw [List.reverse_cons, prodv_append, ih, prodv, prodv, prodv]; grind
theorem tot_reverse (Xs : List (List Int)) : tot Xs.reverse = tot Xs := by
  induction Xs with
  | nil => rfl
  | cons x r ih => rw [List.reverse_cons, tot_append, ih, tot, tot, tot]; omega
theorem prodv_take_succ (Xs : List (List Int)) (i : Nat) (h : i < Xs.length) : prodv (Xs.take (i + 1)) = prodv (Xs.take i) * val Xs[i] := by
  rw [List.take_succ_eq_append_getElem h, prodv_append]
  simp [prodv]
theorem tot_take_le (Xs : List (List Int)) (i : Nat) : tot (Xs.take i) ≤ tot Xs := by have := tot_halves Xs i; omega
theorem tot_drop_le (Xs : List (List Int)) (i : Nat) : tot (Xs.drop i) ≤ tot Xs := by have := tot_halves Xs i; omega
theorem len_le_tot : ∀ (Xs : List (List Int)) (i : Nat) (h : i < Xs.length), Xs[i].length ≤ tot Xs
  | [], i, h => by simp at h
  | x :: r, 0, _ => by simp [tot]
  | x :: r, i + 1, h => by
    have := len_le_tot r i (by simpa using h)
    simp only [List.getElem_cons_succ, tot]
    omega
theorem Mine.formed {B : Nat} {w : World} {v : Value} {zs : List Int} (h : Mine B w v zs) : Formed v := by
  obtain ⟨_, ⟨h1, _⟩ | ⟨g, r, cap, _, _, _, _, h1, _⟩⟩ := h
  · exact .inl h1
  · exact .inr ⟨_, _, _, h1⟩
theorem addr_at (g j : Nat) : (⟨g, 0, none⟩ : Addr).add j = ⟨g, j, none⟩ := by unfold Addr.add; split <;> simp_all
theorem owns_now {w w' : World} {base n : Nat} {v : Value} {Us : List Value} (h : w.ownsRow base 22 1 v n Us) (hb : Below w.heap.size w w') : w'.ownsRow base 22 1 v n Us := by
  obtain ⟨h1, h2 | ⟨g, cap, cur, h2, h3, h4, h5⟩⟩ := h
  · exact ⟨h1, .inl h2⟩
  · exact ⟨h1, .inr ⟨g, cap, cur, h2, h3, (hb.block g (Array.getElem?_eq_some_iff.1 h4).1).trans h4, h5⟩⟩
theorem mine_grown {B base n : Nat} {w w' : World} {u v : Value} {zs : List Int} {Us : List Value} (h : Mine B w u zs) (ho : w.ownsRow base 22 1 v n Us) (hg : w.grownBy w' v.ownBlock) : Mine B w' u zs := by
  obtain ⟨hw, h | ⟨g, r, cap, h1, h2, h3, h4, h5, h6⟩⟩ := h
  · exact ⟨hw, .inl h⟩
  · refine ⟨hw, .inr ⟨g, r, cap, h1, h2, h3, h4, h5, (hg.block g h6.lt fun e => ?_).trans h6⟩⟩
    obtain ⟨_, ⟨q, _⟩ | ⟨g', cap', cur, q, _, q4, _⟩⟩ := ho
    · rw [q] at e; cases e
    · rw [q] at e
      simp only [Value.ownBlock, Option.some.injEq] at e
      subst e
      have := h6.symm.trans q4
      simp at this
/-- The copied lists, the last first. -/
def Backs (B : Nat) (w : World) (p : Value) (Us : List Value) (Xs : List (List Int)) (k : Nat) : Prop :=
  w.ownsRow B 22 1 p Us.length Us ∧ Us.length + k = Xs.length ∧ ∀ j (h : j < Us.length) (h' : Xs.length - 1 - j < Xs.length), Mine B w Us[j] Xs[Xs.length - 1 - j]
theorem Backs.ls {B : Nat} {w : World} {p : Value} {Us : List Value} {Xs : List (List Int)} (h : Backs B w p Us Xs 0) (hl : Xs.length ≤ 2097152) : Ls w.heap.size w p Xs.reverse := by
  obtain ⟨h1, h2, h3⟩ := h
  have e : Xs.reverse.length = Us.length := by simp; omega
  have h1' := h1
  obtain ⟨q1, ⟨q2, q3⟩ | ⟨g, cap, cur, q2, q3, q4, q5, q6, q7, q8⟩⟩ := h1
  · refine ⟨none, 0, by rw [q2, e, q3], by omega, by omega, .inl ?_⟩
    exact List.eq_nil_of_length_eq_zero (by omega)
  · refine ⟨_, cap, by rw [q2, e], by omega, by omega, .inr ⟨g, 0, rfl, (Array.getElem?_eq_some_iff.1 q4).1, fun j hj => ?_⟩⟩
    have hj' : j < Us.length := by omega
    refine ⟨Us[j], ?_, ?_, ?_⟩
    · have := World.ownsRow.cells h1' (g := g) (by rw [q2]; rfl) j Us[j] (by simp [hj'])
      rw [addr_at] at this
      rw [Nat.zero_add]
      exact this
    · have := (h3 j hj' (by omega)).sl
      rw [List.getElem_reverse]
      exact this
    · exact (h3 j hj' (by omega)).formed
theorem backs_start (B : Nat) (w : World) (Xs : List (List Int)) : Backs B w (.slice none 0 0) [] Xs Xs.length :=
  ⟨World.ownsRow_nil w B _ 1, by simp, fun j h => by simp at h⟩
theorem Backs.step {B : Nat} {wr w2 w3 : World} {p p' u : Value} {Us : List Value} {Xs : List (List Int)} {m : Nat} (h : Backs B wr p Us Xs (m + 1)) (hb : Below wr.heap.size wr w2) (hu : ∀ h' : m < Xs.length, Mine B w2 u Xs[m])
    (ho : w3.ownsRow B 22 1 p' (Us.length + 1) (Us ++ [u])) (hg : w2.grownBy w3 p.ownBlock) : Backs B w3 p' (Us ++ [u]) Xs m := by
  obtain ⟨h1, h2, h3⟩ := h
  have h1' := owns_now h1 hb
  refine ⟨by simpa using ho, by simp; omega, fun j hj h' => ?_⟩
  by_cases e : j < Us.length
  · rw [List.getElem_append_left e]
    exact mine_grown ((h3 j e h').below hb) h1' hg
  · have ej : j = Us.length := by simp at hj; omega
    subst ej
    have em : Xs.length - 1 - Us.length = m := by omega
    simp only [List.getElem_concat_length, em]
    exact mine_grown (hu (by omega)) h1' hg

theorem wpList_append_list (w : World) {ops : Array Oper} {rest : List Oper} {o : Oper} {a : Act} {Q : Exit → Act → World → Prop}
    (hgd : o.guard = none) (s x : Operand) (hop : o.op = Op.call { callee := Callee.builtin Builtin.append, args := #[s, x], argTypes := #[32, 32] })
    (B : Nat) (p u : Value) (Us : List Value) (hs : a.eval s = p) (hown : w.ownsRow B 22 1 p Us.length Us) (ad : Addr) (hx : a.eval x = .slice (some ad) 1 1) (hc : w.cell? ad = some u) (h1 : u.oneCell' = true) (hl : Us.length ≤ 2097152) (hB : B ≤ w.heap.size)
    (hK : ∀ p' w', Hid (w'.ownsRow B 22 1 p' (Us.length + 1) (Us ++ [u])) → Hid (w.grownBy w' p.ownBlock) → wpList Try.prog ops Q rest (a.put o.dst p') w') :
    wpList Try.prog ops Q (o :: rest) a w := by
  obtain ⟨i, hi, hz, hsz, hb⟩ := info_parts Try.infoL
  refine wpList_append_own w hgd s x 32 hop B 22 i (.slice none 0 0) 1 24 Try.underlying32 hi hz hsz hb rfl (by omega) p Us.length Us hs hown ad 1 1 [u] hx rfl ?_ ?_ (by unfold maxLen; omega) (by omega) hB ?_
  · intro j v hj
    match j, hj with
    | 0, hj => simp at hj; subst hj; simpa [Addr.add] using hc
  · intro v hv
    simp at hv
    subst hv
    exact h1
  · intro p' w' ho hgr _
    exact hK p' w' ho hgr
theorem sl_one1 {B : Nat} {w : World} {a : Option Addr} {n cap : Nat} {x : Int} (h : Sl B w (.slice a n cap) [x]) : ∃ b o, a = some ⟨b, o, none⟩ ∧ w.cell? ⟨b, o, none⟩ = some (.int .u64 x) := by
  obtain ⟨_, a', cap', he, hlc, _, hm⟩ := h
  simp only [Value.slice.injEq] at he
  obtain ⟨rfl, _, rfl⟩ := he
  rcases hm with e | ⟨b, off, rfl, _, hcell⟩
  · cases e
  exact ⟨b, off, rfl, hcell 0 (by simp)⟩
theorem prodv_one {zs : List Int} (h : Canon zs) (hv : val zs = prodv []) : zs = [1] := canon_inj h ⟨wf_word (by omega) WF.nil, rfl⟩ (by rw [hv]; simp [val, prodv])
theorem ls_nil (B : Nat) (w : World) : Ls B w (.slice none 0 0) [] := ⟨none, 0, rfl, Nat.le_refl _, Nat.zero_le _, .inl rfl⟩
theorem ls_empty (B : Nat) (w : World) (a : Option Addr) (cap : Nat) : Ls B w (.slice a 0 cap) [] := ⟨a, cap, rfl, Nat.zero_le _, Nat.zero_le _, .inl rfl⟩
theorem Sl.slice_form {B : Nat} {w : World} {v : Value} {xs : List Int} (h : Sl B w v xs) : ∃ a cap, v = .slice a xs.length cap := by obtain ⟨_, a, ca, e, _⟩ := h; exact ⟨a, ca, e⟩
theorem Ls.at_ {w : World} {b off n cap : Nat} {Xs : List (List Int)} (h : Ls w.heap.size w (.slice (some ⟨b, off, none⟩) n cap) Xs) (hn : Xs.length = n) {j : Nat} (hj : j < Xs.length) : b < w.heap.size ∧ ∃ u, w.cell? ⟨b, off + j, none⟩ = some u ∧ Sl w.heap.size w u Xs[j] ∧ Formed u := by
  obtain ⟨a', cap', he, h2, h2', h3⟩ := h
  simp only [Value.slice.injEq] at he
  obtain ⟨rfl, _, rfl⟩ := he
  rcases h3 with rfl | ⟨b', off', h4, h5, h6⟩
  · simp at hj
  · simp only [Option.some.injEq, Addr.mk.injEq, and_true] at h4
    obtain ⟨rfl, rfl⟩ := h4
    exact ⟨h5, h6 j hj⟩

set_option maxRecDepth 100000 in
set_option maxHeartbeats 12800000 in
theorem lists_more {w : World} {b off n cap : Nat} {Xs : List (List Int)} (h : Ls w.heap.size w (.slice (some ⟨b, off, none⟩) n cap) Xs) (HN : Hid (Xs.length = n)) (hn : 0 < n) (hnc : n ≤ cap) (hnm : n ≤ 1048576) (ht : tot Xs ≤ 1048576) {cut : Int} (hc : -9223372036854775808 ≤ cut ∧ cut ≤ 9223372036854775807) :
    Calls Try.prog 4 #[.slice (some ⟨b, off, none⟩) n cap, .int .i64 cut] w fun e w' => e = .returned (.bool true) ∧ Below w.heap.size w w' := by
  have HL0 := hid h
  have HWF := hid h.wf
  clear h
  go_enter Try.func4, Try.ntmps4
  go_wp2_with fail
  refine (wake_any _).mono ?_
  rintro e w1 ⟨rfl, k1⟩
  have HL1 := hid (HL0.out.now k1)
  go_wp2_with fail
  refine (prod_now (ls_nil _ _) (by simp [tot])).mono ?_
  rintro e w2 ⟨ON, ona, onc, rfl, on0, CON, HON, lon, k2⟩
  obtain rfl := prodv_one CON HON
  obtain ⟨onb, ono, rfl, onq⟩ := sl_one1 on0
  have HL2 := hid (HL1.out.now k2)
  have g2 := below_step k1 k2
  clear HL0 HL1 on0 CON HON lon k1 k2
  go_wp2_with fail
  refine (prod_now HL2.out (by omega)).mono ?_
  rintro e w3 ⟨P, pa, pc, rfl, p0, CP, HP, lp, k3⟩
  have HL3 := hid (HL2.out.now k3)
  have g3 := hid (below_step g2 k3)
  have P3 := hid p0
  replace CP := hid CP
  replace HP := hid HP
  clear HL2 g2 k3 p0 onq
  go_wp2_with fail
  go_loopw [7, 8] (fun qq i wr => ∃ (t : Nat) (Us : List Value) (q : Value), t ≤ n ∧ i = .int .i64 ((t : Int) - 1) ∧ q = qq ∧ Hid (Backs w3.heap.size wr q Us Xs t) ∧ Hid (Below w3.heap.size w3 wr)) (fun _ i _ => (intOf i + 1).toNat)
  case atStart => exact ⟨n, [], _, Nat.le_refl _, by go_num, rfl, (by unfold Hid; have := backs_start w3.heap.size w3 Xs; rwa [HN.out] at this), Below.refl _ _⟩
  case round =>
    obtain ⟨t, Us, q, ht, rfl, hq, HBk, HB⟩ := hrel
    subst hq
    match t, ht, HBk with
    | m + 1, ht, HBk =>
      have hm2 : m < Xs.length := by have := HN.out; omega
      obtain ⟨hbw, u, c1, su, fu⟩ := (HL3.out.now HB.out).at_ HN.out hm2
      obtain ⟨ua, uc, rfl⟩ := su.slice_form
      have lu := len_le_tot Xs m hm2
      have HSU := hid su
      have HFU := hid fu
      have HLU : Hid (Xs[m].length ≤ 17592186044416) := by unfold Hid; omega
      have HLx : Hid (∃ x, x = Xs[m]) := ⟨_, rfl⟩
      have HBS : Hid (∀ w2 w3' p' u, Below wr.heap.size wr w2 → Mine w3.heap.size w2 u Xs[m] → w3'.ownsRow w3.heap.size 22 1 p' (Us.length + 1) (Us ++ [u]) → w2.grownBy w3' q.ownBlock → Backs w3.heap.size w3' p' (Us ++ [u]) Xs m) := fun w2 w3' p' u h1 h2 h3 h4 => HBk.out.step h1 (fun _ => h2) h3 h4
      have HOW := hid HBk.out.1
      have HUL : Hid (Us.length ≤ 2097152) := by unfold Hid; have := HBk.out.2.1; have := HN.out; omega
      have HUB : Hid (∀ g, q.ownBlock = some g → w3.heap.size ≤ g) := fun g hg => (World.ownsRow.lt HBk.out.1 g hg).1
      generalize Xs[m] = xm at *
      clear su fu lu HBk
      go_wp2_with (at_builtin; refine wpList_append_fresh _ rfl (.tmp 35) (.tmp 39) rfl wr.heap.size _ xm rfl (heap_alloc_new wr _) rfl wr.heap.size (HSU.out.alloc (Nat.le_refl _) _) HFU.out HLU.out ?_)
      intro u1 w' hM hB
      obtain ⟨va, vc, hu1⟩ := hM.out.form
      have HXL := hid hM.out.1
      subst hu1
      have HB1 := hid (((Below.refl wr.heap.size wr).alloc (Nat.le_refl _) (.cells #[] 30)).trans hB)
      have HB2 := hid (HB1.out.alloc HB1.out.size (.cells #[.slice va xm.length vc] 22))
      have HM2 := hid ((hM.out.mono HB.out.size).below ((Below.refl w'.heap.size w').alloc (Nat.le_refl _) (.cells #[.slice va xm.length vc] 22)))
      have HOW2 := hid (owns_now HOW.out HB2.out)
      have HB3 := hid (below_step HB.out HB2.out)
      clear hB hM HB1 HOW c1
      go_wp2_with (at_builtin; refine wpList_append_list _ rfl (.tmp 34) (.tmp 41) rfl w3.heap.size q (.slice va xm.length vc) Us rfl HOW2.out ⟨w'.heap.size, 0, none⟩ rfl (by simp) rfl HUL.out HB3.out.size ?_)
      intro p' w4 HO HG
      have HB4 := hid (HB3.out.grown HG.out HB3.out.size HUB.out)
      have HBK := hid (HBS.out _ _ _ _ HB2.out HM2.out HO.out HG.out)
      clear HO HG HBS HM2 HOW2 HB2 HB3
      go_wp2
      go_roundw
      case rel => exact ⟨m, _, _, by omega, by go_num, rfl, HBK, HB4⟩
      case measure => first | (simp [intOf]; done) | (simp [intOf]; omega)
    | 0, ht, HBk =>
      have hls := hid (HBk.out.ls (by have := HN.out; omega))
      go_wp2_with fail
      refine (prod_now hls.out (by rw [tot_reverse]; omega)).mono ?_
      rintro e w4 ⟨R, ra, rc, rfl, r0, CR, HR, lr, k4⟩
      have p4 := (P3.out.now HB.out).now k4
      have HL4 := hid ((HL3.out.now HB.out).now k4)
      have g4 := below_step (below_step g3.out HB.out) k4
      replace CR := hid CR
      replace HR := hid HR
      clear P3 HL3 g3 k4 HB hls HBk lr
      go_wp2_with fail
      refine (same_yes r0 p4 (canon_inj CR.out CP.out (by rw [HR.out, HP.out, prodv_reverse]))).mono ?_
      rintro e w5 ⟨rfl, k5⟩
      have p5 := p4.now k5
      have HL5 := hid (HL4.out.now k5)
      have g5 := below_step g4 k5
      clear p4 HL4 g4 k5 r0 CR HR
      by_cases hc1 : cut < 0
      · skip
        have hh : (n : Int) / 2 = ((n / 2 : Nat) : Int) := by omega
        have hlt : n / 2 < n := by omega
        generalize n / 2 = c at *
        go_wp2_with fail
        refine (prod_now (HL5.out.taken (n := c) (by rw [HN.out]; omega)) (Nat.le_trans (tot_take_le _ _) (by omega))).mono ?_
        rintro e w6 ⟨X1, x1a, x1c, rfl, x10, CX1, HX1, lx1, k6⟩
        have p6 := p5.now k6
        have HL6 := hid (HL5.out.now k6)
        have g6 := below_step g5 k6
        replace CX1 := hid CX1
        replace HX1 := hid HX1
        clear p5 HL5 g5 k6
        go_wp2_with fail
        refine (prod_now (HL6.out.dropped (n := c) (by rw [HN.out]; omega)) (Nat.le_trans (tot_drop_le _ _) (by omega))).mono ?_
        rintro e w7 ⟨X2, x2a, x2c, rfl, x20, CX2, HX2, lx2, k7⟩
        have p7 := p6.now k7
        have x17 := x10.now k7
        have HL7 := hid (HL6.out.now k7)
        have g7 := below_step g6 k7
        replace CX2 := hid CX2
        replace HX2 := hid HX2
        clear p6 x10 HL6 g6 k7
        go_wp2_with fail
        have hl12 : X1.length + X2.length ≤ 35184372088832 := by
          have h1 := tot_take_le Xs (c)
          have h2 := tot_drop_le Xs (c)
          omega
        refine (mul_now x17 x20 hl12).mono ?_
        rintro e w8 ⟨M, ma, mc, rfl, m0, CM, HM, lm, k8⟩
        have p8 := p7.now k8
        have HL8 := hid (HL7.out.now k8)
        have g8 := below_step g7 k8
        replace CM := hid CM
        replace HM := hid HM
        clear p7 x17 x20 HL7 g7 k8 hl12 lm lx1 lx2
        go_wp2_with fail
        refine (same_yes m0 p8 (canon_inj CM.out CP.out (by rw [HM.out, HP.out, HX1.out, HX2.out, prodv_halves]))).mono ?_
        rintro e w9 ⟨rfl, k9⟩
        have p9 := p8.now k9
        have HL9 := hid (HL8.out.now k9)
        have g9 := hid (below_step g8 k9)
        clear p8 m0 HL8 g8 k9 CM HM HX1 HX2 CX1 CX2
        have hnew := hid (mine_row (B := w9.heap.size) (zs := [1]) (k := 1) (Nat.le_refl _) (wf_word (by omega) WF.nil) rfl (by omega) (Row.new w9 [1]))
        have hbel := hid ((Below.refl w9.heap.size w9).alloc (Nat.le_refl _) (.cells #[.int .u64 1] 30))
        have P9 := hid p9
        clear p9
        go_wp2_with fail
        go_loopw [11, 12] (fun z i wr => ∃ (t : Nat) (zs : List Int), t ≤ n ∧ i = .int .i64 t ∧ Hid (Mine w9.heap.size wr z zs) ∧ Hid (Canon zs) ∧ Hid (val zs = prodv (Xs.take t)) ∧ Hid (Below w9.heap.size w9 wr)) (fun _ i _ => n - (intOf i).toNat)
        case atStart => exact ⟨0, [1], Nat.zero_le _, rfl, hnew, hid ⟨wf_word (by omega) WF.nil, rfl⟩, (by unfold Hid; simp [val, prodv]), hbel⟩
        case round =>
          clear hnew hbel
          obtain ⟨t, zs, ht, rfl, HMi, HCz, HVz, HBz⟩ := hrel
          obtain ⟨za, zc, rfl⟩ := HMi.out.form
          by_cases hlt : t < n
          · have ht2 : t < Xs.length := by have := HN.out; omega
            obtain ⟨_, u, c1, su, _⟩ := (HL9.out.now HBz.out).at_ HN.out ht2
            obtain ⟨ua, uc, rfl⟩ := su.slice_form
            have lz := canon_len HCz.out (by rw [HVz.out]; exact prodv_lt (fun x hx => HWF.out x (List.mem_of_mem_take hx)))
            have lt := tot_take_le Xs t
            have lu := len_le_tot Xs t ht2
            have HMU := hid (mul_any HMi.out.sl su (by omega))
            have HVS := hid (prodv_take_succ Xs t ht2)
            generalize Xs[t] = xt at *
            clear lz lt lu su
            go_wp2_with fail
            refine HMU.out.mono ?_
            rintro e w10 ⟨ts, tv, rfl, m1, m2, m3, m4⟩
            have HM3 := hid (m1.mono HBz.out.size)
            have HC3 := hid m2
            have HV3 : Hid (val ts = prodv (Xs.take (t + 1))) := by unfold Hid; rw [m3, HVz.out, HVS.out]
            have HB3 := hid (below_step HBz.out m4)
            clear m1 m2 m3 m4 HMU c1
            go_wp2
            go_roundw
            case rel => exact ⟨t + 1, ts, by omega, by go_num, HM3, HC3, HV3, HB3⟩
            case measure => first | (simp [intOf]; done) | (simp [intOf]; omega)
          · obtain rfl : t = n := by omega
            have HVf : Hid (val zs = val P) := by unfold Hid; rw [HVz.out, HP.out, List.take_of_length_le (by have := HN.out; omega)]
            have pf := P9.out.now HBz.out
            have zf := HMi.out.sl
            have gf := below_step g9.out HBz.out
            clear HVz P9 HMi
            go_wp2_with fail
            refine (same_yes zf pf (canon_inj HCz.out CP.out HVf.out)).mono ?_
            rintro e w11 ⟨rfl, k11⟩
            have g11 := below_step gf k11
            go_wp2
            go_ret
            exact ⟨rfl, g11⟩
      · by_cases hc2 : (n : Int) < cut
        · skip
          have hh : (n : Int) / 2 = ((n / 2 : Nat) : Int) := by omega
          have hlt : n / 2 < n := by omega
          generalize n / 2 = c at *
          go_wp2_with fail
          refine (prod_now (HL5.out.taken (n := c) (by rw [HN.out]; omega)) (Nat.le_trans (tot_take_le _ _) (by omega))).mono ?_
          rintro e w6 ⟨X1, x1a, x1c, rfl, x10, CX1, HX1, lx1, k6⟩
          have p6 := p5.now k6
          have HL6 := hid (HL5.out.now k6)
          have g6 := below_step g5 k6
          replace CX1 := hid CX1
          replace HX1 := hid HX1
          clear p5 HL5 g5 k6
          go_wp2_with fail
          refine (prod_now (HL6.out.dropped (n := c) (by rw [HN.out]; omega)) (Nat.le_trans (tot_drop_le _ _) (by omega))).mono ?_
          rintro e w7 ⟨X2, x2a, x2c, rfl, x20, CX2, HX2, lx2, k7⟩
          have p7 := p6.now k7
          have x17 := x10.now k7
          have HL7 := hid (HL6.out.now k7)
          have g7 := below_step g6 k7
          replace CX2 := hid CX2
          replace HX2 := hid HX2
          clear p6 x10 HL6 g6 k7
          go_wp2_with fail
          have hl12 : X1.length + X2.length ≤ 35184372088832 := by
            have h1 := tot_take_le Xs (c)
            have h2 := tot_drop_le Xs (c)
            omega
          refine (mul_now x17 x20 hl12).mono ?_
          rintro e w8 ⟨M, ma, mc, rfl, m0, CM, HM, lm, k8⟩
          have p8 := p7.now k8
          have HL8 := hid (HL7.out.now k8)
          have g8 := below_step g7 k8
          replace CM := hid CM
          replace HM := hid HM
          clear p7 x17 x20 HL7 g7 k8 hl12 lm lx1 lx2
          go_wp2_with fail
          refine (same_yes m0 p8 (canon_inj CM.out CP.out (by rw [HM.out, HP.out, HX1.out, HX2.out, prodv_halves]))).mono ?_
          rintro e w9 ⟨rfl, k9⟩
          have p9 := p8.now k9
          have HL9 := hid (HL8.out.now k9)
          have g9 := hid (below_step g8 k9)
          clear p8 m0 HL8 g8 k9 CM HM HX1 HX2 CX1 CX2
          have hnew := hid (mine_row (B := w9.heap.size) (zs := [1]) (k := 1) (Nat.le_refl _) (wf_word (by omega) WF.nil) rfl (by omega) (Row.new w9 [1]))
          have hbel := hid ((Below.refl w9.heap.size w9).alloc (Nat.le_refl _) (.cells #[.int .u64 1] 30))
          have P9 := hid p9
          clear p9
          go_wp2_with fail
          go_loopw [11, 12] (fun z i wr => ∃ (t : Nat) (zs : List Int), t ≤ n ∧ i = .int .i64 t ∧ Hid (Mine w9.heap.size wr z zs) ∧ Hid (Canon zs) ∧ Hid (val zs = prodv (Xs.take t)) ∧ Hid (Below w9.heap.size w9 wr)) (fun _ i _ => n - (intOf i).toNat)
          case atStart => exact ⟨0, [1], Nat.zero_le _, rfl, hnew, hid ⟨wf_word (by omega) WF.nil, rfl⟩, (by unfold Hid; simp [val, prodv]), hbel⟩
          case round =>
            clear hnew hbel
            obtain ⟨t, zs, ht, rfl, HMi, HCz, HVz, HBz⟩ := hrel
            obtain ⟨za, zc, rfl⟩ := HMi.out.form
            by_cases hlt : t < n
            · have ht2 : t < Xs.length := by have := HN.out; omega
              obtain ⟨_, u, c1, su, _⟩ := (HL9.out.now HBz.out).at_ HN.out ht2
              obtain ⟨ua, uc, rfl⟩ := su.slice_form
              have lz := canon_len HCz.out (by rw [HVz.out]; exact prodv_lt (fun x hx => HWF.out x (List.mem_of_mem_take hx)))
              have lt := tot_take_le Xs t
              have lu := len_le_tot Xs t ht2
              have HMU := hid (mul_any HMi.out.sl su (by omega))
              have HVS := hid (prodv_take_succ Xs t ht2)
              generalize Xs[t] = xt at *
              clear lz lt lu su
              go_wp2_with fail
              refine HMU.out.mono ?_
              rintro e w10 ⟨ts, tv, rfl, m1, m2, m3, m4⟩
              have HM3 := hid (m1.mono HBz.out.size)
              have HC3 := hid m2
              have HV3 : Hid (val ts = prodv (Xs.take (t + 1))) := by unfold Hid; rw [m3, HVz.out, HVS.out]
              have HB3 := hid (below_step HBz.out m4)
              clear m1 m2 m3 m4 HMU c1
              go_wp2
              go_roundw
              case rel => exact ⟨t + 1, ts, by omega, by go_num, HM3, HC3, HV3, HB3⟩
              case measure => first | (simp [intOf]; done) | (simp [intOf]; omega)
            · obtain rfl : t = n := by omega
              have HVf : Hid (val zs = val P) := by unfold Hid; rw [HVz.out, HP.out, List.take_of_length_le (by have := HN.out; omega)]
              have pf := P9.out.now HBz.out
              have zf := HMi.out.sl
              have gf := below_step g9.out HBz.out
              clear HVz P9 HMi
              go_wp2_with fail
              refine (same_yes zf pf (canon_inj HCz.out CP.out HVf.out)).mono ?_
              rintro e w11 ⟨rfl, k11⟩
              have g11 := below_step gf k11
              go_wp2
              go_ret
              exact ⟨rfl, g11⟩
        · obtain ⟨c, rfl⟩ := Int.eq_ofNat_of_zero_le (show 0 ≤ cut by omega)
          by_cases hcc : c < cap
          · skip
            go_wp2_with fail
            refine (prod_now (HL5.out.taken (n := c) (by rw [HN.out]; omega)) (Nat.le_trans (tot_take_le _ _) (by omega))).mono ?_
            rintro e w6 ⟨X1, x1a, x1c, rfl, x10, CX1, HX1, lx1, k6⟩
            have p6 := p5.now k6
            have HL6 := hid (HL5.out.now k6)
            have g6 := below_step g5 k6
            replace CX1 := hid CX1
            replace HX1 := hid HX1
            clear p5 HL5 g5 k6
            go_wp2_with fail
            refine (prod_now (HL6.out.dropped (n := c) (by rw [HN.out]; omega)) (Nat.le_trans (tot_drop_le _ _) (by omega))).mono ?_
            rintro e w7 ⟨X2, x2a, x2c, rfl, x20, CX2, HX2, lx2, k7⟩
            have p7 := p6.now k7
            have x17 := x10.now k7
            have HL7 := hid (HL6.out.now k7)
            have g7 := below_step g6 k7
            replace CX2 := hid CX2
            replace HX2 := hid HX2
            clear p6 x10 HL6 g6 k7
            go_wp2_with fail
            have hl12 : X1.length + X2.length ≤ 35184372088832 := by
              have h1 := tot_take_le Xs (c)
              have h2 := tot_drop_le Xs (c)
              omega
            refine (mul_now x17 x20 hl12).mono ?_
            rintro e w8 ⟨M, ma, mc, rfl, m0, CM, HM, lm, k8⟩
            have p8 := p7.now k8
            have HL8 := hid (HL7.out.now k8)
            have g8 := below_step g7 k8
            replace CM := hid CM
            replace HM := hid HM
            clear p7 x17 x20 HL7 g7 k8 hl12 lm lx1 lx2
            go_wp2_with fail
            refine (same_yes m0 p8 (canon_inj CM.out CP.out (by rw [HM.out, HP.out, HX1.out, HX2.out, prodv_halves]))).mono ?_
            rintro e w9 ⟨rfl, k9⟩
            have p9 := p8.now k9
            have HL9 := hid (HL8.out.now k9)
            have g9 := hid (below_step g8 k9)
            clear p8 m0 HL8 g8 k9 CM HM HX1 HX2 CX1 CX2
            have hnew := hid (mine_row (B := w9.heap.size) (zs := [1]) (k := 1) (Nat.le_refl _) (wf_word (by omega) WF.nil) rfl (by omega) (Row.new w9 [1]))
            have hbel := hid ((Below.refl w9.heap.size w9).alloc (Nat.le_refl _) (.cells #[.int .u64 1] 30))
            have P9 := hid p9
            clear p9
            go_wp2_with fail
            go_loopw [11, 12] (fun z i wr => ∃ (t : Nat) (zs : List Int), t ≤ n ∧ i = .int .i64 t ∧ Hid (Mine w9.heap.size wr z zs) ∧ Hid (Canon zs) ∧ Hid (val zs = prodv (Xs.take t)) ∧ Hid (Below w9.heap.size w9 wr)) (fun _ i _ => n - (intOf i).toNat)
            case atStart => exact ⟨0, [1], Nat.zero_le _, rfl, hnew, hid ⟨wf_word (by omega) WF.nil, rfl⟩, (by unfold Hid; simp [val, prodv]), hbel⟩
            case round =>
              clear hnew hbel
              obtain ⟨t, zs, ht, rfl, HMi, HCz, HVz, HBz⟩ := hrel
              obtain ⟨za, zc, rfl⟩ := HMi.out.form
              by_cases hlt : t < n
              · have ht2 : t < Xs.length := by have := HN.out; omega
                obtain ⟨_, u, c1, su, _⟩ := (HL9.out.now HBz.out).at_ HN.out ht2
                obtain ⟨ua, uc, rfl⟩ := su.slice_form
                have lz := canon_len HCz.out (by rw [HVz.out]; exact prodv_lt (fun x hx => HWF.out x (List.mem_of_mem_take hx)))
                have lt := tot_take_le Xs t
                have lu := len_le_tot Xs t ht2
                have HMU := hid (mul_any HMi.out.sl su (by omega))
                have HVS := hid (prodv_take_succ Xs t ht2)
                generalize Xs[t] = xt at *
                clear lz lt lu su
                go_wp2_with fail
                refine HMU.out.mono ?_
                rintro e w10 ⟨ts, tv, rfl, m1, m2, m3, m4⟩
                have HM3 := hid (m1.mono HBz.out.size)
                have HC3 := hid m2
                have HV3 : Hid (val ts = prodv (Xs.take (t + 1))) := by unfold Hid; rw [m3, HVz.out, HVS.out]
                have HB3 := hid (below_step HBz.out m4)
                clear m1 m2 m3 m4 HMU c1
                go_wp2
                go_roundw
                case rel => exact ⟨t + 1, ts, by omega, by go_num, HM3, HC3, HV3, HB3⟩
                case measure => first | (simp [intOf]; done) | (simp [intOf]; omega)
              · obtain rfl : t = n := by omega
                have HVf : Hid (val zs = val P) := by unfold Hid; rw [HVz.out, HP.out, List.take_of_length_le (by have := HN.out; omega)]
                have pf := P9.out.now HBz.out
                have zf := HMi.out.sl
                have gf := below_step g9.out HBz.out
                clear HVz P9 HMi
                go_wp2_with fail
                refine (same_yes zf pf (canon_inj HCz.out CP.out HVf.out)).mono ?_
                rintro e w11 ⟨rfl, k11⟩
                have g11 := below_step gf k11
                go_wp2
                go_ret
                exact ⟨rfl, g11⟩
          · obtain rfl : c = cap := by omega
            obtain rfl : n = c := by omega
            go_wp2_with fail
            refine (prod_now (HL5.out.taken (n := n) (by rw [HN.out]; omega)) (Nat.le_trans (tot_take_le _ _) (by omega))).mono ?_
            rintro e w6 ⟨X1, x1a, x1c, rfl, x10, CX1, HX1, lx1, k6⟩
            have p6 := p5.now k6
            have HL6 := hid (HL5.out.now k6)
            have g6 := below_step g5 k6
            replace CX1 := hid CX1
            replace HX1 := hid HX1
            clear p5 HL5 g5 k6
            go_wp2_with fail
            refine (prod_now ((by rw [List.drop_of_length_le (by rw [HN.out]; omega)]; exact ls_empty _ _ _ _)) (Nat.le_trans (tot_drop_le _ _) (by omega))).mono ?_
            rintro e w7 ⟨X2, x2a, x2c, rfl, x20, CX2, HX2, lx2, k7⟩
            have p7 := p6.now k7
            have x17 := x10.now k7
            have HL7 := hid (HL6.out.now k7)
            have g7 := below_step g6 k7
            replace CX2 := hid CX2
            replace HX2 := hid HX2
            clear p6 x10 HL6 g6 k7
            go_wp2_with fail
            have hl12 : X1.length + X2.length ≤ 35184372088832 := by
              have h1 := tot_take_le Xs (n)
              have h2 := tot_drop_le Xs (n)
              omega
            refine (mul_now x17 x20 hl12).mono ?_
            rintro e w8 ⟨M, ma, mc, rfl, m0, CM, HM, lm, k8⟩
            have p8 := p7.now k8
            have HL8 := hid (HL7.out.now k8)
            have g8 := below_step g7 k8
            replace CM := hid CM
            replace HM := hid HM
            clear p7 x17 x20 HL7 g7 k8 hl12 lm lx1 lx2
            go_wp2_with fail
            refine (same_yes m0 p8 (canon_inj CM.out CP.out (by rw [HM.out, HP.out, HX1.out, HX2.out, prodv_halves]))).mono ?_
            rintro e w9 ⟨rfl, k9⟩
            have p9 := p8.now k9
            have HL9 := hid (HL8.out.now k9)
            have g9 := hid (below_step g8 k9)
            clear p8 m0 HL8 g8 k9 CM HM HX1 HX2 CX1 CX2
            have hnew := hid (mine_row (B := w9.heap.size) (zs := [1]) (k := 1) (Nat.le_refl _) (wf_word (by omega) WF.nil) rfl (by omega) (Row.new w9 [1]))
            have hbel := hid ((Below.refl w9.heap.size w9).alloc (Nat.le_refl _) (.cells #[.int .u64 1] 30))
            have P9 := hid p9
            clear p9
            go_wp2_with fail
            go_loopw [11, 12] (fun z i wr => ∃ (t : Nat) (zs : List Int), t ≤ n ∧ i = .int .i64 t ∧ Hid (Mine w9.heap.size wr z zs) ∧ Hid (Canon zs) ∧ Hid (val zs = prodv (Xs.take t)) ∧ Hid (Below w9.heap.size w9 wr)) (fun _ i _ => n - (intOf i).toNat)
            case atStart => exact ⟨0, [1], Nat.zero_le _, rfl, hnew, hid ⟨wf_word (by omega) WF.nil, rfl⟩, (by unfold Hid; simp [val, prodv]), hbel⟩
            case round =>
              clear hnew hbel
              obtain ⟨t, zs, ht, rfl, HMi, HCz, HVz, HBz⟩ := hrel
              obtain ⟨za, zc, rfl⟩ := HMi.out.form
              by_cases hlt : t < n
              · have ht2 : t < Xs.length := by have := HN.out; omega
                obtain ⟨_, u, c1, su, _⟩ := (HL9.out.now HBz.out).at_ HN.out ht2
                obtain ⟨ua, uc, rfl⟩ := su.slice_form
                have lz := canon_len HCz.out (by rw [HVz.out]; exact prodv_lt (fun x hx => HWF.out x (List.mem_of_mem_take hx)))
                have lt := tot_take_le Xs t
                have lu := len_le_tot Xs t ht2
                have HMU := hid (mul_any HMi.out.sl su (by omega))
                have HVS := hid (prodv_take_succ Xs t ht2)
                generalize Xs[t] = xt at *
                clear lz lt lu su
                go_wp2_with fail
                refine HMU.out.mono ?_
                rintro e w10 ⟨ts, tv, rfl, m1, m2, m3, m4⟩
                have HM3 := hid (m1.mono HBz.out.size)
                have HC3 := hid m2
                have HV3 : Hid (val ts = prodv (Xs.take (t + 1))) := by unfold Hid; rw [m3, HVz.out, HVS.out]
                have HB3 := hid (below_step HBz.out m4)
                clear m1 m2 m3 m4 HMU c1
                go_wp2
                go_roundw
                case rel => exact ⟨t + 1, ts, by omega, by go_num, HM3, HC3, HV3, HB3⟩
                case measure => first | (simp [intOf]; done) | (simp [intOf]; omega)
              · obtain rfl : t = n := by omega
                have HVf : Hid (val zs = val P) := by unfold Hid; rw [HVz.out, HP.out, List.take_of_length_le (by have := HN.out; omega)]
                have pf := P9.out.now HBz.out
                have zf := HMi.out.sl
                have gf := below_step g9.out HBz.out
                clear HVz P9 HMi
                go_wp2_with fail
                refine (same_yes zf pf (canon_inj HCz.out CP.out HVf.out)).mono ?_
                rintro e w11 ⟨rfl, k11⟩
                have g11 := below_step gf k11
                go_wp2
                go_ret
                exact ⟨rfl, g11⟩

set_option maxRecDepth 100000 in
set_option maxHeartbeats 12800000 in
theorem lists_none {w : World} {a : Option Addr} {cap : Nat} {Xs : List (List Int)} (h : Ls w.heap.size w (.slice a 0 cap) Xs) (hf : Formed (.slice a 0 cap)) (HN : Hid (Xs.length = 0)) (ht : tot Xs ≤ 1048576) {cut : Int} (hc : -9223372036854775808 ≤ cut ∧ cut ≤ 9223372036854775807) :
    Calls Try.prog 4 #[.slice a 0 cap, .int .i64 cut] w fun e w' => e = .returned (.bool true) ∧ Below w.heap.size w w' := by
  have HL0 := hid h
  have HWF := hid h.wf
  clear h
  go_enter Try.func4, Try.ntmps4
  go_wp2_with fail
  refine (wake_any _).mono ?_
  rintro e w1 ⟨rfl, k1⟩
  have HL1 := hid (HL0.out.now k1)
  go_wp2_with fail
  refine (prod_now (ls_nil _ _) (by simp [tot])).mono ?_
  rintro e w2 ⟨ON, ona, onc, rfl, on0, CON, HON, lon, k2⟩
  obtain rfl := prodv_one CON HON
  obtain ⟨onb, ono, rfl, onq⟩ := sl_one1 on0
  have HL2 := hid (HL1.out.now k2)
  have g2 := below_step k1 k2
  clear HL0 HL1 on0 CON HON lon k1 k2
  go_wp2_with fail
  refine (prod_now HL2.out (by omega)).mono ?_
  rintro e w3 ⟨P, pa, pc, rfl, p0, CP, HP, lp, k3⟩
  have HL3 := hid (HL2.out.now k3)
  have g3 := hid (below_step g2 k3)
  have P3 := hid p0
  replace CP := hid CP
  replace HP := hid HP
  clear HL2 g2 k3 p0 onq
  go_wp2_with fail
  go_loopw [7, 8] (fun qq i wr => ∃ (t : Nat) (Us : List Value) (q : Value), t ≤ 0 ∧ i = .int .i64 ((t : Int) - 1) ∧ q = qq ∧ Hid (Backs w3.heap.size wr q Us Xs t) ∧ Hid (Below w3.heap.size w3 wr)) (fun _ i _ => (intOf i + 1).toNat)
  case atStart => exact ⟨0, [], _, Nat.le_refl _, by go_num, rfl, (by unfold Hid; have := backs_start w3.heap.size w3 Xs; rwa [HN.out] at this), Below.refl _ _⟩
  case round =>
    obtain ⟨t, Us, q, ht, rfl, hq, HBk, HB⟩ := hrel
    subst hq
    obtain rfl : t = 0 := by omega
    have hls := hid (HBk.out.ls (by have := HN.out; omega))
    go_wp2_with fail
    refine (prod_now hls.out (by rw [tot_reverse]; omega)).mono ?_
    rintro e w4 ⟨R, ra, rc, rfl, r0, CR, HR, lr, k4⟩
    have p4 := (P3.out.now HB.out).now k4
    have HL4 := hid ((HL3.out.now HB.out).now k4)
    have g4 := below_step (below_step g3.out HB.out) k4
    replace CR := hid CR
    replace HR := hid HR
    clear P3 HL3 g3 k4 HB hls HBk lr
    go_wp2_with fail
    refine (same_yes r0 p4 (canon_inj CR.out CP.out (by rw [HR.out, HP.out, prodv_reverse]))).mono ?_
    rintro e w5 ⟨rfl, k5⟩
    have p5 := p4.now k5
    have HL5 := hid (HL4.out.now k5)
    have g5 := below_step g4 k5
    clear p4 HL4 g4 k5 r0 CR HR
    by_cases hc1 : cut < 0
    · skip
      go_wp2_with fail
      refine (prod_now ((by rw [show Xs.take 0 = [] by simp]; exact ls_empty _ _ _ _)) (Nat.le_trans (tot_take_le _ _) (by omega))).mono ?_
      rintro e w6 ⟨X1, x1a, x1c, rfl, x10, CX1, HX1, lx1, k6⟩
      have p6 := p5.now k6
      have HL6 := hid (HL5.out.now k6)
      have g6 := below_step g5 k6
      replace CX1 := hid CX1
      replace HX1 := hid HX1
      clear p5 HL5 g5 k6
      go_wp2_with fail
      refine (prod_now ((by rw [List.drop_of_length_le (by rw [HN.out]; omega)]; exact ls_empty _ _ _ _)) (Nat.le_trans (tot_drop_le _ _) (by omega))).mono ?_
      rintro e w7 ⟨X2, x2a, x2c, rfl, x20, CX2, HX2, lx2, k7⟩
      have p7 := p6.now k7
      have x17 := x10.now k7
      have HL7 := hid (HL6.out.now k7)
      have g7 := below_step g6 k7
      replace CX2 := hid CX2
      replace HX2 := hid HX2
      clear p6 x10 HL6 g6 k7
      go_wp2_with fail
      have hl12 : X1.length + X2.length ≤ 35184372088832 := by
        have h1 := tot_take_le Xs (0)
        have h2 := tot_drop_le Xs (0)
        omega
      refine (mul_now x17 x20 hl12).mono ?_
      rintro e w8 ⟨M, ma, mc, rfl, m0, CM, HM, lm, k8⟩
      have p8 := p7.now k8
      have HL8 := hid (HL7.out.now k8)
      have g8 := below_step g7 k8
      replace CM := hid CM
      replace HM := hid HM
      clear p7 x17 x20 HL7 g7 k8 hl12 lm lx1 lx2
      go_wp2_with fail
      refine (same_yes m0 p8 (canon_inj CM.out CP.out (by rw [HM.out, HP.out, HX1.out, HX2.out, prodv_halves]))).mono ?_
      rintro e w9 ⟨rfl, k9⟩
      have p9 := p8.now k9
      have HL9 := hid (HL8.out.now k9)
      have g9 := hid (below_step g8 k9)
      clear p8 m0 HL8 g8 k9 CM HM HX1 HX2 CX1 CX2
      have hnew := hid (mine_row (B := w9.heap.size) (zs := [1]) (k := 1) (Nat.le_refl _) (wf_word (by omega) WF.nil) rfl (by omega) (Row.new w9 [1]))
      have hbel := hid ((Below.refl w9.heap.size w9).alloc (Nat.le_refl _) (.cells #[.int .u64 1] 30))
      have P9 := hid p9
      clear p9
      go_wp2_with fail
      go_loopw [11, 12] (fun z i wr => ∃ (t : Nat) (zs : List Int), t ≤ 0 ∧ i = .int .i64 t ∧ Hid (Mine w9.heap.size wr z zs) ∧ Hid (Canon zs) ∧ Hid (val zs = prodv (Xs.take t)) ∧ Hid (Below w9.heap.size w9 wr)) (fun _ i _ => 0 - (intOf i).toNat)
      case atStart => exact ⟨0, [1], Nat.zero_le _, rfl, hnew, hid ⟨wf_word (by omega) WF.nil, rfl⟩, (by unfold Hid; simp [val, prodv]), hbel⟩
      case round =>
        clear hnew hbel
        obtain ⟨t, zs, ht, rfl, HMi, HCz, HVz, HBz⟩ := hrel
        obtain ⟨za, zc, rfl⟩ := HMi.out.form
        have hlt : ¬ t < 0 := by omega
        · obtain rfl : t = 0 := by omega
          have HVf : Hid (val zs = val P) := by unfold Hid; rw [HVz.out, HP.out, List.take_of_length_le (by have := HN.out; omega)]
          have pf := P9.out.now HBz.out
          have zf := HMi.out.sl
          have gf := below_step g9.out HBz.out
          clear HVz P9 HMi
          go_wp2_with fail
          refine (same_yes zf pf (canon_inj HCz.out CP.out HVf.out)).mono ?_
          rintro e w11 ⟨rfl, k11⟩
          have g11 := below_step gf k11
          go_wp2
          go_ret
          exact ⟨rfl, g11⟩
    · by_cases hc2 : (0 : Int) < cut
      · skip
        go_wp2_with fail
        refine (prod_now ((by rw [show Xs.take 0 = [] by simp]; exact ls_empty _ _ _ _)) (Nat.le_trans (tot_take_le _ _) (by omega))).mono ?_
        rintro e w6 ⟨X1, x1a, x1c, rfl, x10, CX1, HX1, lx1, k6⟩
        have p6 := p5.now k6
        have HL6 := hid (HL5.out.now k6)
        have g6 := below_step g5 k6
        replace CX1 := hid CX1
        replace HX1 := hid HX1
        clear p5 HL5 g5 k6
        go_wp2_with fail
        refine (prod_now ((by rw [List.drop_of_length_le (by rw [HN.out]; omega)]; exact ls_empty _ _ _ _)) (Nat.le_trans (tot_drop_le _ _) (by omega))).mono ?_
        rintro e w7 ⟨X2, x2a, x2c, rfl, x20, CX2, HX2, lx2, k7⟩
        have p7 := p6.now k7
        have x17 := x10.now k7
        have HL7 := hid (HL6.out.now k7)
        have g7 := below_step g6 k7
        replace CX2 := hid CX2
        replace HX2 := hid HX2
        clear p6 x10 HL6 g6 k7
        go_wp2_with fail
        have hl12 : X1.length + X2.length ≤ 35184372088832 := by
          have h1 := tot_take_le Xs (0)
          have h2 := tot_drop_le Xs (0)
          omega
        refine (mul_now x17 x20 hl12).mono ?_
        rintro e w8 ⟨M, ma, mc, rfl, m0, CM, HM, lm, k8⟩
        have p8 := p7.now k8
        have HL8 := hid (HL7.out.now k8)
        have g8 := below_step g7 k8
        replace CM := hid CM
        replace HM := hid HM
        clear p7 x17 x20 HL7 g7 k8 hl12 lm lx1 lx2
        go_wp2_with fail
        refine (same_yes m0 p8 (canon_inj CM.out CP.out (by rw [HM.out, HP.out, HX1.out, HX2.out, prodv_halves]))).mono ?_
        rintro e w9 ⟨rfl, k9⟩
        have p9 := p8.now k9
        have HL9 := hid (HL8.out.now k9)
        have g9 := hid (below_step g8 k9)
        clear p8 m0 HL8 g8 k9 CM HM HX1 HX2 CX1 CX2
        have hnew := hid (mine_row (B := w9.heap.size) (zs := [1]) (k := 1) (Nat.le_refl _) (wf_word (by omega) WF.nil) rfl (by omega) (Row.new w9 [1]))
        have hbel := hid ((Below.refl w9.heap.size w9).alloc (Nat.le_refl _) (.cells #[.int .u64 1] 30))
        have P9 := hid p9
        clear p9
        go_wp2_with fail
        go_loopw [11, 12] (fun z i wr => ∃ (t : Nat) (zs : List Int), t ≤ 0 ∧ i = .int .i64 t ∧ Hid (Mine w9.heap.size wr z zs) ∧ Hid (Canon zs) ∧ Hid (val zs = prodv (Xs.take t)) ∧ Hid (Below w9.heap.size w9 wr)) (fun _ i _ => 0 - (intOf i).toNat)
        case atStart => exact ⟨0, [1], Nat.zero_le _, rfl, hnew, hid ⟨wf_word (by omega) WF.nil, rfl⟩, (by unfold Hid; simp [val, prodv]), hbel⟩
        case round =>
          clear hnew hbel
          obtain ⟨t, zs, ht, rfl, HMi, HCz, HVz, HBz⟩ := hrel
          obtain ⟨za, zc, rfl⟩ := HMi.out.form
          have hlt : ¬ t < 0 := by omega
          · obtain rfl : t = 0 := by omega
            have HVf : Hid (val zs = val P) := by unfold Hid; rw [HVz.out, HP.out, List.take_of_length_le (by have := HN.out; omega)]
            have pf := P9.out.now HBz.out
            have zf := HMi.out.sl
            have gf := below_step g9.out HBz.out
            clear HVz P9 HMi
            go_wp2_with fail
            refine (same_yes zf pf (canon_inj HCz.out CP.out HVf.out)).mono ?_
            rintro e w11 ⟨rfl, k11⟩
            have g11 := below_step gf k11
            go_wp2
            go_ret
            exact ⟨rfl, g11⟩
      · obtain rfl : cut = 0 := by omega
        go_wp2_with fail
        refine (prod_now ((by rw [show Xs.take 0 = [] by simp]; exact ls_empty _ _ _ _)) (Nat.le_trans (tot_take_le _ _) (by omega))).mono ?_
        rintro e w6 ⟨X1, x1a, x1c, rfl, x10, CX1, HX1, lx1, k6⟩
        have p6 := p5.now k6
        have HL6 := hid (HL5.out.now k6)
        have g6 := below_step g5 k6
        replace CX1 := hid CX1
        replace HX1 := hid HX1
        clear p5 HL5 g5 k6
        go_wp2_with fail
        refine (prod_now ((by rw [List.drop_of_length_le (by rw [HN.out]; omega)]; exact ls_empty _ _ _ _)) (Nat.le_trans (tot_drop_le _ _) (by omega))).mono ?_
        rintro e w7 ⟨X2, x2a, x2c, rfl, x20, CX2, HX2, lx2, k7⟩
        have p7 := p6.now k7
        have x17 := x10.now k7
        have HL7 := hid (HL6.out.now k7)
        have g7 := below_step g6 k7
        replace CX2 := hid CX2
        replace HX2 := hid HX2
        clear p6 x10 HL6 g6 k7
        go_wp2_with fail
        have hl12 : X1.length + X2.length ≤ 35184372088832 := by
          have h1 := tot_take_le Xs (0)
          have h2 := tot_drop_le Xs (0)
          omega
        refine (mul_now x17 x20 hl12).mono ?_
        rintro e w8 ⟨M, ma, mc, rfl, m0, CM, HM, lm, k8⟩
        have p8 := p7.now k8
        have HL8 := hid (HL7.out.now k8)
        have g8 := below_step g7 k8
        replace CM := hid CM
        replace HM := hid HM
        clear p7 x17 x20 HL7 g7 k8 hl12 lm lx1 lx2
        go_wp2_with fail
        refine (same_yes m0 p8 (canon_inj CM.out CP.out (by rw [HM.out, HP.out, HX1.out, HX2.out, prodv_halves]))).mono ?_
        rintro e w9 ⟨rfl, k9⟩
        have p9 := p8.now k9
        have HL9 := hid (HL8.out.now k9)
        have g9 := hid (below_step g8 k9)
        clear p8 m0 HL8 g8 k9 CM HM HX1 HX2 CX1 CX2
        have hnew := hid (mine_row (B := w9.heap.size) (zs := [1]) (k := 1) (Nat.le_refl _) (wf_word (by omega) WF.nil) rfl (by omega) (Row.new w9 [1]))
        have hbel := hid ((Below.refl w9.heap.size w9).alloc (Nat.le_refl _) (.cells #[.int .u64 1] 30))
        have P9 := hid p9
        clear p9
        go_wp2_with fail
        go_loopw [11, 12] (fun z i wr => ∃ (t : Nat) (zs : List Int), t ≤ 0 ∧ i = .int .i64 t ∧ Hid (Mine w9.heap.size wr z zs) ∧ Hid (Canon zs) ∧ Hid (val zs = prodv (Xs.take t)) ∧ Hid (Below w9.heap.size w9 wr)) (fun _ i _ => 0 - (intOf i).toNat)
        case atStart => exact ⟨0, [1], Nat.zero_le _, rfl, hnew, hid ⟨wf_word (by omega) WF.nil, rfl⟩, (by unfold Hid; simp [val, prodv]), hbel⟩
        case round =>
          clear hnew hbel
          obtain ⟨t, zs, ht, rfl, HMi, HCz, HVz, HBz⟩ := hrel
          obtain ⟨za, zc, rfl⟩ := HMi.out.form
          have hlt : ¬ t < 0 := by omega
          · obtain rfl : t = 0 := by omega
            have HVf : Hid (val zs = val P) := by unfold Hid; rw [HVz.out, HP.out, List.take_of_length_le (by have := HN.out; omega)]
            have pf := P9.out.now HBz.out
            have zf := HMi.out.sl
            have gf := below_step g9.out HBz.out
            clear HVz P9 HMi
            go_wp2_with fail
            refine (same_yes zf pf (canon_inj HCz.out CP.out HVf.out)).mono ?_
            rintro e w11 ⟨rfl, k11⟩
            have g11 := below_step gf k11
            go_wp2
            go_ret
            exact ⟨rfl, g11⟩
theorem mulnatLists_any {w : World} {v : Value} {Xs : List (List Int)} (h : Ls w.heap.size w v Xs) (hf : Formed v) (hnm : Xs.length ≤ 1048576) (ht : tot Xs ≤ 1048576) {cut : Int} (hc : -9223372036854775808 ≤ cut ∧ cut ≤ 9223372036854775807) :
    Calls Try.prog 4 #[v, .int .i64 cut] w fun e w' => e = .returned (.bool true) ∧ Below w.heap.size w w' := by
  have h0 := h
  obtain ⟨a, cap, rfl, h2, h2', h3⟩ := h
  by_cases q : Xs.length = 0
  · rw [q] at h0 hf ⊢
    exact lists_none h0 hf q ht hc
  · rcases h3 with rfl | ⟨b, off, rfl, _, _⟩
    · simp at q
    · exact lists_more h0 rfl (by omega) h2 hnm ht hc
end Go.Proofs.Ytagfekcocdjhlab
