/-
  QAwake10ToCnt10: Awake10, Cnt10, joined.
-/
import Derived.Test.YtachdicdfhfoaaaQSet10

/- Awake10 -/
namespace Go.Proofs.Ytachdicdfhfoaaa
open Go.RowKit Go.ChangeMaps Go.MapKept
set_option linter.unusedVariables false

theorem below_grown {w W w' : World} {b : Nat} (h : Below w.heap.size w W) (hg : W.grownBy w' (some b)) (hb : w.heap.size ≤ b) : Below w.heap.size w w' :=
  ⟨hg.os.trans h.os, hg.tape.trans h.tape, hg.output.trans h.output, Nat.le_trans h.size hg.size, fun i hi => (hg.block i (Nat.lt_of_lt_of_le hi h.size) (fun e => by simp at e; omega)).trans (h.block i hi)⟩
theorem nm_none (w : World) (k : Nat) : Nm w (fun _ => Option.none) (fun _ _ => 0) k := fun i j => .inl ⟨rfl, rfl⟩
theorem five_is {zs : List Int} {n : Bool} (hc : Canon zs) (h : iv n zs = 5) : zs = [5] := by
  have h0 := val_nonneg hc.1
  cases n
  · rw [iv_pos] at h
    exact canon_inj hc ⟨wf_word (by omega) WF.nil, by decide⟩ (by rw [h]; decide)
  · rw [iv_neg] at h
    omega
set_option maxHeartbeats 3200000 in
set_option maxRecDepth 100000 in
theorem awake10 (w : World) : Calls Try.prog 6 #[] w (Says w (.bool true)) := by
  go_enter Try.func6, Try.ntmps6
  go_wp2_with fail
  refine (new_small (w := w) (r := 2) (c := 3) (by decide) (by decide)).mono ?_
  rintro e w1 ⟨g, b, rfl, hg, hm, hgg, hbb, b1⟩
  have HG := hid hg
  have HM := hid hm
  have HB := hid hbb
  have G := hid b1
  clear hg hm hgg hbb b1
  obtain ⟨V1, hV⟩ : ∃ V1, w1.alloc (.cells #[.int .u64 5] 62) = V1 := ⟨_, rfl⟩
  have sl : Sl V1.heap.size V1 (.slice (some ⟨w1.heap.size, 0, none⟩) 1 1) [5] := by
    rw [← hV]
    have := Row.new_sl w1 [5] (wf_word (by omega) WF.nil) (by decide)
    simpa [ws] using this
  have bV : Below w1.heap.size w1 V1 := by rw [← hV]; exact (Below.refl _ _).alloc (Nat.le_refl _) _
  have ZI : Hid (Zi V1 (.agg #[.bool false, .slice (some ⟨w1.heap.size, 0, none⟩) 1 1]) 5 1) := ⟨false, [5], _, _, rfl, sl, by decide, by decide⟩
  replace HG := hid (HG.out.now bV)
  replace HM := hid (HM.out.now bV)
  replace G := hid (below_step G.out bV)
  have EV := hid hV
  clear hV sl bV
  go_wp2_with fail
  rw [EV.out]
  refine (set_new (i := 1) (j := 2) (k := 1) HG.out HM.out (nm_none _ _) (by unfold maxLen; omega) (by decide) (by decide) ZI.out rfl (by decide) (by decide)).mono ?_
  rintro e w2 ⟨f', rfl, hm, hf, -, hgr⟩
  have q1 : putN ((fun _ => Option.none : Nat × Nat → Option Value) (1, 2)) 5 0 = 1 := by decide
  rw [q1] at hm
  replace HG := hid (HG.out.cl (HM.out.cl hgr))
  replace G := hid (below_grown G.out hgr HB.out)
  replace HM := hid hm
  have HF := hid hf
  clear hm hf hgr q1 EV ZI
  go_wp2_with fail
  refine (get_any (i := 1) (j := 2) HG.out HM.out HF.out (by decide) (by decide)).mono ?_
  rintro e w3 ⟨v, rfl, m3, b3⟩
  have q2 : setF (fun _ _ => 0) (1, 2) 5 1 2 = 5 := by decide
  rw [q2] at m3
  obtain ⟨n, zs, a, c, rfl, hmine, hcan, -, hiv, -⟩ := m3
  obtain rfl := five_is hcan hiv
  replace HG := hid (HG.out.now b3)
  replace HM := hid (HM.out.now b3)
  replace G := hid (below_step G.out b3)
  have SL := hid hmine.sl
  clear b3 hmine hcan hiv q2 HF
  obtain ⟨V2, hV⟩ : ∃ V2, w3.alloc (duo (.bool n) (.slice a 1 c)) = V2 := ⟨_, rfl⟩
  have PD : Duo V2 w3.heap.size (.bool n) (.slice a 1 c) := by rw [← hV]; exact heap_alloc_new w3 _
  have bV : Below w3.heap.size w3 V2 := by rw [← hV]; exact (Below.refl _ _).alloc (Nat.le_refl _) _
  replace HG := hid (HG.out.now bV)
  replace HM := hid (HM.out.now bV)
  replace G := hid (below_step G.out bV)
  replace SL := hid (SL.out.now bV)
  have EV := hid hV
  have y1 := PD.c1
  clear PD bV hV
  go_wp2_with fail
  rw [EV.out]
  refine (len_any HG.out HM.out).mono ?_
  rintro e w4 ⟨rfl, hw4⟩
  have hw5 := hw4.symm
  subst hw5
  obtain ⟨V3, hV⟩ : ∃ V3, V2.alloc (.cells #[.int .u64 5] 62) = V3 := ⟨_, rfl⟩
  have sl : Sl V3.heap.size V3 (.slice (some ⟨V2.heap.size, 0, none⟩) 1 1) [5] := by
    rw [← hV]
    have := Row.new_sl V2 [5] (wf_word (by omega) WF.nil) (by decide)
    simpa [ws] using this
  have bV : Below V2.heap.size V2 V3 := by rw [← hV]; exact (Below.refl _ _).alloc (Nat.le_refl _) _
  replace SL := hid (SL.out.now bV)
  replace G := hid (below_step G.out bV)
  have EV3 := hid hV
  have SL2 := hid sl
  clear sl bV hV hw4 HG HM EV
  go_wp2_with fail
  rw [EV3.out]
  refine (same_any SL.out SL2.out).mono ?_
  rintro e w5 ⟨rfl, nn, rfl⟩
  rw [same_self]
  have FIN : Hid (Says w (.bool true) (.returned (.bool true)) (V3.drewN nn)) := ⟨rfl, below_drewN G.out nn⟩
  clear SL SL2 G EV3
  go_wp2
  go_ret
  exact FIN.out
end Go.Proofs.Ytachdicdfhfoaaa

/- Cnt10 -/
namespace Go.Proofs.Ytachdicdfhfoaaa
open Go.RowKit Go.ChangeMaps Go.MapKept
set_option linter.unusedVariables false

theorem nodup_le : ∀ (N : Nat) (l : List Nat), l.Nodup → (∀ x ∈ l, x < N) → l.length ≤ N
  | 0, l, _, h => by
    cases l with
    | nil => simp
    | cons a r => exact absurd (h a (by simp)) (by omega)
  | N + 1, l, hd, h => by
    by_cases e : N ∈ l
    · have := nodup_le N (l.erase N) (hd.erase N) (fun x hx => by
        have h1 := (hd.mem_erase_iff.1 hx)
        have := h x h1.2
        omega)
      rw [List.length_erase_of_mem e] at this
      omega
    · have := nodup_le N l hd (fun x hx => by
        have h1 := h x hx
        have : x ≠ N := fun q => e (q ▸ hx)
        omega)
      omega
/-- A map has no more places than an injection of its keys into the numbers below N allows. -/
theorem Mp.count {κ : Type} {kv : κ → Value} {ok : κ → Prop} {w : World} {b n N : Nat} {f : κ → Option Value} (h : Mp kv ok w b f n) (ix : κ → Nat) (hi : ∀ s v, f s = some v → ix s < N)
    (hj : ∀ s s' v v', f s = some v → f s' = some v' → ix s = ix s' → s = s') : n ≤ N := by
  obtain ⟨es, clock, hb, ⟨hst, h1, h2⟩, rfl⟩ := h
  have hpw := ((stamped_iff es clock).1 hst).2.2
  -- the numbers of the keys
  have key : ∃ l : List Nat, l.length = es.toList.length ∧ l.Nodup ∧ ∀ x ∈ l, x < N := by
    clear hst h2
    generalize es.toList = L at hpw h1
    induction L with
    | nil => exact ⟨[], rfl, List.nodup_nil, by simp⟩
    | cons a r ih =>
      obtain ⟨p1, p2⟩ := List.pairwise_cons.1 hpw
      -- strengthen: each number comes from a key
      have : ∃ l : List Nat, l.length = (a :: r).length ∧ l.Nodup ∧ (∀ x ∈ l, x < N) ∧ ∀ x ∈ l, ∃ e ∈ a :: r, ∃ s, e.key = kv s ∧ f s = some e.val ∧ ix s = x := by
        clear ih
        revert hpw h1 p1 p2
        generalize a :: r = L
        intro hpw h1 _ _
        induction L with
        | nil => exact ⟨[], rfl, List.nodup_nil, by simp, by simp⟩
        | cons a r ih =>
          obtain ⟨p1, p2⟩ := List.pairwise_cons.1 hpw
          obtain ⟨l, l1, l2, l3, l4⟩ := ih p2 (fun x hx => h1 x (by simp [hx]))
          obtain ⟨s, o, e1, e2⟩ := h1 a (by simp)
          refine ⟨ix s :: l, by simp [l1], List.nodup_cons.2 ⟨fun hm => ?_, l2⟩, fun x hx => ?_, fun x hx => ?_⟩
          · obtain ⟨e, he, s', e3, e4, e5⟩ := l4 _ hm
            have := hj s s' _ _ e2 e4 e5.symm
            subst this
            exact p1 e he (e1.trans e3.symm)
          · rcases List.mem_cons.1 hx with rfl | hx
            · exact hi s _ e2
            · exact l3 x hx
          · rcases List.mem_cons.1 hx with rfl | hx
            · exact ⟨a, by simp, s, e1, e2, rfl⟩
            · obtain ⟨e, he, q⟩ := l4 x hx
              exact ⟨e, by simp [he], q⟩
      obtain ⟨l, l1, l2, l3, _⟩ := this
      exact ⟨l, l1, l2, l3⟩
  obtain ⟨l, l1, l2, l3⟩ := key
  have := nodup_le N l l2 l3
  rw [← Array.length_toList]
  omega
theorem Mp.count2 {w : World} {b n r c : Nat} {f : Nat × Nat → Option Value} (h : Mp spv spok w b f n) (hw : Wi f r c) : n ≤ r * c := by
  refine h.count (fun s => s.1 * c + s.2) (fun s v hs => ?_) (fun s s' v v' hs hs' e => ?_)
  · obtain ⟨h1, h2⟩ := hw s v hs
    have : (s.1 + 1) * c ≤ r * c := Nat.mul_le_mul_right c h1
    rw [Nat.add_mul] at this
    omega
  · obtain ⟨h1, h2⟩ := hw s v hs
    obtain ⟨h3, h4⟩ := hw s' v' hs'
    have hc : 0 < c := by omega
    have e1 : (s.1 * c + s.2) / c = s.1 := by rw [Nat.mul_comm, Nat.mul_add_div hc, Nat.div_eq_of_lt h2]; rfl
    have e2 : (s'.1 * c + s'.2) / c = s'.1 := by rw [Nat.mul_comm, Nat.mul_add_div hc, Nat.div_eq_of_lt h4]; rfl
    have e3 : (s.1 * c + s.2) % c = s.2 := by rw [Nat.mul_comm, Nat.mul_add_mod, Nat.mod_eq_of_lt h2]
    have e4 : (s'.1 * c + s'.2) % c = s'.2 := by rw [Nat.mul_comm, Nat.mul_add_mod, Nat.mod_eq_of_lt h4]
    replace e : s.1 * c + s.2 = s'.1 * c + s'.2 := e
    rw [e] at e1 e3
    exact Prod.ext (by omega) (by omega)
theorem wide_room {r c n : Nat} (hr : r ≤ 1048576) (hc : c ≤ 1048576) (hn : n ≤ r * c) : n < maxLen := by
  have : r * c ≤ 1048576 * 1048576 := Nat.mul_le_mul hr hc
  unfold maxLen
  omega
/-- A grid whose map lies in block b: its integers are F. -/
def Gq (w : World) (g b r c : Nat) (F : Nat → Nat → Int) (k : Nat) : Prop := ∃ f n, Gd w g b r c ∧ Mp spv spok w b f n ∧ Nm w f F k ∧ Wi f r c
theorem Gq.now {w w' : World} {g b r c k : Nat} {F : Nat → Nat → Int} (h : Gq w g b r c F k) (hb : Below w.heap.size w w') : Gq w' g b r c F k := by
  obtain ⟨f, n, h1, h2, h3, h4⟩ := h
  exact ⟨f, n, h1.now hb, h2.now hb, h3.now hb, h4⟩
theorem Gq.kept {w w' : World} {g b r c k x : Nat} {F : Nat → Nat → Int} (h : Gq w g b r c F k) (hg : w.grownBy w' (some x)) (hc : Cl w w') (hne : b ≠ x) : Gq w' g b r c F k := by
  obtain ⟨f, n, h1, h2, h3, h4⟩ := h
  exact ⟨f, n, h1.cl hc, h2.kept hg (fun e => hne (by simpa using e)), h3.cl hc, h4⟩
theorem Gq.ext {w : World} {g b r c k : Nat} {F F' : Nat → Nat → Int} (h : Gq w g b r c F k) (e : ∀ i j, F i j = F' i j) : Gq w g b r c F' k := by
  rw [← (funext fun i => funext fun j => e i j : F = F')]; exact h
theorem Gq.more {w : World} {g b r c k l : Nat} {F : Nat → Nat → Int} (h : Gq w g b r c F k) (hl : k ≤ l) : Gq w g b r c F l := by
  obtain ⟨f, n, h1, h2, h3, h4⟩ := h
  exact ⟨f, n, h1, h2, h3.more hl, h4⟩
theorem Gq.grd {w : World} {g b r c k : Nat} {F : Nat → Nat → Int} (h : Gq w g b r c F k) : Grd w (.pointer (some ⟨g, 0, none⟩)) r c F k := by
  obtain ⟨f, n, h1, h2, h3, h4⟩ := h
  exact ⟨g, b, f, n, rfl, h1, h2, h3, h4⟩
theorem Gq.empty {w : World} {g b r c k : Nat} (h1 : Gd w g b r c) (h2 : Mp spv spok w b (fun _ => Option.none) 0) : Gq w g b r c (fun _ _ => 0) k := ⟨_, 0, h1, h2, nm_none w k, fun s v h => by cases h⟩
theorem Gq.gd {w : World} {g b r c k : Nat} {F : Nat → Nat → Int} (h : Gq w g b r c F k) : Gd w g b r c := by
  obtain ⟨f, n, h1, _⟩ := h
  exact h1
/-- A place of a grid set, in whatever way. -/
theorem Gq.put {w w' : World} {g b r c k n : Nat} {F : Nat → Nat → Int} {f : Nat × Nat → Option Value} {s : Nat × Nat} {v : Value} {z : Int} (h1 : Gd w g b r c) (h2 : Mp spv spok w b f n) (h3 : Nm w f F k) (h4 : Wi f r c) (hz : Zm 0 w v z k)
    (hr : s.1 < r) (hc : s.2 < c) {n' : Nat} (hm : Mp spv spok w' b (upd f s (if z = 0 then Option.none else some v)) n') (hg : w.grownBy w' (some b)) : Gq w' g b r c (setF F s z) k := by
  refine ⟨_, _, h1.cl (h2.cl hg), hm, ?_, fun x u hx => ?_⟩
  · have := (h3.cl (h2.cl hg)).upd (s := s) (hz.cl (h2.cl hg))
    rwa [Nat.max_self] at this
  · by_cases e : x = s
    · subst e
      exact ⟨hr, hc⟩
    · rw [upd_ne _ _ e] at hx
      exact h4 x u hx
end Go.Proofs.Ytachdicdfhfoaaa
