/-
  QDt13ToSd13: Dt13, Ld13, Pk13, Sd13, joined.
-/
import Derived.Test.YtplldfnldaehiaaQDe13
import Derived.Test.YtplldfnldaehiaaQTy9ToChkN9
import Derived.Test.YtplldfnldaehiaaQCat9ToColsP9
import Derived.Test.YtplldfnldaehiaaQPickB9ToSq14
import Derived.Test.YtplldfnldaehiaaQCols9ToSt11

/- Dt13 -/
namespace Go.Proofs.Ytplldfnldaehiaa
open Go.RowKit
set_option linter.unusedVariables false

theorem Stz.le {A : Nat → Nat → Int} {n i : Nat} {rs cs : List Nat} {odd : Bool} (h : Stz A n i rs cs odd) : rs.length ≤ i := by
  have : rs.length ≤ (List.range i).length := List.Nodup.length_le_of_subset (h.up.imp fun hab => Nat.ne_of_lt hab) fun r hr => by simpa using h.lt r hr
  simpa using this
set_option maxHeartbeats 800000 in
set_option maxRecDepth 100000 in
theorem csq_yes {w : World} {v : Value} {n : Nat} {zs : List Int} {k : Nat} (h : Mx w v n n zs k) : Calls Try.prog 38 #[v] w fun e w' => e = .returned (.int .i64 0) ∧ Below w.heap.size w w' := by
  have M0 := h
  obtain ⟨aa, ca, rfl, hr, hc⟩ := h.form
  obtain ⟨la, hla⟩ : ∃ la, n * n = la := ⟨_, rfl⟩
  rw [hla] at M0 ⊢
  obtain ⟨W0, hW⟩ : ∃ W0, w.alloc (matO n n (.slice aa la ca)) = W0 := ⟨_, rfl⟩
  obtain ⟨b0, sz0⟩ := alo1 w (matO n n (.slice aa la ca))
  rw [hW] at b0 sz0
  have P0 : Hid (Cel W0 w.heap.size 45 (matc n n (.slice aa la ca))) := by unfold Hid; rw [← hW]; exact Cel.new w _ _
  have HC := hid (check_yes (M0.now b0))
  have G := hid b0
  have EW := hid hW
  clear h M0 b0 sz0 hW hla
  go_enter Try.func38, Try.ntmps38
  go_wp2_with fail
  rw [EW.out]
  refine HC.out.mono ?_
  rintro e w1 ⟨rfl, b⟩
  have G1 := hid (below_step G.out b)
  have x0 := (P0.out.step b).at (i := 0) rfl
  have x1 := (P0.out.step b).at (i := 1) rfl
  clear HC b
  go_wp2
  go_ret
  exact ⟨rfl, G1.out⟩
set_option maxHeartbeats 3200000 in
set_option maxRecDepth 100000 in
theorem det_sq {w : World} {v : Value} {n : Nat} {zs : List Int} {k : Nat} (h : Mx w v n n zs k) (hk : k ≤ 4000000000) : Calls Try.prog 25 #[v] w (GivesZ1 0 w (det n (en n zs)) (64 * k + 7)) := by
  have M0 := h
  obtain ⟨aa, ca, rfl, hn, -⟩ := h.form
  obtain ⟨la, hla⟩ : ∃ la, n * n = la := ⟨_, rfl⟩
  rw [hla] at M0 ⊢
  obtain ⟨W0, hW⟩ : ∃ W0, (w.alloc (matO n n (.slice aa la ca))).alloc zbox = W0 := ⟨_, rfl⟩
  obtain ⟨b0, sz0⟩ := alloc2 w (matO n n (.slice aa la ca)) zbox
  rw [hW] at b0 sz0
  have PR : Hid (Duo W0 (w.heap.size + 1) (.bool false) (.slice none 0 0)) := by
    unfold Hid; rw [← hW]
    have := Duo.new (w.alloc (matO n n (.slice aa la ca))) (.bool false) (.slice none 0 0)
    simpa using this
  have PM : Hid (Cel W0 w.heap.size 45 (matc n n (.slice aa la ca))) := by
    unfold Hid; rw [← hW]
    exact (Cel.new w 45 (matc n n (.slice aa la ca))).step ((Below.refl _ _).alloc (Nat.le_refl _) _)
  have M1 := hid (M0.now b0)
  have HC := hid (csq_yes M1.out)
  have G := hid b0
  have EW := hid hW
  have SZ := hid sz0
  have HKK := hid hk
  clear h M0 b0 sz0 hW hk hla
  go_enter Try.func25, Try.ntmps25
  go_wp2_with fail
  rw [EW.out]
  clear EW
  refine HC.out.mono ?_
  rintro e w1 ⟨rfl, b⟩
  replace PR := hid (PR.out.step b)
  replace PM := hid (PM.out.step b)
  have M1x := hid (M1.out.now b)
  have G1 := hid (below_step G.out b)
  have lz1 := b.size
  have x0 := PM.out.at (i := 0) rfl
  have x1 := PM.out.at (i := 1) rfl
  have x2 := PM.out.at (i := 2) rfl
  clear HC b M1 G
  go_upto_region 4 with fail
  have KB : Hid (∀ w', Below w1.heap.size w1 w' → w'.cell? ⟨w.heap.size, 0, none⟩ = some (.int .i64 (n : Int)) ∧ w'.cell? ⟨w.heap.size, 1, none⟩ = some (.int .i64 (n : Int)) ∧ w'.cell? ⟨w.heap.size, 2, none⟩ = some (.slice aa la ca)) := fun w' h => ⟨cnow h x0, cnow h x1, cnow h x2⟩
  refine wp_region_tail (fun w' => w'.cell? ⟨w.heap.size, 0, none⟩ = some (.int .i64 (n : Int)) ∧ w'.cell? ⟨w.heap.size, 1, none⟩ = some (.int .i64 (n : Int)) ∧ w'.cell? ⟨w.heap.size, 2, none⟩ = some (.slice aa la ca)) 5 (by kernel_rfl) ?_
  obtain ⟨D1, hD⟩ : ∃ D1, w1.drew = D1 := ⟨_, rfl⟩
  have GB : Hid (Below w1.heap.size w1 D1) := by unfold Hid; rw [← hD]; exact (Below.refl _ _).drew
  rw [hD]
  clear hD
  have D1Z := GB.out.size
  refine wpAnyT_take (i := 0) (oi := { dst := some 11, op := Op.load 45 (Operand.tmp 1), type := 45, pos := "bareiss.go:17", after := #[], guard := none }) (v := (matv n n (.slice aa la ca))) rfl (by kernel_rfl) (fun _ _ _ h => h) (Or.inl ⟨by rfl, ?_⟩) (KB.out _ GB.out) ?_
  · intro w hSw
    (try dsimp only at hSw)
    go_simp
  simp only [Act.put, List.setIfInBounds_toArray, List.set_cons_zero, List.set_cons_succ]
  refine wpAnyT_take (i := 2) (oi := { dst := some 13, op := Op.fieldAddr 45 (Operand.tmp 1) 0, type := 0, pos := "bareiss.go:17", after := #[], guard := none }) (v := (.pointer (some ⟨w.heap.size, 0, none⟩))) rfl (by kernel_rfl) (fun _ _ _ h => h) (Or.inl ⟨by rfl, ?_⟩) (KB.out _ GB.out) ?_
  · intro w hSw
    (try dsimp only at hSw)
    go_simp
  simp only [Act.put, List.setIfInBounds_toArray, List.set_cons_zero, List.set_cons_succ]
  refine wpAnyT_take (i := 3) (oi := { dst := some 14, op := Op.load 3 (Operand.tmp 13), type := 3, pos := "bareiss.go:17", after := #[{ on := 2, ground := Ground.data }], guard := none }) (v := (.int .i64 (n : Int))) rfl (by kernel_rfl) (fun _ _ _ h => h) (Or.inl ⟨by rfl, ?_⟩) (KB.out _ GB.out) ?_
  · intro w hSw
    (try dsimp only at hSw)
    go_simp
  simp only [Act.put, List.setIfInBounds_toArray, List.set_cons_zero, List.set_cons_succ]
  refine wpAnyT_one (i := 1) (o := { dst := some 12, op := Op.call { callee := Callee.value (Operand.func 39), args := #[Operand.tmp 11], argTypes := #[45] }, type := 70, pos := "bareiss.go:17", after := #[{ on := 0, ground := Ground.data }], guard := none }) (by kernel_rfl) rfl (fun K hK => ?_)
  go_simp
  go_at_call 39
  refine (stairsOf_any (M1x.out.now GB.out) HKK.out).mono ?_
  rintro e w2 ⟨Bs, B, rs, cs, odd, ks, rfl, hs1, hz1, hb1, hb2, b⟩
  have lz2 := (show Below _ _ _ from b).size
  replace GB := hid (below_step GB.out b)
  have HS1 := hid hs1
  have HZ1 := hid hz1
  clear hs1 hz1 hb1 hb2
  clear b
  refine hK.out _ _ (fun _ => KB.out _ GB.out) ?_
  clear hK
  refine wpAnyT_one (i := 4) (o := { dst := some 15, op := Op.call { callee := Callee.value (Operand.func 40), args := #[Operand.tmp 12, Operand.tmp 14], argTypes := #[70, 3] }, type := 41, pos := "bareiss.go:17", after := #[{ on := 1, ground := Ground.data }, { on := 3, ground := Ground.data }, { on := 1, ground := Ground.chain }], guard := none }) (by kernel_rfl) rfl (fun K hK => ?_)
  go_simp
  go_at_call 40
  refine (leading_any (kk := n) HS1.out HZ1.out (by omega) hn (Nat.le_trans HZ1.out.le hn) (by omega)).mono ?_
  rintro e w3 ⟨r0, rfl, m1, b⟩
  have lz3 := (show Below _ _ _ from b).size
  replace GB := hid (below_step GB.out b)
  obtain ⟨nr, xr, ar, cr, rfl⟩ := m1.parts
  have M1 := hid m1
  clear m1
  clear b
  refine hK.out _ _ (fun _ => KB.out _ GB.out) ?_
  clear hK
  refine wpAnyT_one (i := 5) (o := { dst := none, op := Op.store 41 (Operand.tmp 2) (Operand.tmp 15), type := 0, pos := "bareiss.go:17", after := #[{ on := 4, ground := Ground.data }, { on := 4, ground := Ground.chain }, { on := 0, ground := Ground.phase }, { on := 1, ground := Ground.phase }, { on := 2, ground := Ground.phase }, { on := 3, ground := Ground.phase }, { on := 4, ground := Ground.phase }], guard := none }) (by kernel_rfl) rfl (fun K hK => ?_)
  replace PR := hid (PR.out.step GB.out)
  have e0 := PR.out.c0
  have e1 := PR.out.c1
  have e2 := PR.out.fz 0
  have e3 := PR.out.fz 1
  go_simp
  clear e0 e1 e2 e3
  obtain ⟨V4, hW⟩ : ∃ V4, ((w3.setCell ⟨w.heap.size + 1, 0, none⟩ (.bool nr)).setCell ⟨w.heap.size + 1, 1, none⟩ (.slice ar xr.length cr)) = V4 := ⟨_, rfl⟩
  have FIN : Hid (GivesZ1 0 w (det n (en n zs)) (64 * k + 7) (.returned (.tuple #[.agg #[.bool nr, .slice ar xr.length cr], .int .i64 0])) V4 ∧ Duo V4 (w.heap.size + 1) (.bool nr) (.slice ar xr.length cr)) := by
    unfold Hid
    rw [← hW]
    have hd := HZ1.out.lead (Nat.le_refl n)
    have g := zfin13 M1.out (below_step G1.out GB.out) (show w.heap.size ≤ w.heap.size + 1 by omega) (show w.heap.size + 1 < _ by have := SZ.out; have := lz1; have := D1Z; omega)
    rw [show leadS (en n zs) rs cs odd n = det n (en n zs) from hd.symm] at g
    obtain ⟨_, e, g1, g2⟩ := g
    simp only [Ending.returned.injEq] at e
    subst e
    exact ⟨⟨_, rfl, g1, g2⟩, PR.out.set _ _⟩
  rw [hW]
  clear hW
  refine hK.out _ _ (fun h => absurd h (by decide)) ?_
  clear hK
  try simp only [Act.put]
  refine wpAnyT_one (i := 6) (o := { dst := some 3, op := Op.assign (Operand.const (Value.int IntKind.i64 0)), type := 46, pos := "bareiss.go:17", after := #[{ on := 5, ground := Ground.chain }, { on := 0, ground := Ground.phase }, { on := 1, ground := Ground.phase }, { on := 2, ground := Ground.phase }, { on := 3, ground := Ground.phase }, { on := 4, ground := Ground.phase }, { on := 5, ground := Ground.phase }], guard := none }) (by kernel_rfl) rfl (fun K hK => ?_)
  go_simp
  refine hK.out _ _ (fun h => absurd h (by decide)) ?_
  clear hK
  try simp only [Act.put]
  refine wpAnyT_done (by kernel_rfl) ?_ _
  clear HS1 HZ1 M1 GB KB
  go_wp2_with fail
  exact bodyPost_ret (zback1 Try.results25 FIN.out.2 _ (by rfl) (by rfl)) rfl FIN.out.1
end Go.Proofs.Ytplldfnldaehiaa

/- Ld13 -/
namespace Go.Proofs.Ytplldfnldaehiaa
open Go.RowKit Go.Shelf
set_option linter.unusedVariables false
attribute [local go_sem] Oper.semAt_some

theorem OwnP.blk {B b : Nat} {w : World} {v : Value} {ps : List (Value × Value)} (h : OwnP B w v ps) (hb : v.ownBlock = some b) : B ≤ b ∧ b < w.heap.size ∧ ∃ L, w.heap[b]? = some (.cells L 41 (0, 0)) := by
  obtain ⟨_, ⟨r2, _⟩ | ⟨g2, cap, cur, r2, r3, r4, r5⟩⟩ := h
  · rw [r2] at hb; cases hb
  · rw [r2] at hb
    simp only [Value.ownBlock, Option.some.injEq] at hb
    subst hb
    exact ⟨r3, (Array.getElem?_eq_some_iff.1 r4).1, cur, r4⟩
theorem OwnP.keep13 {B : Nat} {w w' : World} {v : Value} {ps : List (Value × Value)} (h : OwnP B w v ps) (hk : ∀ b, v.ownBlock = some b → b < w.heap.size → w'.heap[b]? = w.heap[b]?) : OwnP B w' v ps := owns_keep h hk
/-- The numbers of Leading. -/
def ldL (A : Nat → Nat → Int) (n : Nat) : List Int := (List.range (n + 1)).map fun t => det t A
/-- What holds between rounds. -/
def LdJ (w : World) (Bs Bl c r kw : Nat) (zs : List Int) (s : Nat × List Nat) (W : World) : Prop :=
  ∃ rs cs odd ks lv qs, Srs (en c zs) s.1 W Bs c rs cs odd ks kw ∧ Stz (en c zs) c s.2.length rs cs odd ∧ (∀ x ∈ ks, x ∈ s.2) ∧ (∀ x ∈ s.2, x < W.heap.size) ∧ Cel W Bl 43 [lv] ∧ OwnP w.heap.size W lv qs ∧ Zms W qs (ldL (en c zs) s.2.length) kw ∧ (∀ b, lv.ownBlock = some b → b ∉ s.2 ∧ (b + 1 = Bl ∨ s.1 ≤ b)) ∧ s.2.length ≤ r ∧ Below w.heap.size w W ∧ Bl < s.1 ∧ Bs < s.1
theorem LdJ.own {w : World} {Bs Bl c r kw B : Nat} {zs : List Int} (hB : w.heap.size ≤ B) : OwnFrom B (LdJ w Bs Bl c r kw zs) := fun s W W' row hs hg hr => by
  obtain ⟨rs, cs, odd, ks, lv, qs, h1, h2, h3, h4, h5, h6, h7, h8, h9, h10, h11⟩ := hs
  have hk := kc_grown hg (fun r e => (hr r e).2)
  exact ⟨rs, cs, odd, ks, lv, qs, h1.kc hk, h2, h3, fun x hx => Nat.lt_of_lt_of_le (h4 x hx) hk.1, hk.cel h5, h6.keep13 (fun b hb _ => by obtain ⟨_, _, L, e⟩ := h6.blk hb; rw [e]; exact hk.2 b _ e rfl), h7.kc hk, h8, h9, h10.grown hg h10.size (fun k e => Nat.le_trans hB (hr k e).1), h11⟩
/-- What is known of a row that is handed out: it lies behind all that was there between the rounds. -/
def AtF (J : Nat × List Nat → World → Prop) (k : Nat) (m : List (List Int)) (s : Nat × List Nat) (x : Nat × Nat) (X : World) : Prop := AtL k m s x X ∧ ∃ X0, J s X0 ∧ X0.heap.size ≤ x.2 ∧ Kc X0 X
theorem Kc.trans {X Y Z : World} (h : Kc X Y) (h' : Kc Y Z) : Kc X Z := ⟨Nat.le_trans h.1 h'.1, fun b o e q => h'.2 b o (h.2 b o e q) q⟩
theorem AtF.own {J : Nat × List Nat → World → Prop} {k B : Nat} {m : List (List Int)} (s : Nat × List Nat) (x : Nat × Nat) : OwnFrom B (fun (_ : Unit) W => AtF J k m s x W) := fun u W W' row hs hg hr => by
  obtain ⟨h1, X0, h2, h3, h4⟩ := hs
  exact ⟨AtL.own s x u W W' row h1 hg hr, X0, h2, h3, h4.trans (kc_grown hg (fun r e => (hr r e).2))⟩
end Go.Proofs.Ytplldfnldaehiaa

/- Pk13 -/
namespace Go.Proofs.Ytplldfnldaehiaa
open Go.RowKit
set_option linter.unusedVariables false

theorem row_getD13 {r c i j : Nat} {xs : List Int} (hi : i < r) (hj : j < c) : ((rowsL r c xs).getD i []).getD j 0 = xs.getD (i * c + j) 0 := by
  have e : (rowsL r c xs).getD i [] = (xs.drop (i * c)).take c := by simp [rowsL, hi]
  rw [e, List.getD_eq_getElem?_getD, List.getD_eq_getElem?_getD, List.getElem?_take, if_pos hj, List.getElem?_drop]
theorem pick_en {r c a b : Nat} {zs : List Int} {is js : List Nat} (hi : ∀ i ∈ is, i < r) (hj : ∀ j ∈ js, j < c) (ha : a < is.length) (hb : b < js.length) : en js.length (pickL r c zs is js) a b = en c zs (is.getD a 0) (js.getD b 0) := by
  unfold en pickL
  rw [flat_getD hb (by intro x hx; unfold pickR at hx; simp only [List.mem_map] at hx; obtain ⟨row, _, rfl⟩ := hx; simp) (by simp [pickR, ha])]
  have e : (pickR (rowsL r c zs) is js).getD a [] = js.map (ent9 (rowsL r c zs) is[a]) := by simp [pickR, ha]
  rw [e]
  have e2 : (js.map (ent9 (rowsL r c zs) is[a])).getD b 0 = ent9 (rowsL r c zs) is[a] js[b] := by simp [hb]
  rw [e2]
  have e3 : is.getD a 0 = is[a] := by simp [ha]
  have e4 : js.getD b 0 = js[b] := by simp [hb]
  rw [e3, e4]
  exact row_getD13 (hi _ (List.getElem_mem ha)) (hj _ (List.getElem_mem hb))
theorem pick_det {r c k : Nat} {zs : List Int} {is js : List Nat} (hi : ∀ i ∈ is, i < r) (hj : ∀ j ∈ js, j < c) (h1 : is.length = k) (h2 : js.length = k) : det k (en k (pickL r c zs is js)) = det k fun a b => en c zs (is.getD a 0) (js.getD b 0) := by
  refine det_congr fun a b ha hb => ?_
  have := pick_en (zs := zs) hi hj (show a < is.length by omega) (show b < js.length by omega)
  rw [h2] at this
  exact this
end Go.Proofs.Ytplldfnldaehiaa

/- Sd13 -/
namespace Go.Proofs.Ytplldfnldaehiaa
open Go.RowKit
set_option linter.unusedVariables false

theorem Raw.mx13 {w : World} {v : Value} {r c : Nat} {l : Nat} {zs : List Int} (h : Raw w v (r : Int) (c : Int) l zs) (hs : Snd (r : Int) (c : Int) l) : Mx w v r c zs 1048576 ∧ l = r * c := ⟨h.mx hs, by have := hs.2.2.2.2; exact Int.ofNat.inj this⟩
end Go.Proofs.Ytplldfnldaehiaa
