/-
 QDt13ToTm14: Dt13, Ld13, Pk13, Sd13, Tm14, joined.
-/
import Derived.Test.YtplldfnldaehiaaGreatQDe13
import Derived.Test.YtplldfnldaehiaaGreatQPure9ToLeastA9
import Derived.Test.YtplldfnldaehiaaGreatQEach9ToZFloor
import Derived.Test.YtplldfnldaehiaaGreatQPickB9ToNt14
import Derived.Test.YtplldfnldaehiaaGreatQEl13

set_option maxRecDepth 100000
set_option maxHeartbeats 6400000
set_option linter.unusedVariables false
set_option linter.unusedSimpArgs false
namespace Go.Proofs.YtplldfnldaehiaaGreat
open Go.RowKit
theorem Stz.le {A : Nat → Nat → Int} {n i : Nat} {rs cs : List Nat} {odd : Bool} (h : Stz A n i rs cs odd) : rs.length ≤ i := by
 have : rs.length ≤ (List.range i).length := List.Nodup.length_le_of_subset (h.up.imp fun hab => Nat.ne_of_lt hab) fun r hr => by simpa using h.lt r hr
 simpa using this
theorem csq_yes {w : World} {v : Value} {n : Nat} {zs : List Int} {k : Nat} (h : Mx w v n n zs k) : Calls Tryz.prog 56 #[v] w fun e w' => e = .returned (.int .i64 0) ∧ Below w.heap.size w w' := by
 have M0 := h; obtain ⟨aa, ca, rfl, hr, hc⟩ := h.form; obtain ⟨la, hla⟩ : ∃ la, n * n = la := ⟨_, rfl⟩
 rw [hla] at M0 ⊢; obtain ⟨W0, hW⟩ : ∃ W0, w.alloc (matO n n (.slice aa la ca)) = W0 := ⟨_, rfl⟩
 obtain ⟨b0, sz0⟩ := alo1 w (matO n n (.slice aa la ca)); rw [hW] at b0 sz0; have P0 : Hid (Cel W0 w.heap.size 24 (matc n n (.slice aa la ca))) := by unfold Hid; rw [← hW]; exact Cel.new w _ _
 have HC := hid (zxA (M0.now b0)); have G := hid b0; have EW := hid hW; clear h M0 b0 sz0 hW hla; go_enter Tryz.func56, Tryz.ntmps56; go_wp2_with fail; rw [EW.out]; refine HC.out.mono ?_; rintro e w1 ⟨rfl, b⟩; have G1 := hid (below_step G.out b); have x0 := (P0.out.step b).at (i := 0) rfl; have x1 := (P0.out.step b).at (i := 1) rfl; clear HC b; go_wp2; go_ret; exact ⟨rfl, G1.out⟩
theorem zIJ {w : World} {v : Value} {n : Nat} {zs : List Int} {k : Nat} (h : Mx w v n n zs k) (hk : k ≤ 4000000000) : Calls Tryz.prog 30 #[v] w (zpA 0 w (det n (en n zs)) (64 * k + 7)) := by
 have M0 := h; obtain ⟨aa, ca, rfl, hn, -⟩ := h.form; obtain ⟨la, hla⟩ : ∃ la, n * n = la := ⟨_, rfl⟩
 rw [hla] at M0 ⊢; obtain ⟨W0, hW⟩ : ∃ W0, (w.alloc (matO n n (.slice aa la ca))).alloc zbox = W0 := ⟨_, rfl⟩
 obtain ⟨b0, sz0⟩ := zeA w (matO n n (.slice aa la ca)) zbox; rw [hW] at b0 sz0; have PR : Hid (Duo W0 (w.heap.size + 1) (.bool false) (.slice none 0 0)) := by
  unfold Hid; rw [← hW]; have := Duo.new (w.alloc (matO n n (.slice aa la ca))) (.bool false) (.slice none 0 0)
  simpa using this
 have PM : Hid (Cel W0 w.heap.size 24 (matc n n (.slice aa la ca))) := by
  unfold Hid; rw [← hW]; exact (Cel.new w 24 (matc n n (.slice aa la ca))).step ((Below.refl _ _).alloc (Nat.le_refl _) _)
 have M1 := hid (M0.now b0); have HC := hid (csq_yes M1.out); have G := hid b0; have EW := hid hW; have SZ := hid sz0; have HKK := hid hk; clear h M0 b0 sz0 hW hk hla; go_enter Tryz.func30, Tryz.ntmps30; go_wp2_with fail; rw [EW.out]; clear EW; refine HC.out.mono ?_; rintro e w1 ⟨rfl, b⟩; replace PR := hid (PR.out.step b); replace PM := hid (PM.out.step b); have M1x := hid (M1.out.now b); have G1 := hid (below_step G.out b); have lz1 := b.size; have x0 := PM.out.at (i := 0) rfl; have x1 := PM.out.at (i := 1) rfl; have x2 := PM.out.at (i := 2) rfl; clear HC b M1 G; go_upto_region 4 with fail
 have KB : Hid (∀ w', Below w1.heap.size w1 w' → w'.cell? ⟨w.heap.size, 0, none⟩ = some (.int .i64 (n : Int)) ∧ w'.cell? ⟨w.heap.size, 1, none⟩ = some (.int .i64 (n : Int)) ∧ w'.cell? ⟨w.heap.size, 2, none⟩ = some (.slice aa la ca)) := fun w' h => ⟨cnow h x0, cnow h x1, cnow h x2⟩
 refine zCA (fun w' => w'.cell? ⟨w.heap.size, 0, none⟩ = some (.int .i64 (n : Int)) ∧ w'.cell? ⟨w.heap.size, 1, none⟩ = some (.int .i64 (n : Int)) ∧ w'.cell? ⟨w.heap.size, 2, none⟩ = some (.slice aa la ca)) 5 (by kernel_rfl) ?_; obtain ⟨D1, hD⟩ : ∃ D1, w1.drew = D1 := ⟨_, rfl⟩
 have GB : Hid (Below w1.heap.size w1 D1) := by unfold Hid; rw [← hD]; exact (Below.refl _ _).drew
 rw [hD]; clear hD; have D1Z := GB.out.size; refine zBA [(0, (matv n n (.slice aa la ca))), (2, (.pointer (some ⟨w.heap.size, 0, none⟩))), (3, (.int .i64 (n : Int)))] 3 ?_ (KB.out _ GB.out) ?_
 ·simp only [zJA, gA9, g09, g19, Act.put, sI9, s09, s19]; (repeat' (first | exact trivial | refine And.intro (Or.inl ⟨by rfl, ?_⟩) ?_)) <;> (intro w hSw; (try dsimp only at hSw); go_simp)
 simp only [actV, gA9, g09, g19, Act.put, sI9, s09, s19]; refine zAA (i := 1) (o := ⟨some 12, .call { callee := .value (.func 57), args := #[.tmp 11], argTypes := #[24] }, 91, "bareiss.go:17", #[⟨0, .data⟩], none⟩) (by kernel_rfl) rfl (fun K hK => ?_); go_simp; go_at_call 57; refine (zND (M1x.out.now GB.out) HKK.out).mono ?_; rintro e w2 ⟨Bs, B, rs, cs, odd, ks, rfl, hs1, hz1, hb1, hb2, b⟩; have lz2 := (show Below _ _ _ from b).size; replace GB := hid (below_step GB.out b); have HS1 := hid hs1; have HZ1 := hid hz1; clear hs1 hz1 hb1 hb2; clear b; refine hK.out _ _ (fun _ => KB.out _ GB.out) ?_; clear hK; refine zAA (i := 4) (o := ⟨some 15, .call { callee := .value (.func 58), args := #[.tmp 12, .tmp 14], argTypes := #[91, 3] }, 37, "bareiss.go:17", #[⟨1, .data⟩, ⟨3, .data⟩, ⟨1, .chain⟩], none⟩) (by kernel_rfl) rfl (fun K hK => ?_); go_simp; go_at_call 58; refine (leading_any (kk := n) HS1.out HZ1.out (by omega) hn (Nat.le_trans HZ1.out.le hn) (by omega)).mono ?_; rintro e w3 ⟨r0, rfl, m1, b⟩; have lz3 := (show Below _ _ _ from b).size; replace GB := hid (below_step GB.out b); obtain ⟨nr, xr, ar, cr, rfl⟩ := m1.parts; have M1 := hid m1; clear m1; clear b; refine hK.out _ _ (fun _ => KB.out _ GB.out) ?_; clear hK; refine zAA (i := 5) (o := ⟨none, .store 37 (.tmp 2) (.tmp 15), 0, "bareiss.go:17", #[⟨4, .data⟩, ⟨4, .chain⟩, ⟨0, .phase⟩, ⟨1, .phase⟩, ⟨2, .phase⟩, ⟨3, .phase⟩, ⟨4, .phase⟩], none⟩) (by kernel_rfl) rfl (fun K hK => ?_); replace PR := hid (PR.out.step GB.out); have e0 := PR.out.c0; have e1 := PR.out.c1; have e2 := PR.out.fz 0; have e3 := PR.out.fz 1; go_simp; clear e0 e1 e2 e3; obtain ⟨V4, hW⟩ : ∃ V4, ((w3.setCell ⟨w.heap.size + 1, 0, none⟩ (.bool nr)).setCell ⟨w.heap.size + 1, 1, none⟩ (.slice ar xr.length cr)) = V4 := ⟨_, rfl⟩
 have FIN : Hid (zpA 0 w (det n (en n zs)) (64 * k + 7) (.returned (.tuple #[.agg #[.bool nr, .slice ar xr.length cr], .int .i64 0])) V4 ∧ Duo V4 (w.heap.size + 1) (.bool nr) (.slice ar xr.length cr)) := by
  unfold Hid; rw [← hW]; have hd := HZ1.out.lead (Nat.le_refl n); have g := zaC M1.out (below_step G1.out GB.out) (show w.heap.size ≤ w.heap.size + 1 by omega) (show w.heap.size + 1 < _ by have := SZ.out; have := lz1; have := D1Z; omega); rw [show ziF (en n zs) rs cs odd n = det n (en n zs) from hd.symm] at g; obtain ⟨_, e, g1, g2⟩ := g; simp only [Ending.returned.injEq] at e; subst e; exact ⟨⟨_, rfl, g1, g2⟩, PR.out.set _ _⟩
 rw [hW]; clear hW; refine hK.out _ _ (fun h => absurd h (by decide)) ?_; clear hK
 try simp only [Act.put]
 refine zAA (i := 6) (o := ⟨some 3, .assign (.const (.int .i64 0)), 26, "bareiss.go:17", #[⟨5, .chain⟩, ⟨0, .phase⟩, ⟨1, .phase⟩, ⟨2, .phase⟩, ⟨3, .phase⟩, ⟨4, .phase⟩, ⟨5, .phase⟩], none⟩) (by kernel_rfl) rfl (fun K hK => ?_); go_simp; refine hK.out _ _ (fun h => absurd h (by decide)) ?_; clear hK
 try simp only [Act.put]
 refine zDA (by kernel_rfl) ?_ _; clear HS1 HZ1 M1 GB KB; go_wp2_with fail; exact bodyPost_ret (zRC Tryz.results30 FIN.out.2 _ (by rfl) (by rfl)) rfl FIN.out.1
open Go.RowKit Go.Shelf
attribute [local go_sem] Oper.semAt_some
end Go.Proofs.YtplldfnldaehiaaGreat
namespace Go.Proofs.YtplldfnldaehiaaGreat
open Go.RowKit
theorem row_getD13 {r c i j : Nat} {xs : List Int} (hi : i < r) (hj : j < c) : ((rowsL r c xs).getD i []).getD j 0 = xs.getD (i * c + j) 0 := by
 have e : (rowsL r c xs).getD i [] = (xs.drop (i * c)).take c := by simp [rowsL, hi]
 rw [e, List.getD_eq_getElem?_getD, List.getD_eq_getElem?_getD, List.getElem?_take, if_pos hj, List.getElem?_drop]
theorem pick_en {r c a b : Nat} {zs : List Int} {is js : List Nat} (hi : ∀ i ∈ is, i < r) (hj : ∀ j ∈ js, j < c) (ha : a < is.length) (hb : b < js.length) : en js.length (zLH r c zs is js) a b = en c zs (is.getD a 0) (js.getD b 0) := by
 unfold en zLH; rw [zqF hb (by intro x hx; unfold pickR at hx; simp only [List.mem_map] at hx; obtain ⟨row, _, rfl⟩ := hx; simp) (by simp [pickR, ha])]; have e : (pickR (rowsL r c zs) is js).getD a [] = js.map (ent9 (rowsL r c zs) is[a]) := by simp [pickR, ha]
 rw [e]; have e2 : (js.map (ent9 (rowsL r c zs) is[a])).getD b 0 = ent9 (rowsL r c zs) is[a] js[b] := by simp [hb]
 rw [e2]; have e3 : is.getD a 0 = is[a] := by simp [ha]
 have e4 : js.getD b 0 = js[b] := by simp [hb]
 rw [e3, e4]; exact row_getD13 (hi _ (List.getElem_mem ha)) (hj _ (List.getElem_mem hb))
theorem zkG {r c k : Nat} {zs : List Int} {is js : List Nat} (hi : ∀ i ∈ is, i < r) (hj : ∀ j ∈ js, j < c) (h1 : is.length = k) (h2 : js.length = k) : det k (en k (zLH r c zs is js)) = det k fun a b => en c zs (is.getD a 0) (js.getD b 0) := by
 refine zHA fun a b ha hb => ?_
 have := pick_en (zs := zs) hi hj (show a < is.length by omega) (show b < js.length by omega); rw [h2] at this; exact this
theorem snd13 {r c : Int} {l : Nat} (h : Snd r c l) : ∃ a b : Nat, r = (a : Int) ∧ c = (b : Int) := by
 obtain ⟨h1, h2, h3, h4, h5⟩ := h; exact ⟨r.toNat, c.toNat, by omega, by omega⟩
theorem Raw.mx13 {w : World} {v : Value} {r c : Nat} {l : Nat} {zs : List Int} (h : Raw w v (r : Int) (c : Int) l zs) (hs : Snd (r : Int) (c : Int) l) : Mx w v r c zs 1048576 ∧ l = r * c := ⟨h.mx hs, by have := hs.2.2.2.2; exact Int.ofNat.inj this⟩
def Tru (w : World) (e : Ending) (w' : World) : Prop := e = .returned (.bool true) ∧ Below w.heap.size w w'
def zF (m n : Nat) (F : Nat → Nat → Int) : List Int := (List.range (m * n)).map fun t => F (t / n) (t % n)
theorem zNB (m n : Nat) (F : Nat → Nat → Int) : (zF m n F).length = m * n := by simp [zF]
theorem zxB {m n i j : Nat} (hi : i < m) (hj : j < n) : i * n + j < m * n := by
 have h := Nat.mul_le_mul_right n (show i + 1 ≤ m from hi); rw [Nat.succ_mul] at h; omega
theorem zQJ {n i j : Nat} (hj : j < n) : (i * n + j) / n = i ∧ (i * n + j) % n = j := by
 have hn : 0 < n := by omega
 rw [Nat.mul_comm i n, Nat.mul_add_div hn, Nat.mul_add_mod, Nat.div_eq_of_lt hj, Nat.mod_eq_of_lt hj]; exact ⟨by omega, rfl⟩
theorem zZE {m n i j : Nat} {F : Nat → Nat → Int} (hi : i < m) (hj : j < n) : (zF m n F).getD (i * n + j) 0 = F i j := by
 have h := zxB hi hj; have e := zQJ (i := i) hj; simp [zF, h, e.1, e.2]
theorem zGC {m n : Nat} {F G : Nat → Nat → Int} (h : ∀ i j, i < m → j < n → F i j = G i j) : zF m n F = zF m n G := List.map_congr_left fun t ht => by
 have ht' : t < m * n := by simpa using ht
 have hn : 0 < n := Nat.pos_of_ne_zero fun e => by subst e; simp at ht'
 exact h _ _ (Nat.div_lt_of_lt_mul (by rw [Nat.mul_comm]; exact ht')) (Nat.mod_lt _ hn)
def up2 (F : Nat → Nat → Int) (i j : Nat) (z : Int) : Nat → Nat → Int := fun r c => if r = i ∧ c = j then z else F r c
theorem zF_set {m n i j : Nat} {F : Nat → Nat → Int} (hi : i < m) (hj : j < n) (z : Int) : (zF m n F).set (i * n + j) z = zF m n (up2 F i j z) := by
 have h := zxB hi hj; have e := zQJ (i := i) hj
 apply List.ext_getElem?
 intro t
 by_cases q : t < m * n
 ·by_cases c : t = i * n + j
  ·subst c
   rw [List.getElem?_set_self (by rw [zNB]; exact q)]; simp [zF, q, up2, e.1, e.2]
  ·rw [List.getElem?_set_ne (by omega)]
   have : ¬ (t / n = i ∧ t % n = j) := fun ⟨a, b⟩ => c (by rw [← a, ← b, Nat.mul_comm]; exact (Nat.div_add_mod t n).symm)
   simp [zF, q, up2, this]
 ·rw [List.getElem?_eq_none (by simp [zNB]; omega), List.getElem?_eq_none (by simp [zNB]; omega)]
theorem zbJ {m n : Nat} {zs : List Int} (h : zs.length = m * n) : zF m n (en n zs) = zs := by
 refine List.ext_getElem (by rw [zNB, h]) fun t h1 h2 => ?_
 have ht : t < m * n := by rw [zNB] at h1; exact h1
 simp only [zF, List.getElem_map, List.getElem_range, en]; rw [Nat.mul_comm (t / n) n, Nat.div_add_mod]; simp [h2]
theorem en_zF {m n i j : Nat} {F : Nat → Nat → Int} (hi : i < m) (hj : j < n) : en n (zF m n F) i j = F i j := zZE hi hj
def AZ (w : World) (g : Nat) (zs : List Int) (k : Nat) : Prop := ∃ ps, Arr w g ps ∧ Zms w ps zs k
theorem AZ.step {w w' : World} {g : Nat} {zs : List Int} {k : Nat} (h : AZ w g zs k) (hb : Below w.heap.size w w') : AZ w' g zs k := by
 obtain ⟨ps, h1, h2⟩ := h; exact ⟨ps, h1.step hb, h2.now hb⟩
theorem AZ.blk {w : World} {g : Nat} {zs : List Int} {k : Nat} (h : AZ w g zs k) : g < w.heap.size := by
 obtain ⟨ps, h1, h2⟩ := h; exact h1.1.blk
theorem AZ.ty {T : TypeId} {w w' : World} {g : Nat} {zs : List Int} {k : Nat} (h : AZ w g zs k) (ht : Ty T w w') (h1 : 37 ≠ T) (h2 : 54 ≠ T) : AZ w' g zs k := by
 obtain ⟨ps, a1, a2⟩ := h; exact ⟨ps, ⟨a1.1.ty13 ht h1, a1.2⟩, a2.ty ht h2⟩
theorem AZ.at {w : World} {g m n i j : Nat} {F : Nat → Nat → Int} {k : Nat} (h : AZ w g (zF m n F) k) (hi : i < m) (hj : j < n) :
  ∃ b a l c, w.cell? ⟨g, (i * n + j) * 2, none⟩ = some (.bool b) ∧ w.cell? ⟨g, (i * n + j) * 2 + 1, none⟩ = some (.slice a l c) ∧ w.frozen? ⟨g, (i * n + j) * 2, none⟩ = false ∧ w.frozen? ⟨g, (i * n + j) * 2 + 1, none⟩ = false ∧ Zm 0 w (.agg #[.bool b, .slice a l c]) (F i j) k := by
 obtain ⟨ps, h1, h2⟩ := h; obtain ⟨b, a, l, c, e0, e1, e2, e3, z⟩ := h2.at h1 (t := i * n + j) (by rw [zNB]; exact zxB hi hj); rw [zZE hi hj] at z; exact ⟨b, a, l, c, e0, e1, e2, e3, z⟩
theorem AZ.put {w : World} {g m n i j : Nat} {F : Nat → Nat → Int} {k : Nat} (h : AZ w g (zF m n F) k) (hi : i < m) (hj : j < n) {x y : Value} {z : Int} (hz : Zm 0 w (.agg #[x, y]) z k) : AZ ((w.setCell ⟨g, (i * n + j) * 2, none⟩ x).setCell ⟨g, (i * n + j) * 2 + 1, none⟩ y) g (zF m n (up2 F i j z)) k := by
 obtain ⟨ps, h1, h2⟩ := h; obtain ⟨u1, u2, -⟩ := h2.put h1 (t := i * n + j) (by rw [zNB]; exact zxB hi hj) hz; rw [zF_set hi hj] at u2; exact ⟨_, u1, u2⟩
theorem AZ.touch {w w' : World} {g : Nat} {zs : List Int} {k : Nat} (h : AZ w g zs k) (ht : zNA (· = g) w w') : Ty 37 w w' := by
 obtain ⟨ps, h1, h2⟩ := h; exact ht.ty13 h1
abbrev tbL (m n rk : Nat) (va vb vo x y : Value) : List Value := [.int .i64 (m : Int), .int .i64 (n : Int), va, vb, vo, x, y, .int .i64 (rk : Int)]
abbrev nf14 (l : List Nat) : Nat → Int := fun t => (l.getD t 0 : Nat)
structure TabM (w : World) (bt ga gb go m n : Nat) (bs os : List Nat) (F : Nat → Nat → Int) (d : Int) (rk k : Nat) : Prop where
 box : ∃ ab cb nd ad ld cd, Cel w bt 112 (tbL m n rk (.slice (some ⟨ga, 0, none⟩) (m * n) (m * n)) (.slice ab m cb) (.slice (some ⟨go, 0, none⟩) n n) (.bool nd) (.slice ad ld cd)) ∧ Zm 0 w (.agg #[.bool nd, .slice ad ld cd]) d k ∧ m ≤ cb ∧ (0 < m → ab = some ⟨gb, 0, none⟩ ∧ ∃ r, Cel w gb 3 (wf m (nf14 bs) ++ r))
 arr : AZ w ga (zF m n F) k
 oth : Cel w go 3 (wf n (nf14 os))
 ne : gb ≠ go
 lb : bs.length = m
 lo : os.length = n
 hm : m ≤ 64
 hn : n ≤ 64
 rk64 : rk ≤ 64
theorem zSH {k i : Nat} {F : Nat → Int} {r : List Value} (hi : i < k) : (wf k F ++ r)[i]? = some (.int .i64 (F i)) := by rw [List.getElem?_append_left (by simpa [wf] using hi), zaE hi]
theorem wfr_set {k i : Nat} {F : Nat → Int} {r : List Value} (hi : i < k) (z : Int) : (wf k F ++ r).set i (.int .i64 z) = wf k (upF F i z) ++ r := by rw [List.set_append_left _ _ (by simpa [wf] using hi), zYG hi]
end Go.Proofs.YtplldfnldaehiaaGreat
