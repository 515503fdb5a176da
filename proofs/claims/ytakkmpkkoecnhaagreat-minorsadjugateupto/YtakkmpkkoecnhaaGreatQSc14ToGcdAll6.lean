/-
 QSc14ToGcdAll6: Sc14, ListP6, Iv14, GcdAll6, joined.
-/
import Derived.Test.YtakkmpkkoecnhaaGreatQAy14ToLm14
import Derived.Test.YtakkmpkkoecnhaaGreatQChk9ToMul9
import Derived.Test.YtakkmpkkoecnhaaGreatQExtPureToTy9
import Derived.Test.YtakkmpkkoecnhaaGreatQAj14ToCn14
import Derived.Test.YtakkmpkkoecnhaaGreatQFil9ToTail
import Derived.Test.YtakkmpkkoecnhaaGreatQUnit9ToMWord

set_option maxRecDepth 100000
set_option maxHeartbeats 6400000
set_option linter.unusedVariables false
set_option linter.unusedSimpArgs false
namespace Go.Proofs.YtakkmpkkoecnhaaGreat
open Go.RowKit
theorem zIB (z : Int) (zs : List Int) : (zJB z zs).length = zs.length := by simp [zJB]
theorem zKG {w : World} {at_ : Value} {r c l : Nat} {zs : List Int} (h : Mx w (matv r c at_) r c zs l) : Zl w at_ zs l := by
 obtain ⟨at2, ps, e, h1, h2, h3, -, -⟩ := h; simp only [matv, Value.agg.injEq] at e; have e2 : at_ = at2 := by simpa using e
 subst e2; exact zPF h1 h2
theorem zVF {w : World} {kv va : Value} {r c k l : Nat} {z : Int} {zs : List Int} (hz : Zi w kv z k) (ha : Mx w va r c zs l) (hk : k + l ≤ 35184372088832) :
  Calls Tryz.prog 12 #[kv, va] w (zhB w r c (zJB z zs) (k + l)) := by
 have M0 := ha; have Z0 := hz; obtain ⟨aa, ca, rfl, hr, hc⟩ := ha.form; obtain ⟨nk, xk, ak, ck, rfl, -, -, -⟩ := hz; obtain ⟨lk, hlk⟩ : ∃ lk, xk.length = lk := ⟨_, rfl⟩
 rw [hlk] at Z0 ⊢; have hzl : zs.length = r * c := by obtain ⟨_, _, _, _, _, h, _⟩ := M0; exact h
 have HZL := hid hzl; obtain ⟨la, hla⟩ : ∃ la, r * c = la := ⟨_, rfl⟩
 rw [hla] at M0 ⊢; have HLA := hid hla; obtain ⟨W0, hW⟩ : ∃ W0, ((w.alloc (duo (.bool nk) (.slice ak lk ck))).alloc (matO r c (.slice aa la ca))).alloc mbox = W0 := ⟨_, rfl⟩
 obtain ⟨b0, sz0⟩ := zyA w (duo (.bool nk) (.slice ak lk ck)) (matO r c (.slice aa la ca)) mbox; rw [hW] at b0 sz0; have PK : Hid (Duo W0 w.heap.size (.bool nk) (.slice ak lk ck)) := by
  unfold Hid; rw [← hW]; exact ((Duo.new w _ _).step ((Below.refl _ _).alloc (Nat.le_refl _) _)).step ((Below.refl _ _).alloc (Nat.le_refl _) _)
 have PA : Hid (Cel W0 (w.heap.size + 1) 24 (matc r c (.slice aa la ca))) := by
  unfold Hid; rw [← hW]; have := (Cel.new (w.alloc (duo (.bool nk) (.slice ak lk ck))) 24 (matc r c (.slice aa la ca))).step ((Below.refl _ _).alloc (Nat.le_refl _) mbox)
  simpa using this
 have PR : Hid (Cel W0 (w.heap.size + 1 + 1) 24 [.int .i64 0, .int .i64 0, .slice none 0 0]) := by
  unfold Hid; rw [← hW]; have := Cel.new ((w.alloc (duo (.bool nk) (.slice ak lk ck))).alloc (matO r c (.slice aa la ca))) 24 [.int .i64 0, .int .i64 0, .slice none 0 0]
  simpa using this
 have HC := hid (zsA (M0.now b0)); have MA := hid (M0.now b0); have ZK := hid (Z0.now b0); have G := hid b0; have HK := hid hk; have x0 := PA.out.at (i := 0) rfl; have x1 := PA.out.at (i := 1) rfl; have x2 := PA.out.at (i := 2) rfl; rw [← hW] at x0 x1 x2; have EW := hid hW; clear ha M0 Z0 b0 sz0 hW hlk hla hzl hk; go_enter Tryz.func12, Tryz.ntmps12; go_wp2_with fail; rw [EW.out]; clear EW x0 x1 x2; refine HC.out.mono ?_; rintro e w1 ⟨rfl, b⟩; replace PA := hid (PA.out.step b); replace PK := hid (PK.out.step b); replace PR := hid (PR.out.step b); replace MA := hid (MA.out.now b); replace ZK := hid (ZK.out.now b); replace G := hid (zAA G.out b); obtain ⟨b2, hb2⟩ : ∃ b2, w.heap.size + 1 = b2 := ⟨_, rfl⟩
 obtain ⟨b3, hb3⟩ : ∃ b3, b2 + 1 = b3 := ⟨_, rfl⟩
 obtain ⟨b1, hb1⟩ : ∃ b1, w.heap.size = b1 := ⟨_, rfl⟩
 rw [hb2, hb3] at PR; rw [hb2] at PA; rw [hb1] at PK; rw [hb2, hb3, hb1]; have HB : Hid (w.heap.size ≤ b3 ∧ w.heap.size ≤ b1) := by unfold Hid; omega
 have x0 := PA.out.at (i := 0) rfl; have x1 := PA.out.at (i := 1) rfl; have x2 := PA.out.at (i := 2) rfl; have y0 := PK.out.c0; have y1 := PK.out.c1; clear HC b hb1 hb2 hb3; go_wp2_with fail; have KB : Hid (∀ w', Below w1.heap.size w1 w' → w'.cell? ⟨b2, 0, none⟩ = some (.int .i64 (r : Int)) ∧ w'.cell? ⟨b2, 1, none⟩ = some (.int .i64 (c : Int)) ∧ w'.cell? ⟨b2, 2, none⟩ = some (.slice aa la ca) ∧ w'.cell? ⟨b1, 0, none⟩ = some (.bool nk) ∧ w'.cell? ⟨b1, 1, none⟩ = some (.slice ak lk ck)) := fun w' h => ⟨cnow h x0, cnow h x1, cnow h x2, cnow h y0, cnow h y1⟩
 refine zEA (fun w' => w'.cell? ⟨b2, 0, none⟩ = some (.int .i64 (r : Int)) ∧ w'.cell? ⟨b2, 1, none⟩ = some (.int .i64 (c : Int)) ∧ w'.cell? ⟨b2, 2, none⟩ = some (.slice aa la ca) ∧ w'.cell? ⟨b1, 0, none⟩ = some (.bool nk) ∧ w'.cell? ⟨b1, 1, none⟩ = some (.slice ak lk ck)) 9 (by kernel_rfl) ?_; obtain ⟨D1, hD⟩ : ∃ D1, w1.drew = D1 := ⟨_, rfl⟩
 have GB : Hid (Below w1.heap.size w1 D1) := by unfold Hid; rw [← hD]; exact (Below.refl _ _).drew
 rw [hD]; clear hD; refine zCA [(0, (.pointer (some ⟨b2, 0, none⟩))), (1, (.int .i64 (r : Int))), (2, (.pointer (some ⟨b2, 1, none⟩))), (3, (.int .i64 (c : Int))), (4, (.agg #[.bool nk, .slice ak lk ck])), (5, (.pointer (some ⟨b2, 2, none⟩))), (6, (.slice aa la ca))] 7 ?_ (KB.out _ GB.out) ?_
 ·simp only [zMA, gA9, g09, g19, Act.put, sI9, s09, s19]; (repeat' (first | exact trivial | refine And.intro (Or.inl ⟨by rfl, ?_⟩) ?_)) <;> (intro w hSw; (try dsimp only at hSw); go_simp)
 simp only [actV, gA9, g09, g19, Act.put, sI9, s09, s19]; refine zBA (i := 7) (o := ⟨some 20, .call { callee := .value (.func 41), args := #[.tmp 17, .tmp 19], argTypes := #[29, 22] }, 22, "ring.go:23", #[⟨4, .data⟩, ⟨6, .data⟩], none⟩) (by kernel_rfl) rfl (fun K hK => ?_); go_simp; go_at_call 41; refine (scaled_any (ZK.out.now GB.out) (zKG (MA.out.now GB.out)) HK.out).mono ?_; rintro e w2 ⟨u, psu, rfl, hpt, hzm, b⟩; have lz2 := (show Below _ _ _ from b).size; replace GB := hid (zAA GB.out b); obtain ⟨au, cu, rfl, hcu, hnu, -, -⟩ := hpt.1.form; have hpl : psu.length = la := by rw [hzm.1, zIB, HZL.out, HLA.out]
 rw [hpl]; have MM : Hid (Mc w2 (matv r c (.slice au la cu)) r c (zJB z zs) (k + l)) := by
  have h := hpt.1; rw [hpl] at h; exact ⟨_, psu, rfl, h, hzm.zcs, by rw [zIB]; exact HZL.out, hr, hc⟩
 clear hpt hzm hcu hnu hpl; clear b; refine hK.out _ _ (fun _ => KB.out _ GB.out) ?_; clear hK; refine zCA [(8, (.agg #[.int .i64 (r : Int), .int .i64 (c : Int), .slice au la cu]))] 1 ?_ (KB.out _ GB.out) ?_
 ·simp only [zMA, gA9, g09, g19, Act.put, sI9, s09, s19]; (repeat' (first | exact trivial | refine And.intro (Or.inl ⟨by rfl, ?_⟩) ?_)) <;> (intro w hSw; (try dsimp only at hSw); go_simp)
 simp only [actV, gA9, g09, g19, Act.put, sI9, s09, s19]; refine zBA (i := 9) (o := ⟨none, .store 24 (.tmp 4) (.tmp 21), 0, "ring.go:23", #[⟨8, .data⟩, ⟨7, .chain⟩, ⟨0, .phase⟩, ⟨1, .phase⟩, ⟨2, .phase⟩, ⟨3, .phase⟩, ⟨4, .phase⟩, ⟨5, .phase⟩, ⟨6, .phase⟩, ⟨7, .phase⟩, ⟨8, .phase⟩], none⟩) (by kernel_rfl) rfl (fun K hK => ?_); have PR2 := hid (PR.out.step GB.out); have e0 := PR2.out.at (i := 0) rfl; have e1 := PR2.out.at (i := 1) rfl; have e2 := PR2.out.at (i := 2) rfl; have f0 := PR2.out.fz 0; have f1 := PR2.out.fz 1; have f2 := PR2.out.fz 2; go_simp; clear e0 e1 e2 f0 f1 f2; obtain ⟨V3, hW⟩ : ∃ V3, (put3 w2 b3 (.int .i64 (r : Int)) (.int .i64 (c : Int)) (.slice au la cu)) = V3 := ⟨_, rfl⟩
 have FIN : Hid (zhB w r c (zJB z zs) (k + l) (.returned (.tuple #[.agg #[.int .i64 (r : Int), .int .i64 (c : Int), .slice au la cu], .int .i64 0])) V3) := by
  unfold Hid; rw [← hW]; exact ⟨_, rfl, MM.out.wk PR2.out _ _ _, zOA (zAA G.out GB.out) HB.out.1 _ _ _⟩
 have PF : Hid (Cel V3 b3 24 [.int .i64 (r : Int), .int .i64 (c : Int), .slice au la cu]) := by unfold Hid; rw [← hW]; exact PR2.out.put3 _ _ _
 replace hW : ((w2.setCell ⟨b3, 0, none⟩ (.int .i64 (r : Int))).setCell ⟨b3, 1, none⟩ (.int .i64 (c : Int))).setCell ⟨b3, 2, none⟩ (.slice au la cu) = V3 := hW; rw [hW]; clear hW; refine hK.out _ _ (fun h => absurd h (by decide)) ?_; clear hK
 try simp only [Act.put]
 refine zBA (i := 10) (o := ⟨some 5, .assign (.const (.int .i64 0)), 30, "ring.go:23", #[⟨9, .chain⟩, ⟨0, .phase⟩, ⟨1, .phase⟩, ⟨2, .phase⟩, ⟨3, .phase⟩, ⟨4, .phase⟩, ⟨5, .phase⟩, ⟨6, .phase⟩, ⟨7, .phase⟩, ⟨8, .phase⟩, ⟨9, .phase⟩], none⟩) (by kernel_rfl) rfl (fun K hK => ?_); go_simp; refine hK.out _ _ (fun h => absurd h (by decide)) ?_; clear hK
 try simp only [Act.put]
 refine zDA (by kernel_rfl) ?_ _; clear GB KB MM PR2; go_wp2; exact bodyPost_ret (zGC Tryz.results12 PF.out _ (by rfl) (by rfl)) rfl FIN.out
end Go.Proofs.YtakkmpkkoecnhaaGreat
namespace Go.Proofs.YtakkmpkkoecnhaaGreat
def gcdL (L : List Int) : Int := L.foldl (fun g n => (Int.gcd g n : Int)) 0
theorem gcdL_append (L : List Int) (n : Int) : gcdL (L ++ [n]) = (Int.gcd (gcdL L) n : Int) := by simp [gcdL, List.foldl_append]
theorem gcdL_take {L : List Int} {i : Nat} (h : i < L.length) : gcdL (L.take (i + 1)) = (Int.gcd (gcdL (L.take i)) L[i] : Int) := by rw [List.take_succ_eq_append_getElem h, gcdL_append]
theorem zAF (d : Int) (L : List Int) : d ∣ gcdL L ↔ ∀ n ∈ L, d ∣ n := by
 have h : ∀ (L : List Int) (g : Int), d ∣ L.foldl (fun g n => (Int.gcd g n : Int)) g ↔ d ∣ g ∧ ∀ n ∈ L, d ∣ n := by
  intro L
  induction L with
  | nil => intro g; simp
  | cons a t ih =>
   intro g; rw [List.foldl_cons, ih]; have e : d ∣ (Int.gcd g a : Int) ↔ d ∣ g ∧ d ∣ a := ⟨fun q => ⟨Int.dvd_trans q (Int.gcd_dvd_left ..), Int.dvd_trans q (Int.gcd_dvd_right ..)⟩, fun q => Int.dvd_coe_gcd q.1 q.2⟩
   rw [e]
   constructor
   ·rintro ⟨⟨h1, h2⟩, h3⟩
    exact ⟨h1, fun n hn => by rcases List.mem_cons.1 hn with rfl | hn; exact h2; exact h3 n hn⟩
   ·rintro ⟨h1, h2⟩
    exact ⟨⟨h1, h2 a (by simp)⟩, fun n hn => h2 n (by simp [hn])⟩
 unfold gcdL; rw [h]; exact ⟨fun q => q.2, fun q => ⟨Int.dvd_zero d, q⟩⟩
theorem zjB : ∀ (m : Nat) (f : Nat → Int), sumN m f = su m f
 | 0, f => rfl
 | m + 1, f => by
  have := zjB m f; rw [zsD, this]
  rfl
theorem scale_at14 {z : Int} {zs : List Int} {t : Nat} (h : t < zs.length) : (zJB z zs).getD t 0 = z * zs.getD t 0 := by simp [zJB, h]
theorem zGG {n i j : Nat} {d : Int} (hi : i < n) (hj : j < n) : (zJB d (ziB n n)).getD (i * n + j) 0 = if i = j then d else 0 := by
 rw [scale_at14 (by rw [zrA]; exact znD hi hj), unit_at hi hj]
 by_cases q : i = j
 ·rw [if_pos q, if_pos q.symm]; omega
 ·rw [if_neg q, if_neg (fun e => q e.symm)]; omega
section
variable {n : Nat} {zs : List Int}
theorem aj_left (hl : zs.length = n * n) : zeC n n n zs (zF n n (adz n (en n zs))) = zJB (det n (en n zs)) (ziB n n) := by
 refine zwE (r := n) (c := n) zLB (by rw [zIB, zrA]) fun i j hi hj => ?_
 rw [zxD hl hi hj, zGG hi hj, zjB, ← zUG (en n zs) hi hj]; exact zKA fun k hk => by rw [zTE hk hj]; rfl
theorem aj_right (hl : zs.length = n * n) : zeC n n n (zF n n (adz n (en n zs))) zs = zJB (det n (en n zs)) (ziB n n) := by
 refine zwE (r := n) (c := n) zLB (by rw [zIB, zrA]) fun i j hi hj => ?_
 rw [zxD (zEB _ _ _) hi hj, zGG hi hj, zjB, ← ztE (en n zs) hi hj]; exact zKA fun k hk => by rw [zTE hi hk]; rfl
theorem aj_both {xs ys : List Int} (hx : xs.length = n * n) : zF n n (adz n (en n (zeC n n n xs ys))) = zeC n n n (zF n n (adz n (en n ys))) (zF n n (adz n (en n xs))) := by
 refine zwE (r := n) (c := n) (zEB _ _ _) zLB fun i j hi hj => ?_
 rw [zxD (zEB _ _ _) hi hj, zTE hi hj, zjB, adz_congr (B := muz n (en n xs) (en n ys)) fun a b ha hb => ?_, adz_both _ _ hi hj]
 ·exact zKA fun k hk => by rw [zTE hi hk, zTE hk hj]
 ·show (zeC n n n xs ys).getD (a * n + b) 0 = su n _
  rw [zxD hx ha hb, zjB]
  rfl
theorem iv_left {N : Nat → Nat → Int} {g d : Int} (hl : zs.length = n * n) (hg : g ≠ 0) (hN : ∀ i j, i < n → j < n → adz n (en n zs) i j = g * N i j) (hd : det n (en n zs) = g * d) : zeC n n n zs (zF n n N) = zJB d (ziB n n) := by
 refine zwE (r := n) (c := n) zLB (by rw [zIB, zrA]) fun i j hi hj => ?_
 rw [zxD hl hi hj, zGG hi hj, zjB, ← adz_part hg hi hj (fun k hk => hN k j hk hj) hd]; exact zKA fun k hk => by rw [zTE hk hj]; rfl
end
def shG (n : Nat) (A : Nat → Nat → Int) : Int := (Int.gcd (det n A) (gcdL (zF n n (adz n A))) : Int)
def shI (n : Nat) (A : Nat → Nat → Int) : Int := if det n A < 0 then - shG n A else shG n A
def ivN (n : Nat) (A : Nat → Nat → Int) (i j : Nat) : Int := (adz n A i j).tdiv (shI n A)
def ivD (n : Nat) (A : Nat → Nat → Int) : Int := (det n A).tdiv (shI n A)
section
variable {n : Nat} {A : Nat → Nat → Int}
theorem zFG : shG n A ∣ det n A ∧ ∀ i j, i < n → j < n → shG n A ∣ adz n A i j := by
 refine ⟨Int.gcd_dvd_left .., fun i j hi hj => ?_⟩; have h : shG n A ∣ gcdL (zF n n (adz n A)) := Int.gcd_dvd_right ..; refine (zAF _ _).1 h _ ?_; have e := zTE (F := adz n A) hi hj; rw [← e, List.getD_eq_getElem?_getD, List.getElem?_eq_getElem (by rw [zEB]; exact znD hi hj)]; exact List.getElem_mem _
theorem ziH (hd : det n A ≠ 0) : 0 < shG n A := by
 have h0 : 0 ≤ shG n A := Int.natCast_nonneg _; rcases Int.lt_or_eq_of_le h0 with h | h
 ·exact h
 ·exact absurd (Int.zero_dvd.1 (by rw [h]; exact zFG.1)) hd
theorem zgH (hd : det n A ≠ 0) : shI n A ≠ 0 := by
 have := ziH hd; unfold shI
 split <;> omega
theorem zhH {x : Int} (h : shG n A ∣ x) : shI n A ∣ x := by
 unfold shI
 split
 ·exact (Int.neg_dvd).2 h
 ·exact h
theorem zEG {i j : Nat} (hi : i < n) (hj : j < n) : adz n A i j = shI n A * ivN n A i j := (Int.mul_tdiv_cancel' (zhH (zFG.2 i j hi hj))).symm
theorem zoE : det n A = shI n A * ivD n A := (Int.mul_tdiv_cancel' (zhH zFG.1)).symm
theorem ivD_pos (hd : det n A ≠ 0) : 0 < ivD n A := by
 have e := zoE (n := n) (A := A); have hg := ziH hd
 by_cases q : det n A < 0
 ·have hs : shI n A < 0 := by unfold shI; rw [if_pos q]; omega
  rcases Int.lt_trichotomy (ivD n A) 0 with h | h | h
  ·have := Int.mul_pos_of_neg_of_neg hs h; omega
  ·rw [h] at e; omega
  ·exact h
 ·have hs : 0 < shI n A := by unfold shI; rw [if_neg q]; exact hg
  rcases Int.lt_trichotomy (ivD n A) 0 with h | h | h
  ·have := Int.mul_neg_of_pos_of_neg hs h; omega
  ·rw [h] at e; omega
  ·exact h
theorem ivG_one (hd : det n A ≠ 0) : Int.gcd (ivD n A) (gcdL (zF n n (ivN n A))) = 1 := by
 obtain ⟨c, hc⟩ : ∃ c : Nat, Int.gcd (ivD n A) (gcdL (zF n n (ivN n A))) = c := ⟨_, rfl⟩
 have h1 : (c : Int) ∣ ivD n A := by rw [← hc]; exact Int.gcd_dvd_left ..
 have h2 : (c : Int) ∣ gcdL (zF n n (ivN n A)) := by rw [← hc]; exact Int.gcd_dvd_right ..
 have h3 : shI n A * c ∣ det n A := by rw [zoE]; exact Int.mul_dvd_mul_left _ h1
 have h4 : shI n A * c ∣ gcdL (zF n n (adz n A)) := (zAF _ _).2 fun x hx => by
  unfold zF at hx; obtain ⟨t, ht, rfl⟩ := List.mem_map.1 hx; have ht' : t < n * n := by simpa using ht
  have hn : 0 < n := by
   rcases Nat.eq_zero_or_pos n with h | h
   ·subst h; simp at ht'
   ·exact h
  have q1 : t / n < n := Nat.div_lt_of_lt_mul ht'; have q2 : t % n < n := Nat.mod_lt _ hn; rw [zEG q1 q2]; refine Int.mul_dvd_mul_left _ ((zAF _ _).1 h2 _ ?_); exact List.mem_map.2 ⟨t, ht, rfl⟩
 have h5 : shI n A * c ∣ shG n A := Int.dvd_coe_gcd h3 h4; have h6 : shI n A * c ∣ shI n A * 1 := by
  rw [Int.mul_one]; unfold shI at h5 ⊢
  split
  ·rename_i q; rw [if_pos q] at h5; exact (Int.dvd_neg).2 h5
  ·rename_i q; rw [if_neg q] at h5; exact h5
 have h7 : (c : Int) ∣ 1 := Int.dvd_of_mul_dvd_mul_left (zgH hd) h6; rw [hc]; have := Int.le_of_dvd (by omega) h7; have h8 : c ≠ 0 := fun e => by subst e; simp at h7
 omega
end
open Go.RowKit
def GAH (w : World) (L : List Int) (k n gk : Nat) (s : Value) (wx : World) : Prop :=
 ∃ i : Nat, s = .int .i64 (i : Int) ∧ i ≤ n ∧ gk = n - i ∧ (∃ m a l c, Duo wx (w.heap.size + 1) (.bool m) (.slice a l c) ∧ Zm 0 wx (.agg #[.bool m, .slice a l c]) (gcdL (L.take i)) k) ∧ Duo wx w.heap.size (.bool false) (.slice none 0 0) ∧ Below w.heap.size w wx
theorem zm_zero9 (w : World) (k : Nat) : Zm 0 w (.agg #[.bool false, .slice none 0 0]) 0 k := ⟨false, [], none, 0, rfl, Mine.nil _ _, ⟨WF.nil, rfl⟩, fun _ => rfl, by simp [iv, val], Nat.zero_le _⟩
theorem zJI {w : World} {v : Value} {L : List Int} {k : Nat} (hv : Zl w v L k) (hk : k ≤ 68719476736) :
  Calls Tryz.prog 27 #[v] w fun e w' => ∃ r, e = .returned r ∧ Zm 0 w' r (gcdL L) k ∧ Below w.heap.size w w' := by
 have V0 := hid hv; obtain ⟨a0, c0, rfl, hc0, hn0, hf0⟩ := hv.form9; have GT : Hid (gcdL L = gcdL (L.take L.length)) := by unfold Hid; rw [List.take_length]
 obtain ⟨n, hn⟩ : ∃ n, L.length = n := ⟨_, rfl⟩
 rw [hn] at V0 hc0 hn0 GT ⊢; have HN := hid hn; have F0 := hid hf0; have HK := hid hk; clear hv hf0 hn hk; obtain ⟨W0, hW⟩ : ∃ W0, (w.alloc zbox).alloc zbox = W0 := ⟨_, rfl⟩
 obtain ⟨b0, sz0⟩ := ziA w zbox zbox; rw [hW] at b0 sz0; have p2 : Duo W0 w.heap.size (.bool false) (.slice none 0 0) := by rw [← hW]; exact (Duo.new w _ _).later (by simp) _
 have p3 : Duo W0 (w.heap.size + 1) (.bool false) (.slice none 0 0) := by
  rw [← hW]; have := Duo.new (w.alloc zbox) (.bool false) (.slice none 0 0)
  simpa using this
 have H0 : Hid (GAH w L k n n (.int .i64 0) W0) := ⟨0, rfl, Nat.zero_le _, by omega, ⟨_, _, _, _, p3, zm_zero9 _ _⟩, p2, b0⟩
 have EW := hid hW; clear b0 sz0 hW p2 p3; go_enter Tryz.func27, Tryz.ntmps27; go_wp2_with fail; rw [EW.out]; clear EW
 go_loopg [8] n (fun gk s8 wx => GAH w L k n gk s8 wx)
 case atStart => exact H0.out
 case round =>
  clear H0; obtain ⟨i, rfl, hin, hg, ⟨m, ag, lg, cg, hd, hz⟩, hr, hG⟩ := hrel; have PG := hid hd; have ZG := hid hz; have PR := hid hr; have G := hid hG; have HG := hid hg; clear hd hz hr hG hg
  by_cases hlt : i < n
  ·have hlt' : (i : Int) < (n : Int) := by omega
   obtain ⟨b1, o1, rfl⟩ := F0.out (fun e => by have := HN.out; rw [e] at this; simp at this; omega); obtain ⟨nf, xf, adf, qf, k0, k1, zf⟩ := (V0.out.now G.out).at9 (i := i) (by rw [HN.out]; exact hlt); obtain ⟨V1, hV⟩ : ∃ V1, wr.alloc (duo (.bool nf) (.slice adf xf.length qf)) = V1 := ⟨_, rfl⟩
   obtain ⟨b, sz1⟩ := alo1 wr (duo (.bool nf) (.slice adf xf.length qf)); rw [hV] at b sz1; have PN : Hid (Duo V1 wr.heap.size (.bool nf) (.slice adf xf.length qf)) := by unfold Hid; rw [← hV]; exact Duo.new wr _ _
   have HS := hid (zOG (ZG.out.now b).zi (zf.now b) HK.out); have EG : Hid ((Int.gcd (gcdL (L.take i)) (L[i]'(by rw [HN.out]; exact hlt)) : Int) = gcdL (L.take (i + 1))) := (gcdL_take (by rw [HN.out]; exact hlt)).symm; rw [EG.out] at HS; have PG1 := hid (PG.out.step b); have PR1 := hid (PR.out.step b); have G1 := hid (zAA G.out b); have n0 := PN.out.c0; have n1 := PN.out.c1; have g0 := PG1.out.c0; have g1 := PG1.out.c1; rw [← hV] at n0 n1 g0 g1; have EV := hid hV; have hw := zQA (i := i) (by omega); clear zf b sz1 hV PN G EG PG PR ZG; go_wp2_with fail; rw [EV.out]; refine HS.out.mono ?_; rintro e w1 ⟨r, rfl, m1, b⟩; have PG2 := hid (PG1.out.step b); have PR2 := hid (PR1.out.step b); have G2 := hid (zAA G1.out b); have M1 := hid (m1.mono (Nat.zero_le _)); obtain ⟨nr, xr, ar, cr, rfl⟩ := m1.parts; have e0 := PG2.out.c0; have e1 := PG2.out.c1; have e2 := PG2.out.fz 0; have e3 := PG2.out.fz 1; have HN1 : Hid (GAH w L k n (n - (i + 1)) (.int .i64 ((i + 1 : Nat) : Int)) ((w1.setCell ⟨w.heap.size + 1, 0, none⟩ (.bool nr)).setCell ⟨w.heap.size + 1, 1, none⟩ (.slice ar xr.length cr))) :=
    ⟨i + 1, rfl, by omega, rfl, ⟨_, _, _, _, PG2.out.set _ _, M1.out.box PG2.out _ _⟩, PR2.out.box (by omega) _ _, bset (bset G2.out (by omega)) (by omega)⟩
   have HMM : Hid (n - (i + 1) < gk) := by unfold Hid; rw [HG.out]; omega
   clear HS HG m1 b k0 k1 n0 n1 g0 g1 EV PG1 PR1 G1 PG2 PR2 G2 M1; go_wp2_with fail; go_roundg (n - (i + 1))
   case rel => exact HN1.out
   case measure => exact HMM.out
  ·have hlt' : ¬ (i : Int) < (n : Int) := by omega
   obtain rfl : i = n := by omega
   rw [← GT.out] at ZG; have g0 := PG.out.c0; have g1 := PG.out.c1; have r0 := PR.out.c0; have r1 := PR.out.c1; have f0 := PR.out.fz 0; have f1 := PR.out.fz 1; have FIN : Hid (∃ r, Ending.returned (.agg #[.bool m, .slice ag lg cg]) = .returned r ∧ Zm 0 ((wr.setCell ⟨w.heap.size, 0, none⟩ (.bool m)).setCell ⟨w.heap.size, 1, none⟩ (.slice ag lg cg)) r (gcdL L) k ∧ Below w.heap.size w ((wr.setCell ⟨w.heap.size, 0, none⟩ (.bool m)).setCell ⟨w.heap.size, 1, none⟩ (.slice ag lg cg))) := ⟨_, rfl, ZG.out.box PR.out _ _, bset (bset G.out (Nat.le_refl _)) (Nat.le_refl _)⟩
   clear HG ZG G; go_wp2; exact bodyPost_ret (zoA Tryz.results27 (PR.out.set _ _) _ (by rfl)) rfl FIN.out
end Go.Proofs.YtakkmpkkoecnhaaGreat
