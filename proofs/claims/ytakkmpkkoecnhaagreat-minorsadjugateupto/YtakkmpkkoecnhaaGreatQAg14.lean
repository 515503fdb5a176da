import Derived.Test.YtakkmpkkoecnhaaGreatQAj14ToCn14
set_option maxRecDepth 100000
set_option maxHeartbeats 6400000
set_option linter.unusedVariables false
set_option linter.unusedSimpArgs false
namespace Go.Proofs.YtakkmpkkoecnhaaGreat
open Go.RowKit
def AgO (W2 : World) (gz n : Nat) (A : Nat → Nat → Int) (KW gk : Nat) (s : Value) (wx : World) : Prop :=
 ∃ i : Nat, s = .int .i64 (i : Int) ∧ i ≤ n ∧ gk = n - i ∧ AZ wx gz (zF n n (agF A n i 0)) KW ∧ zPA (· = gz) W2 wx
def AgI (W2 : World) (gz n : Nat) (A : Nat → Nat → Int) (KW i gk : Nat) (s : Value) (wx : World) : Prop :=
 ∃ j : Nat, s = .int .i64 (j : Int) ∧ j ≤ n ∧ gk = n - j ∧ AZ wx gz (zF n n (agF A n i j)) KW ∧ zPA (· = gz) W2 wx
def zwJ (w : World) (A : Nat → Nat → Int) (n KW : Nat) (e : Ending) (w' : World) : Prop :=
 ∃ gz, e = .returned (matv n n (.slice (some ⟨gz, 0, none⟩) (n * n) (n * n))) ∧ w.heap.size ≤ gz ∧ AZ w' gz (zF n n (adz n A)) KW ∧ Below w.heap.size w w'
theorem zQE {B g : Nat} {w W2 wx : World} (h : Below B w W2) (hB : B ≤ w.heap.size) (hg : B ≤ g) (t : zPA (· = g) W2 wx) : Below B w wx :=
 ⟨by rw [t.os]; exact h.os, by rw [t.tape]; exact h.tape, by rw [t.output]; exact h.output, Nat.le_trans h.size t.size, fun k hk => (t.block k (by have := h.size; omega) (by omega)).trans (h.block k hk)⟩
theorem zXD {w : World} {va : Value} {n kk : Nat} {zs : List Int} (ha : Mx w va n n zs kk) (hkk : 64 * kk + 7 ≤ 4000000000) :
  Calls Tryz.prog 38 #[va] w (zwJ w (en n zs) n (64 * kk + 7)) := by
 have M0 := ha; obtain ⟨aa, ca, rfl, hm64, -⟩ := ha.form; obtain ⟨nn, hnn⟩ : ∃ nn, n * n = nn := ⟨_, rfl⟩
 have hnn4 : nn ≤ 4096 := by rw [← hnn]; exact Nat.mul_le_mul hm64 hm64
 rw [hnn] at M0 ⊢; have ENN := hid hnn; obtain ⟨W0, hW⟩ : ∃ W0, (w.alloc (matO n n (.slice aa nn ca))).alloc mbox = W0 := ⟨_, rfl⟩
 obtain ⟨b0, sz0⟩ := ziA w (matO n n (.slice aa nn ca)) mbox; rw [hW] at b0 sz0; have PA : Hid (Cel W0 w.heap.size 24 (matc n n (.slice aa nn ca))) := by
  unfold Hid; rw [← hW]; exact (Cel.new w 24 (matc n n (.slice aa nn ca))).step ((Below.refl _ _).alloc (Nat.le_refl _) _)
 have PR : Hid (Cel W0 (w.heap.size + 1) 24 [.int .i64 0, .int .i64 0, .slice none 0 0]) := by
  unfold Hid; rw [← hW]; have := Cel.new (w.alloc (matO n n (.slice aa nn ca))) 24 [.int .i64 0, .int .i64 0, .slice none 0 0]
  simpa using this
 have G := hid b0; have SZ := hid sz0; have HC := hid (compound_adj (M0.now b0) hkk); obtain ⟨KW, hKW⟩ : ∃ KW, 64 * kk + 7 = KW := ⟨_, rfl⟩
 rw [hKW] at HC hkk ⊢; have hw39 : IntKind.i64.wrap ((n : Int) - 1) = (n : Int) - 1 := by rw [zVA] <;> omega
 have x0 := PA.out.at (i := 0) rfl; have x1 := PA.out.at (i := 1) rfl; have x2 := PA.out.at (i := 2) rfl; rw [← hW] at x0 x1 x2; have EW := hid hW; obtain ⟨A, hA⟩ : ∃ A, en n zs = A := ⟨_, rfl⟩
 rw [hA] at HC ⊢; clear ha M0 b0 hW hnn hKW hA sz0; go_enter Tryz.func38, Tryz.ntmps38; go_wp2_with fail; rw [EW.out]; clear EW x0 x1 x2; refine HC.out.mono ?_; rintro e w1 ⟨v, ps, rfl, hop, hzm, b⟩; obtain ⟨av, cA, rfl, hcA, hav⟩ := hop.form14 (n := nn) (by rw [hzm.1, zEB, ENN.out]); obtain ⟨V1, hV⟩ : ∃ V1, w1.alloc (matO n n (.slice av nn cA)) = V1 := ⟨_, rfl⟩
 obtain ⟨b1, sz1⟩ := alo1 w1 (matO n n (.slice av nn cA)); rw [hV] at b1 sz1; have PL : Hid (Cel V1 w1.heap.size 24 (matc n n (.slice av nn cA))) := by unfold Hid; rw [← hV]; exact Cel.new w1 _ _
 replace PR := hid ((PR.out.step b).step b1); replace G := hid (zAA (zAA G.out b) b1); have HAV := hid hav; have OP := hid (zBB hop fun b_ _ hlt => b1.block b_ hlt); have ZM := hid (hzm.now b1); have L1 : Hid (w.heap.size + 1 < w1.heap.size ∧ w1.heap.size < V1.heap.size) := by unfold Hid; have := SZ.out; have := b.size; omega
 have HZ := hid (zbG (w := V1) hm64 hm64); rw [ENN.out] at HZ; have EV := hid hV; clear HC b b1 sz1 hV hop hzm hav PA SZ; go_wp2_with fail; rw [EV.out]; clear EV; refine HZ.out.mono ?_; rintro e w2 ⟨gz, rfl, hgz, harr, b⟩; obtain ⟨W2, hV⟩ : ∃ W2, w2.alloc (matO n n (.slice (some ⟨gz, 0, none⟩) nn nn)) = W2 := ⟨_, rfl⟩
 obtain ⟨b1, sz1⟩ := alo1 w2 (matO n n (.slice (some ⟨gz, 0, none⟩) nn nn)); rw [hV] at b1 sz1; have PJ : Hid (Cel W2 w2.heap.size 24 (matc n n (.slice (some ⟨gz, 0, none⟩) nn nn))) := by unfold Hid; rw [← hV]; exact Cel.new w2 _ _
 replace PR := hid ((PR.out.step b).step b1); replace PL := hid ((PL.out.step b).step b1); replace G := hid (zAA (zAA G.out b) b1); replace OP := hid (zBB OP.out fun b_ _ hlt => (zAA b b1).block b_ hlt); replace ZM := hid ((ZM.out.now b).now b1); have hzg : gz < w2.heap.size := harr.1.blk; have AR : Hid (AZ W2 gz (zF n n (agF A n 0 0)) KW) := by
  unfold Hid; have h := harr.step b1; rw [← ENN.out] at h; exact AZ.zero h A
 have HGZ : Hid (w.heap.size ≤ gz) := by unfold Hid; have := L1.out; omega
 obtain ⟨br, hbr⟩ : ∃ br, w.heap.size + 1 = br := ⟨_, rfl⟩
 obtain ⟨b4, hb4⟩ : ∃ b4, w1.heap.size = b4 := ⟨_, rfl⟩
 obtain ⟨b5, hb5⟩ : ∃ b5, w2.heap.size = b5 := ⟨_, rfl⟩
 have HNE : Hid (br ≠ gz ∧ b4 ≠ gz ∧ b5 ≠ gz ∧ ∀ g, g < b4 → g ≠ gz) := by unfold Hid; have := L1.out; refine ⟨by omega, by omega, by omega, fun g hg => by omega⟩
 have HBR : Hid (w.heap.size ≤ br) := by unfold Hid; omega
 have H0 : Hid (AgO W2 gz n A KW n (.int .i64 0) W2) := ⟨0, rfl, Nat.zero_le _, by omega, AR.out, zPA.refl _ _⟩
 rw [hbr] at PR ⊢; rw [hb4] at PL HAV ⊢; rw [hb5] at PJ; have HB5 := hid hb5; have EV := hid hV; clear HZ b b1 sz1 hV hgz hzg harr hb4 hb5 hbr L1; go_wp2_with fail; rw [EV.out, HB5.out]; clear EV HB5
 go_loopg [22] n (fun gk s22 wx => AgO W2 gz n A KW gk s22 wx)
 case atStart => exact H0.out
 case round =>
  clear H0; obtain ⟨i, rfl, hin, hgk, haz, htw⟩ := hrel; have AZ0 := hid haz; have TW := hid htw; have HG := hid hgk; clear haz htw hgk
  by_cases hlt : i < n
  ·have hlt' : (i : Int) < (n : Int) := by omega
   have hwi := zQA (i := i) (by omega); have HMM : Hid (n - (i + 1) < gk) := by unfold Hid; rw [HG.out]; omega
   have H1 : Hid (AgI W2 gz n A KW i n (.int .i64 0) wr) := ⟨0, rfl, Nat.zero_le _, by omega, AZ0.out, TW.out⟩
   have hw33 : IntKind.i64.wrap ((i : Int) * (n : Int)) = ((i * n : Nat) : Int) := zaB (i := i) (c := n) (by omega) (by omega); obtain ⟨i_n, hi_n⟩ : ∃ i_n, i * n = i_n := ⟨_, rfl⟩
   rw [hi_n] at hw33; have hin4 : i_n + n ≤ nn := by
    rw [← hi_n, ← ENN.out]; have h1 : (i + 1) * n ≤ n * n := Nat.mul_le_mul_right n hlt; have h2 : (i + 1) * n = i * n + n := Nat.succ_mul i n; omega
   have EIN := hid hi_n; obtain ⟨gA, hgA, -, hgA4⟩ := HAV.out (by omega); subst hgA; obtain ⟨n1, hn1⟩ : ∃ n1, n = n1 + 1 := ⟨n - 1, by omega⟩
   have hw39b : IntKind.i64.wrap ((n : Int) - 1) = (n1 : Int) := by rw [hw39]; omega
   have EN1 := hid hn1; clear HG AZ0 TW hi_n hw39 hn1; go_wp2_with fail
   go_loopg [26] n (fun gk s26 wx => AgI W2 gz n A KW i gk s26 wx)
   case atStart => exact H1.out
   case round =>
    clear H1; obtain ⟨j, rfl, hjn, hgk, haz, htw⟩ := hrel; have AZ0 := hid haz; have TW := hid htw; have HG := hid hgk; clear haz htw hgk
    by_cases hlt2 : j < n
    ·have hlt2' : (j : Int) < (n : Int) := by omega
     have hwj := zQA (i := j) (by omega); have HM2 : Hid (n - (j + 1) < gk) := by unfold Hid; rw [HG.out]; omega
     have TY : Hid (Ty 29 W2 wr) := AR.out.touch TW.out; have hga_ : ∀ b_, (Value.slice (some ⟨gA, 0, none⟩) nn cA).ownBlock = some b_ → b_ < b4 := fun b_ hb_ => by
      have hb2 : gA = b_ := by simpa [Value.ownBlock] using hb_
      omega
     have OP1 := hid (zBB OP.out fun b_ hb_ hlt => TW.out.block b_ hlt (HNE.out.2.2.2 b_ (hga_ b_ hb_))); have ZM1 := hid (ZM.out.ty TY.out (by decide)); obtain ⟨jr, hjr⟩ : ∃ jr, n - 1 - j = jr := ⟨_, rfl⟩
     obtain ⟨ir, hir⟩ : ∃ ir, n - 1 - i = ir := ⟨_, rfl⟩
     have en1 := EN1.out; obtain ⟨nx, ax, lx_, cx, u0, u1, zx⟩ := OwnP.one14 OP1.out ZM1.out (r := jr) (c := ir) (by omega) (by omega); have hz2 : cpE A n n (n - 1) jr ir = ajE A n i j := by unfold ajE; rw [hjr, hir]
     rw [hz2] at zx; have ZX := hid zx; have hw43 : IntKind.i64.wrap ((jr : Int) * (n : Int)) = ((jr * n : Nat) : Int) := zaB (i := jr) (c := n) (by omega) (by omega); have hra : jr * n + ir < nn := by rw [← ENN.out]; exact znD (by omega) (by omega)
     obtain ⟨jn, hjn_⟩ : ∃ jn, jr * n = jn := ⟨_, rfl⟩
     rw [hjn_] at hw43 hra u0 u1; have hw35 : IntKind.i64.wrap ((i_n : Int) + (j : Int)) = ((i_n + j : Nat) : Int) := by rw [zVA] <;> omega
     obtain ⟨ij, hij⟩ : ∃ ij, i_n + j = ij := ⟨_, rfl⟩
     rw [hij] at hw35; have EIJ := hid hij; have hij4 : ij < nn := by omega
     have hw41 : IntKind.i64.wrap ((n1 : Int) - (j : Int)) = (jr : Int) := by rw [zVA] <;> omega
     have hw45 : IntKind.i64.wrap ((jn : Int) + (n : Int)) = ((jn + n : Nat) : Int) := by rw [zVA] <;> omega
     obtain ⟨jm, hjm⟩ : ∃ jm, jn + n = jm := ⟨_, rfl⟩
     rw [hjm] at hw45; have hw46 : IntKind.i64.wrap ((jm : Int) - 1) = ((jm - 1 : Nat) : Int) := by rw [zVA] <;> omega
     obtain ⟨jo, hjo⟩ : ∃ jo, jm - 1 = jo := ⟨_, rfl⟩
     rw [hjo] at hw46; obtain ⟨ra, hra_⟩ : ∃ ra, jn + ir = ra := ⟨_, rfl⟩
     rw [hra_] at hra u0 u1; have hw48 : IntKind.i64.wrap ((jo : Int) - (i : Int)) = (ra : Int) := by rw [zVA] <;> omega
     have hraI : (ra : Int) < (nn : Int) := by omega
     have hijI : (ij : Int) < (nn : Int) := by omega
     have a2 := zlA TW.out (PJ.out.at (i := 2) rfl) HNE.out.2.2.1; have l2 := zlA TW.out (PL.out.at (i := 2) rfl) HNE.out.2.1; have PJ1 : Hid (∀ wx, zPA (· = gz) W2 wx → wx.cell? ⟨b5, 2, none⟩ = some (.slice (some ⟨gz, 0, none⟩) nn nn)) := fun wx h => zlA h (PJ.out.at (i := 2) rfl) HNE.out.2.2.1
     have hws : IntKind.i64.wrap ((i : Int) + (j : Int)) = ((i + j : Nat) : Int) := by rw [zVA] <;> omega
     clear hga_ HG zx OP1 ZM1 hz2 en1 hjr hir hjn_ hij hjm hjo hra_; go_wp2_with fail; have KB : Hid (∀ w', Below wr.heap.size wr w' → w'.cell? ⟨b5, 2, none⟩ = some (.slice (some ⟨gz, 0, none⟩) nn nn) ∧ w'.cell? ⟨b4, 2, none⟩ = some (.slice (some ⟨gA, 0, none⟩) nn cA) ∧ w'.cell? ⟨gA, ra * 2, none⟩ = some (.bool nx) ∧ w'.cell? ⟨gA, ra * 2 + 1, none⟩ = some (.slice ax lx_ cx)) := fun w' h => ⟨cnow h a2, cnow h l2, cnow h u0, cnow h u1⟩
     refine zEA (fun w' => w'.cell? ⟨b5, 2, none⟩ = some (.slice (some ⟨gz, 0, none⟩) nn nn) ∧ w'.cell? ⟨b4, 2, none⟩ = some (.slice (some ⟨gA, 0, none⟩) nn cA) ∧ w'.cell? ⟨gA, ra * 2, none⟩ = some (.bool nx) ∧ w'.cell? ⟨gA, ra * 2 + 1, none⟩ = some (.slice ax lx_ cx)) 23 (by kernel_rfl) ?_; obtain ⟨D1, hD⟩ : ∃ D1, wr.drew = D1 := ⟨_, rfl⟩
     have GB : Hid (Below wr.heap.size wr D1) := by unfold Hid; rw [← hD]; exact (Below.refl _ _).drew
     rw [hD]; clear hD; refine zCA [(0, (.pointer (some ⟨b5, 2, none⟩))), (1, (.slice (some ⟨gz, 0, none⟩) nn nn)), (2, (.int .i64 (i : Int))), (3, (.int .i64 (n : Int))), (4, (.int .i64 (i_n : Int))), (5, (.int .i64 (j : Int))), (6, (.int .i64 (ij : Int))), (7, (.pointer (some ⟨b4, 2, none⟩))), (8, (.slice (some ⟨gA, 0, none⟩) nn cA)), (9, (.int .i64 (n : Int))), (10, (.int .i64 (n1 : Int))), (11, (.int .i64 (j : Int))), (12, (.int .i64 (jr : Int))), (13, (.int .i64 (n : Int))), (14, (.int .i64 (jn : Int))), (15, (.int .i64 (n : Int))), (16, (.int .i64 (jm : Int))), (17, (.int .i64 (jo : Int))), (18, (.int .i64 (i : Int))), (19, (.int .i64 (ra : Int))), (20, (.pointer (some ⟨gA, ra * 2, none⟩))), (21, (.agg #[.bool nx, .slice ax lx_ cx])), (22, (.pointer (some ⟨gz, ij * 2, none⟩)))] 23 ?_ (KB.out _ GB.out) ?_
     ·simp only [zMA, gA9, g09, g19, Act.put, sI9, s09, s19]; (repeat' (first | exact trivial | refine And.intro (Or.inl ⟨by rfl, ?_⟩) ?_)) <;> (intro w hSw; (try dsimp only at hSw); go_simp)
     simp only [actV, gA9, g09, g19, Act.put, sI9, s09, s19]; refine zBA (i := 23) (o := ⟨none, .store 29 (.tmp 51) (.tmp 50), 0, "minors.go:143", #[⟨22, .data⟩, ⟨21, .data⟩, ⟨0, .phase⟩, ⟨1, .phase⟩, ⟨2, .phase⟩, ⟨3, .phase⟩, ⟨4, .phase⟩, ⟨5, .phase⟩, ⟨6, .phase⟩, ⟨7, .phase⟩, ⟨8, .phase⟩, ⟨9, .phase⟩, ⟨10, .phase⟩, ⟨11, .phase⟩, ⟨12, .phase⟩, ⟨13, .phase⟩, ⟨14, .phase⟩, ⟨15, .phase⟩, ⟨16, .phase⟩, ⟨17, .phase⟩, ⟨18, .phase⟩, ⟨19, .phase⟩, ⟨20, .phase⟩, ⟨21, .phase⟩], none⟩) (by kernel_rfl) rfl (fun K hK => ?_); have AZ1 := hid (AZ0.out.step GB.out); have ZX1 := hid (ZX.out.now GB.out); obtain ⟨_, _, _, _, f0, f1, f2, f3, -⟩ := AZ1.out.at hlt hlt2; rw [EIN.out, EIJ.out] at f0 f1 f2 f3; go_simp; clear f0 f1 f2 f3; obtain ⟨V2, hW⟩ : ∃ V2, ((D1.setCell ⟨gz, ij * 2, none⟩ (.bool nx)).setCell ⟨gz, ij * 2 + 1, none⟩ (.slice ax lx_ cx)) = V2 := ⟨_, rfl⟩
     have AZ2 : Hid (AZ V2 gz (zF n n (up2 (agF A n i j) i j (ajE A n i j))) KW) := by
      unfold Hid; have u1 := AZ1.out.put hlt hlt2 ZX1.out; rw [EIN.out, EIJ.out, hW] at u1; exact u1
     have TW2 : Hid (zPA (· = gz) W2 V2) := by
      unfold Hid; rw [← hW]; exact ((TW.out.trans (.ofBelow GB.out)).setCell (.inr rfl) _ _).setCell (.inr rfl) _ _
     have ZX2 : Hid (Zm 0 V2 (.agg #[.bool nx, .slice ax lx_ cx]) (ajE A n i j) KW) := by
      refine ZX1.out.ty (AZ1.out.touch ?_) (by decide); rw [← hW]; exact ((zPA.refl (· = gz) _).setCell (.inr rfl) _ _).setCell (.inr rfl) _ _
     have z0 : V2.cell? ⟨gz, ij * 2, none⟩ = some (.bool nx) ∧ V2.cell? ⟨gz, ij * 2 + 1, none⟩ = some (.slice ax lx_ cx) := by
      obtain ⟨ps9, q1, q2⟩ := AZ1.out; have hl9 : ij < ps9.length := by rw [q2.1, zEB, ENN.out]; exact hij4
      obtain ⟨n0, x9, a9, c9, e9, _⟩ := ZX1.out; have h9 := (q1.put hl9 (x := .bool nx) (y := .slice ax lx_ cx) ⟨_, _, _, _, rfl⟩).at (i := ij) (p := (.bool nx, .slice ax lx_ cx)) (by rw [List.getElem?_set_self hl9]); rw [hW] at h9; exact h9
     rw [hW]; clear hW; refine hK.out _ _ (fun h => absurd h (by decide)) ?_; clear hK
     try simp only [Act.put]
     refine zDA (by kernel_rfl) ?_ _; clear GB KB AZ1 AZ0 ZX1 TW TY ZX u0 u1 a2 l2 hw43 hw41 hw45 hw46 hw48
     by_cases hodd : (i + j) % 2 = 1
     ·have HAD : Hid (-ajE A n i j = adz n A i j) := by unfold Hid; rw [zQJ A hlt hlt2, if_pos hodd]
      have hm1 : ((i + j : Nat) : Int) % 2 = 1 := by omega
      have hm2 : ((i + j : Nat) : Int).tmod 2 = 1 := by rw [Int.tmod_eq_emod_of_nonneg (by omega)]; exact hm1
      obtain ⟨z0, z1⟩ := z0; have a2 := PJ1.out _ TW2.out; clear hodd; generalize (i + j : Nat) = sj at hws hm1 hm2; go_wp2_with fail; clear hm1 hm2 hws; have KB : Hid (∀ w', Below V2.heap.size V2 w' → w'.cell? ⟨b5, 2, none⟩ = some (.slice (some ⟨gz, 0, none⟩) nn nn) ∧ w'.cell? ⟨gz, ij * 2, none⟩ = some (.bool nx) ∧ w'.cell? ⟨gz, ij * 2 + 1, none⟩ = some (.slice ax lx_ cx)) := fun w' h => ⟨cnow h a2, cnow h z0, cnow h z1⟩
      refine zEA (fun w' => w'.cell? ⟨b5, 2, none⟩ = some (.slice (some ⟨gz, 0, none⟩) nn nn) ∧ w'.cell? ⟨gz, ij * 2, none⟩ = some (.bool nx) ∧ w'.cell? ⟨gz, ij * 2 + 1, none⟩ = some (.slice ax lx_ cx)) 18 (by kernel_rfl) ?_; obtain ⟨D61, hD⟩ : ∃ D61, V2.drew = D61 := ⟨_, rfl⟩
      have GB : Hid (Below V2.heap.size V2 D61) := by unfold Hid; rw [← hD]; exact (Below.refl _ _).drew
      rw [hD]; clear hD; refine zCA [(0, (.pointer (some ⟨b5, 2, none⟩))), (1, (.slice (some ⟨gz, 0, none⟩) nn nn)), (2, (.int .i64 (i : Int))), (3, (.int .i64 (n : Int))), (4, (.int .i64 (i_n : Int))), (5, (.int .i64 (j : Int))), (6, (.int .i64 (ij : Int))), (7, (.pointer (some ⟨b5, 2, none⟩))), (8, (.slice (some ⟨gz, 0, none⟩) nn nn)), (9, (.int .i64 (i : Int))), (10, (.int .i64 (n : Int))), (11, (.int .i64 (i_n : Int))), (12, (.int .i64 (j : Int))), (13, (.int .i64 (ij : Int))), (14, (.pointer (some ⟨gz, ij * 2, none⟩))), (15, (.agg #[.bool nx, .slice ax lx_ cx]))] 16 ?_ (KB.out _ GB.out) ?_
      ·simp only [zMA, gA9, g09, g19, Act.put, sI9, s09, s19]; (repeat' (first | exact trivial | refine And.intro (Or.inl ⟨by rfl, ?_⟩) ?_)) <;> (intro w hSw; (try dsimp only at hSw); go_simp)
      simp only [actV, gA9, g09, g19, Act.put, sI9, s09, s19]; refine zBA (i := 16) (o := ⟨some 73, .call { callee := .value (.func 61), args := #[.tmp 72], argTypes := #[29] }, 29, "minors.go:145", #[⟨15, .data⟩], none⟩) (by kernel_rfl) rfl (fun K hK => ?_); go_simp; go_at_call 61; refine (zxH (ZX2.out.now GB.out).zi).mono ?_; rintro e w62 ⟨rq, rfl, mq, b⟩; have lz62 := (show Below _ _ _ from b).size; replace GB := hid (zAA GB.out b); obtain ⟨nq, xq, aq, cq, rfl⟩ := mq.parts; have MQ := hid (mq.mono (Nat.zero_le _)); clear mq; clear b; refine hK.out _ _ (fun _ => KB.out _ GB.out) ?_; clear hK; refine zCA [(17, (.pointer (some ⟨gz, ij * 2, none⟩)))] 1 ?_ (KB.out _ GB.out) ?_
      ·simp only [zMA, gA9, g09, g19, Act.put, sI9, s09, s19]; (repeat' (first | exact trivial | refine And.intro (Or.inl ⟨by rfl, ?_⟩) ?_)) <;> (intro w hSw; (try dsimp only at hSw); go_simp)
      simp only [actV, gA9, g09, g19, Act.put, sI9, s09, s19]; refine zBA (i := 18) (o := ⟨none, .store 29 (.tmp 74) (.tmp 73), 0, "minors.go:145", #[⟨17, .data⟩, ⟨16, .data⟩, ⟨16, .chain⟩, ⟨0, .phase⟩, ⟨1, .phase⟩, ⟨2, .phase⟩, ⟨3, .phase⟩, ⟨4, .phase⟩, ⟨5, .phase⟩, ⟨6, .phase⟩, ⟨7, .phase⟩, ⟨8, .phase⟩, ⟨9, .phase⟩, ⟨10, .phase⟩, ⟨11, .phase⟩, ⟨12, .phase⟩, ⟨13, .phase⟩, ⟨14, .phase⟩, ⟨15, .phase⟩, ⟨16, .phase⟩], none⟩) (by kernel_rfl) rfl (fun K hK => ?_); have AZ3 := hid (AZ2.out.step GB.out); obtain ⟨_, _, _, _, f0, f1, f2, f3, -⟩ := AZ3.out.at hlt hlt2; rw [EIN.out, EIJ.out] at f0 f1 f2 f3; go_simp; clear f0 f1 f2 f3; obtain ⟨V63, hW⟩ : ∃ V63, ((w62.setCell ⟨gz, ij * 2, none⟩ (.bool nq)).setCell ⟨gz, ij * 2 + 1, none⟩ (.slice aq xq.length cq)) = V63 := ⟨_, rfl⟩
      have HN1 : Hid (AgI W2 gz n A KW i (n - (j + 1)) (.int .i64 ((j + 1 : Nat) : Int)) V63) := by
       unfold Hid; have u1 := AZ3.out.put hlt hlt2 MQ.out; rw [zuA fun r c _ _ => agF_put2 HAD.out, EIN.out, EIJ.out, hW] at u1; refine ⟨j + 1, rfl, by omega, rfl, u1, ?_⟩; rw [← hW]; exact ((TW2.out.trans (.ofBelow GB.out)).setCell (.inr rfl) _ _).setCell (.inr rfl) _ _
      rw [hW]; clear hW; refine hK.out _ _ (fun h => absurd h (by decide)) ?_; clear hK
      try simp only [Act.put]
      refine zDA (by kernel_rfl) ?_ _; clear GB KB AZ3 AZ2 ZX2 TW2 MQ z0 z1 a2; go_wp2_with fail; go_roundg (n - (j + 1))
      case rel => exact HN1.out
      case measure => exact HM2.out
     ·have HAD : Hid (ajE A n i j = adz n A i j) := by unfold Hid; rw [zQJ A hlt hlt2, if_neg hodd]
      have hm1 : ((i + j : Nat) : Int) % 2 = 0 := by omega
      have hm2 : ((i + j : Nat) : Int).tmod 2 = 0 := by rw [Int.tmod_eq_emod_of_nonneg (by omega)]; exact hm1
      have HN1 : Hid (AgI W2 gz n A KW i (n - (j + 1)) (.int .i64 ((j + 1 : Nat) : Int)) V2) := by
       unfold Hid; have u1 := AZ2.out; rw [zuA fun r c _ _ => zSI HAD.out] at u1; exact ⟨j + 1, rfl, by omega, rfl, u1, TW2.out⟩
      clear hodd z0 AZ2 TW2 ZX2; generalize (i + j : Nat) = sj at hws hm1 hm2; go_wp2_with fail; go_roundg (n - (j + 1))
      case rel => exact HN1.out
      case measure => exact HM2.out
    ·have hlt2' : ¬ (j : Int) < (n : Int) := by omega
     obtain rfl : j = n := by omega
     have HN1 : Hid (AgO W2 gz j A KW (j - (i + 1)) (.int .i64 ((i + 1 : Nat) : Int)) wr) := by
      unfold Hid; have u1 := AZ0.out; rw [zuA fun r c _ hc => agF_row hc] at u1; exact ⟨i + 1, rfl, by omega, rfl, u1, TW.out⟩
     clear HG AZ0 TW; go_wp2_with fail; go_roundg (j - (i + 1))
     case rel => exact HN1.out
     case measure => exact HMM.out
  ·have hlt' : ¬ (i : Int) < (n : Int) := by omega
   obtain rfl : i = n := by omega
   have y0 := zlA TW.out (PJ.out.at (i := 0) rfl) HNE.out.2.2.1; have y1 := zlA TW.out (PJ.out.at (i := 1) rfl) HNE.out.2.2.1; have y2 := zlA TW.out (PJ.out.at (i := 2) rfl) HNE.out.2.2.1; have PR1 : Hid (Cel wr br 24 [.int .i64 0, .int .i64 0, .slice none 0 0]) := (TW.out.block br PR.out.blk HNE.out.1).trans PR.out; have r0 := PR1.out.at (i := 0) rfl; have r1 := PR1.out.at (i := 1) rfl; have r2 := PR1.out.at (i := 2) rfl; have f0 := PR1.out.fz 0; have f1 := PR1.out.fz 1; have f2 := PR1.out.fz 2; have FIN : Hid (zwJ w A i KW (.returned (.agg #[.int .i64 (i : Int), .int .i64 (i : Int), .slice (some ⟨gz, 0, none⟩) nn nn])) (put3 wr br (.int .i64 (i : Int)) (.int .i64 (i : Int)) (.slice (some ⟨gz, 0, none⟩) nn nn))) := by
    refine ⟨gz, by rw [ENN.out], HGZ.out, ?_, zOA (zQE G.out (Nat.le_refl _) HGZ.out TW.out) HBR.out _ _ _⟩; have u1 := AZ0.out; rw [zuA fun r c hr _ => agF_end hr] at u1; exact u1.ty (PR1.out.ty3 _ _ _) (by decide) (by decide)
   have PF := hid (PR1.out.put3 (.int .i64 (i : Int)) (.int .i64 (i : Int)) (.slice (some ⟨gz, 0, none⟩) nn nn)); clear HG AZ0 TW PR1; go_wp2; exact bodyPost_ret (zLG Tryz.results38 PF.out _ (by rfl)) rfl FIN.out
end Go.Proofs.YtakkmpkkoecnhaaGreat
