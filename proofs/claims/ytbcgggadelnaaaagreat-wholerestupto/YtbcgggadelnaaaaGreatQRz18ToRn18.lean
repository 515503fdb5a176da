/-
 QRz18ToRn18: Rz18, Vm18, Sr18, Fn18, Rn18, joined.
-/
import Derived.Test.YtbcgggadelnaaaaGreatQRt18
import Derived.Test.YtbcgggadelnaaaaGreatQFo18ToFar
import Derived.Test.YtbcgggadelnaaaaGreatQVa16ToIx18
import Derived.Test.YtbcgggadelnaaaaGreatQSm18ToOh18
import Derived.Test.YtbcgggadelnaaaaGreatQLm6ToChkN9
import Derived.Test.YtbcgggadelnaaaaGreatQPv18ToRk18

set_option maxRecDepth 100000
set_option maxHeartbeats 6400000
set_option linter.unusedVariables false
set_option linter.unusedSimpArgs false
namespace Go.Proofs.YtbcgggadelnaaaaGreat
open Go.RowKit
theorem zeF {T k : Nat} (h : ((T : Nat) : Int) < pw k) : ∀ i,(((T + 1) ^ i : Nat) : Int) ≤ pw (k * i)
 | 0 => by rw [Nat.pow_zero,Nat.mul_zero];decide
 | i + 1 => by
  have ih := zeF h i;rw [Nat.pow_succ,show k * (i + 1) = k * i + k from rfl,zpA,Int.natCast_mul];exact Int.mul_le_mul ih (by omega) (by omega) (Int.le_of_lt (zcA _))
theorem pw_up18 {x y : Nat} (h : x ≤ y) : pw x ≤ pw y := by
 obtain ⟨d,rfl⟩ := Nat.exists_eq_add_of_le h;rw [zpA];have h1 := zcA x;have h2 := zcA d;have := Int.mul_le_mul_of_nonneg_left (show 1 ≤ pw d by omega) (show 0 ≤ pw x by omega);omega
theorem Zl.lt18 {w : World} {v : Value} {zs : List Int} {k : Nat} (h : Zl w v zs k) : ∀ j,((zs.getD j 0).natAbs : Int) < pw k := fun j => by
 have hp := zcA k;obtain ⟨a,c,h1,h2,h3,h4⟩ := h
 by_cases q : j < zs.length
 ·rcases h4 with e | ⟨b,off,e,e1,e2⟩
  ·rw [e] at q;simp at q
  ·obtain ⟨x,y,_,_,z⟩ := e2 j q
   rw [List.getD_eq_getElem?_getD,List.getElem?_eq_getElem q];exact z.lt
 ·rw [List.getD_eq_getElem?_getD,List.getElem?_eq_none (by omega)]
  simpa using hp
theorem zzE {Y T l k i : Nat} {z : Int} (hY : ((Y : Nat) : Int) < pw l) (hT : ((T : Nat) : Int) < pw k) (hi : i ≤ 64) (hz : z.natAbs ≤ Y * (T + 1) ^ i) : (z.natAbs : Int) < pw (l + 64 * k) := by
 have h1 := zeF hT i;have h2 : pw (k * i) ≤ pw (64 * k) := pw_up18 (by rw [Nat.mul_comm];exact Nat.mul_le_mul_right _ hi);have h3 : ((Y * (T + 1) ^ i : Nat) : Int) ≤ (Y : Int) * pw (64 * k) := by
  rw [Int.natCast_mul];exact Int.mul_le_mul_of_nonneg_left (by omega) (by omega)
 have h4 := Int.mul_lt_mul_of_pos_right hY (zcA (64 * k));rw [zpA];have h5 : (z.natAbs : Int) ≤ ((Y * (T + 1) ^ i : Nat) : Int) := by exact_mod_cast hz
 omega
theorem zlE {w : World} {v xv : Value} {m n k l r : Nat} {γ : Nat → Nat} {zs vs : List Int} (h : Mx w v m n zs k) (hE : Ec18 n m r id γ (en18 n zs)) (hR : Rd18 0 r id γ (en18 n zs)) (hx : Zl w xv vs l) (hxl : vs.length = n) (hk1 : 1 ≤ k) (hK : l + 64 * k ≤ 549755813888) :
  Calls Tryz.prog 16 #[v,xv] w (zcE w m n r (zqA γ (en18 n zs) fun j => vs.getD j 0) (zzA γ (en18 n zs) fun j => vs.getD j 0) (l + 64 * k)) := by
 obtain ⟨_,_,_,hm,hn⟩ := h.form;have hzl : zs.length = m * n := by obtain ⟨_,_,_,_,_,q,_⟩ := h;exact q
 have hrn : r ≤ 64 := by
  rcases Nat.eq_zero_or_pos r with q | q
  ·omega
  ·have := hE.rl (r - 1) (by omega);simp only [id] at this;omega
 have hX : ∀ i j,i < r → j < n → (en18 n zs i j).natAbs ≤ (pw k - 1).toNat := fun i j hi hj => by
  have hrm := hE.rl i hi;simp only [id] at hrm;have e := zIF hzl hrm hj;have hin : en18 n zs i j ∈ zs ∨ en18 n zs i j = 0 := by
   unfold en18;rw [List.getD_eq_getElem?_getD];cases q : zs[i * n + j]? with
   | none => exact .inr rfl
   | some x => exact .inl (List.mem_of_getElem? q)
  have hp := zcA k;rcases hin with q | q
  ·have := h.lt _ q;omega
  ·rw [q];simp
 have hV : ∀ j,j < n → ((fun j => vs.getD j 0) j : Int).natAbs ≤ (pw l - 1).toNat := fun j _ => by
  have := hx.lt18 j
  show (vs.getD j 0).natAbs ≤ _
  omega
 have hY : (((pw l - 1).toNat : Nat) : Int) < pw l := by have := zcA l;omega
 have hT : (((pw k - 1).toNat : Nat) : Int) < pw k := by have := zcA k;omega
 have sz := fun i hi => zjE hE hX hV i hi
 exact reduce_fit18 h hE hR hx hxl (by omega) (by omega) (fun i hi j hj => zzE hY hT (by omega) ((sz i hi).1 j hj)) (fun a ha => zzE hY hT (by omega) ((sz r (Nat.le_refl _)).2 a ha)) hK
theorem zfE : ∀ (n : Nat) (F : Nat → Int),zsum ((List.range n).map F) = su n F
 | 0,F => rfl
 | n + 1,F => by
  rw [List.range_succ,List.map_append,zHD,zfE n F]
  show _ = su n F + F n
  simp [zsum]
theorem zaF {m n : Nat} {xs ys : List Int} (hx : xs.length = m) {j : Nat} (hj : j < n) : (vecL m n xs ys).getD j 0 = su m fun a => xs.getD a 0 * en18 n ys a j := by
 have e : (vecL m n xs ys).getD j 0 = dotv xs (colL n ys 0 m j) := by
  unfold vecL colsL;simp [hj]
 rw [e];unfold dotv;rw [hx,zfE];refine zLA fun a ha => ?_
 congr 1
 unfold colL en18;simp [ha]
theorem vec_rest18 {m n r : Nat} {γ : Nat → Nat} {hs : List Int} (hrm : r ≤ m) (V : Nat → Int) {j : Nat} (hj : j < n) :
  (vecL m n ((List.range m).map fun a => if a < r then zzA γ (en18 n hs) V a else 0) hs).getD j 0 + zqA γ (en18 n hs) V r j = V j := by
 rw [zaF (by simp) hj,zVC (γ := γ) (X := en18 n hs) V j r];have e : (su m fun a => ((List.range m).map fun a => if a < r then zzA γ (en18 n hs) V a else 0).getD a 0 * en18 n hs a j) = su r fun a => zzA γ (en18 n hs) V a * en18 n hs a j := by
  rw [zzG hrm fun a h1 h2 => by simp [h2,Nat.not_lt.2 h1]];exact zLA fun a ha => by simp [ha,Nat.lt_of_lt_of_le ha hrm]
 rw [e,← zVC (γ := γ) (X := en18 n hs) V j r];have := zVC (γ := γ) (X := en18 n hs) V j r;omega
theorem vec_cm18 {m n : Nat} {xs ys : List Int} (hx : xs.length = m) : Cm19 m n (en18 n ys) fun j => (vecL m n xs ys).getD j 0 := ⟨fun a => xs.getD a 0,fun j hj => zaF hx hj⟩
theorem Rw17.zl18 {w : World} {g n k : Nat} {F : Nat → Int} (h : Rw17 w g n F k) (hn : n ≤ 64) : Zl w (.slice (some ⟨g,0,none⟩) n n) ((List.range n).map F) k := by
 obtain ⟨ps,h1,h2⟩ := h;have hl : ps.length = n := by rw [h2.1];simp
 have hp := h1.prs (B := 0) (Nat.zero_le _) (by omega) (Nat.le_refl _);rw [hl] at hp;exact zqD hp ⟨h2.1,fun j p z hpj hzj => (h2.2 j p z hpj hzj).zi⟩
theorem Rw17.zcs18 {w : World} {g n k : Nat} {F : Nat → Int} (h : Rw17 w g n F k) (hn : n ≤ 64) : ∃ ps,Prs 0 w (.slice (some ⟨g,0,none⟩) n n) ps ∧ Zcs w ps ((List.range n).map F) k := by
 obtain ⟨ps,h1,h2⟩ := h;have hl : ps.length = n := by rw [h2.1];simp
 have hp := h1.prs (B := 0) (Nat.zero_le _) (by omega) (Nat.le_refl _);rw [hl] at hp;exact ⟨ps,hp,h2.zcs⟩
theorem sameRowR18 {w : World} {g g' n k l : Nat} {F G : Nat → Int} (h : Rw17 w g n F k) (h' : Rw17 w g' n G l) (hn : n ≤ 64) (e : ∀ j,j < n → F j = G j) :
  Calls Tryz.prog 22 #[.slice (some ⟨g,0,none⟩) n n,.slice (some ⟨g',0,none⟩) n n] w fun e w' => e = .returned (.bool true) ∧ Below w.heap.size w w' := by
 obtain ⟨ps,p1,p2⟩ := h.zcs18 hn;obtain ⟨qs,q1,q2⟩ := h'.zcs18 hn;exact ziE p1 p2 q1 q2 (List.map_congr_left fun j hj => e j (by simpa using hj))
theorem formNo18 {w : World} {r c : Int} {a : Option Addr} {l cap : Nat} (h : ¬ Snd r c l) : Calls Tryz.prog 15 #[.agg #[.int .i64 r,.int .i64 c,.slice a l cap]] w (zdG w 1) := by
 obtain ⟨W0,hW⟩ : ∃ W0,(w.alloc (.cells #[.int .i64 r,.int .i64 c,.slice a l cap] 24)).alloc mbox = W0 := ⟨_,rfl⟩
 obtain ⟨b0,sz0⟩ := zXA w (.cells #[.int .i64 r,.int .i64 c,.slice a l cap] 24) mbox;rw [hW] at b0 sz0;obtain ⟨pa,pr⟩ := zRC (o1 := [.int .i64 r,.int .i64 c,.slice a l cap]) hW;have HCK := hid (check_no (w := W0) (a := a) (cap := cap) h);have x0 := pa.at (i := 0) rfl;have x1 := pa.at (i := 1) rfl;have x2 := pa.at (i := 2) rfl;rw [← hW] at x0 x1 x2;have PR := hid pr;have G0 := hid b0;have EW := hid hW;clear b0 sz0 hW pa pr h;go_enter Tryz.func15,Tryz.ntmps15;go_wp2_with fail;rw [EW.out];refine HCK.out.mono ?_;rintro e w1 ⟨rfl,b⟩;have PR1 := hid (PR.out.step b);have G1 := hid (below_step G0.out b);have r0 := PR1.out.at (i := 0) rfl;have r1 := PR1.out.at (i := 1) rfl;have r2 := PR1.out.at (i := 2) rfl;have f0 := PR1.out.fz 0;have f1 := PR1.out.fz 1;have f2 := PR1.out.fz 2;have FIN : Hid (zdG w 1 (.returned (.tuple #[zmH,.int .i64 1])) (put3 w1 (w.heap.size + 1) (.int .i64 0) (.int .i64 0) (.slice none 0 0))) := ⟨rfl,zEB G1.out (by omega) _ _ _⟩
 have PF := hid (PR1.out.put3 (.int .i64 0) (.int .i64 0) (.slice none 0 0));clear HCK b x0 x1 x2 EW PR G0 G1;go_wp2;exact bodyPost_ret (zhF Tryz.results15 PF.out _ (by rfl) (by rfl)) rfl FIN.out
theorem reduceNoFit18 {w : World} {v : Value} {m n k l c : Nat} {a : Option Addr} {zs : List Int} (h : Mx w v m n zs k) (hl : l ≠ n) :
  Calls Tryz.prog 16 #[v,.slice a l c] w fun e w' => e = .returned (.tuple #[.slice none 0 0,.slice none 0 0,.int .i64 2]) ∧ Below w.heap.size w w' := by
 have M0 := hid h;obtain ⟨aa,ca,rfl,hr,hcc⟩ := h.form;obtain ⟨la,hla⟩ : ∃ la,m * n = la := ⟨_,rfl⟩
 rw [hla] at M0 ⊢;obtain ⟨W0,hW⟩ : ∃ W0,w.alloc (matO m n (.slice aa la ca)) = W0 := ⟨_,rfl⟩
 obtain ⟨b0,sz0⟩ := alo1 w (matO m n (.slice aa la ca));rw [hW] at b0 sz0;have pa : Cel W0 w.heap.size 24 (matc m n (.slice aa la ca)) := by rw [← hW];exact Cel.new w _ _
 have HF := hid (formNoFit18 (c := (l : Int)) (M0.out.now b0) (by omega));have x0 := pa.at (i := 0) rfl;have x1 := pa.at (i := 1) rfl;have x2 := pa.at (i := 2) rfl;rw [← hW] at x0 x1 x2;have G := hid b0;have EW := hid hW;clear h b0 sz0 hW pa M0 hla;go_enter Tryz.func16,Tryz.ntmps16;go_wp2_with fail;rw [EW.out];clear EW x0 x1 x2;refine HF.out.mono ?_;rintro e w1 ⟨rfl,b⟩;replace G := hid (below_step G.out b);clear HF b;go_wp2;go_ret3;exact ⟨rfl,G.out⟩
end Go.Proofs.YtbcgggadelnaaaaGreat
