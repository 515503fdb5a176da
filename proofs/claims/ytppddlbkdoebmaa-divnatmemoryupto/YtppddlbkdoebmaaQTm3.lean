import Derived.Test.YtppddlbkdoebmaaQPu3ToSp3
import Derived.Test.YtppddlbkdoebmaaQRight3ToTrim
set_option maxRecDepth 100000
set_option maxHeartbeats 6400000
set_option linter.unusedVariables false
set_option linter.unusedSimpArgs false
namespace Go.Proofs.Ytppddlbkdoebmaa
open Go.RowKit
theorem zkF {B g n : Nat} {w : World} {Z : List Int} (hr : Row w g (ws Z)) (hZ : WF Z) (hn : Z.length = n) (hl : n ≤ 35184372088832) (hB : B ≤ g) : Mine B w (.slice (some ⟨g,0,none⟩) (wid Z) n) (lst Z) := by
 have e : ws Z = ws (lst Z) ++ ws (Z.drop (wid Z)) := by
  unfold ws lst;rw [← List.map_append,List.take_append_drop]
 have hw := zIA Z;refine ⟨hZ.take _,.inr ⟨g,ws (Z.drop (wid Z)),n,hB,by rw [length_lst];omega,by rw [length_lst];omega,.inr ⟨by rw [length_lst,zGA,List.length_drop];omega,by unfold maxLen;omega⟩,by rw [length_lst],by rw [← e];exact hr⟩⟩
def zzF (w : World) (X : Int) (L : Nat) (e : Ending) (w' : World) : Prop :=
 ∃ D r,e = .returned r ∧ Mine w.heap.size w' r D ∧ zMA D ∧ hval D = X ∧ D.length ≤ L ∧ Below w.heap.size w w'
theorem zzF.h {w w' : World} {X : Int} {L : Nat} {e : Ending} (h : zzF w X L e w') : zlG w X L e w' := by
 obtain ⟨D,r,h1,h2,h3⟩ := h;exact ⟨D,r,h1,h2.sl,h3⟩
theorem mul_fits3 {x y z c : Int} (hx0 : 0 ≤ x) (hx1 : x < 4294967296) (hy0 : 0 ≤ y) (hy1 : y < 4294967296) (hz0 : 0 ≤ z) (hz1 : z < 4294967296) (hc0 : 0 ≤ c) (hc1 : c < 4294967296) : 0 ≤ x * y ∧ x * y ≤ 18446744065119617025 := by
 refine ⟨Int.mul_nonneg hx0 hy0,?_⟩;have h1 : x * y ≤ 4294967295 * y := Int.mul_le_mul_of_nonneg_right (by omega) hy0;omega
theorem zsD {Z : List Int} (hZ : HF Z) {j : Nat} (hj : j < Z.length) (h : hval Z < hpw j) : Z[j] = 0 := by
 have h1 := zCF hZ h;rw [List.drop_eq_getElem_cons hj] at h1;have e : hval (Z[j] :: Z.drop (j + 1)) = Z[j] + hwB * hval (Z.drop (j + 1)) := rfl;rw [e] at h1;have h2 := (hZ.get hj).1;have h3 := zDA (hZ.drop (j + 1));unfold hwB at h1;omega
def TmO3 (W : World) (g : Nat) (A B : List Int) (la lb gk : Nat) (s6 : Value) (wx : World) : Prop :=
 ∃ (i : Nat) (Z : List Int),s6 = .int .i64 (i : Int) ∧ i ≤ la ∧ gk = la - i ∧ Z.length = la + lb ∧ HF Z ∧ hval Z = hval (A.take i) * hval B ∧ Row wx g (ws Z) ∧ Below g W wx
def TmI3 (W : World) (g : Nat) (Z0 B : List Int) (x : Int) (i lb gk : Nat) (s7 s8 : Value) (wx : World) : Prop :=
 ∃ (j : Nat) (c : Int) (Z : List Int),s7 = .int .u64 c ∧ s8 = .int .i64 (j : Int) ∧ j ≤ lb ∧ gk = lb - j ∧ 0 ≤ c ∧ c < 4294967296 ∧ Z.length = Z0.length ∧ HF Z ∧ (∀ t,i + j ≤ t → Z[t]? = Z0[t]?) ∧ hval Z + hpw (i + j) * c = hval Z0 + hpw i * (x * hval (B.take j)) ∧ Row wx g (ws Z) ∧ Below g W wx
theorem times3_step {Z Z0 B : List Int} {i j : Nat} {x y z c lo hi : Int} (hj : j < B.length) (hy : B[j] = y) (hk : i + j < Z.length) (hz : Z[i + j] = z) (he : lo + hwB * hi = x * y + z + c) (h : hval Z + hpw (i + j) * c = hval Z0 + hpw i * (x * hval (B.take j))) :
  hval (Z.set (i + j) lo) + hpw (i + (j + 1)) * hi = hval Z0 + hpw i * (x * hval (B.take (j + 1))) := by
 rw [zQB _ _ _ hk,hz,zQA B j hj,hy,show i + (j + 1) = (i + j) + 1 by omega]
 show _ + hwB * hpw (i + j) * hi = _
 rw [zrB i j] at h ⊢;generalize hpw i = P at *;generalize hpw j = Q at *;have e : P * Q * (lo + hwB * hi) = P * Q * (x * y + z + c) := by rw [he]
 grind
theorem times_low {A B : List Int} {i : Nat} (hA : HF A) (hB : HF B) (hi : i ≤ A.length) : hval (A.take i) * hval B < hpw (i + B.length) := by
 have h1 := zVA (hA.take i);have h2 := zVA hB;have e : (A.take i).length = i := by simp;omega
 rw [e] at h1;rw [zrB];have h3 := zDA (hA.take i);have h4 := zDA hB;have hp := zcA i;have hq := zcA B.length;have h5 : hval (A.take i) * hval B ≤ hval (A.take i) * hpw B.length := Int.mul_le_mul_of_nonneg_left (by omega) h3;have h6 : hval (A.take i) * hpw B.length < hpw i * hpw B.length := Int.mul_lt_mul_of_pos_right h1 hq;omega
theorem zbD {w : World} {v u : Value} {A B : List Int} (ha : Sl w.heap.size w v A) (hb : Sl w.heap.size w u B) (hA : HF A) (hB : HF B) (hl : A.length + B.length ≤ 8796093022208) :
  Calls Try.prog 48 #[v,u] w (zzF w (hval A * hval B) (A.length + B.length)) := by
 obtain ⟨_,aa,qa,rfl,-,-,hma⟩ := ha;obtain ⟨_,ab,qb,rfl,-,-,hmb⟩ := hb;have HMA := hid hma;have HMB := hid hmb;have HA := hid hA;have HB := hid hB;obtain ⟨la,hla⟩ : ∃ l,A.length = l := ⟨_,rfl⟩
 obtain ⟨lb,hlb⟩ : ∃ l,B.length = l := ⟨_,rfl⟩
 have HLA := hid hla;have HLB := hid hlb;rw [hla,hlb] at hl;rw [hla,hlb];clear hma hmb hA hB hla hlb;go_enter Try.func48,Try.ntmps48;go_wp2_with (at_make;refine wpList_make_words _ rfl _ _ rfl _ _ (la + lb) (la + lb) rfl rfl (by first | rfl | omega) (by first | rfl | omega) (Nat.le_refl _) (by omega) ?_)
 intro w2 hrow hb2 hsz2;have J0 : Hid (TmO3 w w.heap.size A B la lb la (.int .i64 0) w2) := ⟨0,List.replicate (la + lb) 0,rfl,Nat.zero_le _,rfl,by simp,zsB _,by rw [zsA,List.take_zero];simp [hval],hrow,hb2⟩
 obtain ⟨g,hg⟩ : ∃ g,w.heap.size = g := ⟨_,rfl⟩
 have EG := hid hg;rw [hg] at J0;rw [hg];clear hrow hb2 hsz2 hg;go_wp2_with fail
 go_loopg [6] la (fun gk s6 wx => TmO3 w g A B la lb gk s6 wx)
 case atStart => exact J0.out
 case round =>
  clear J0;obtain ⟨i,Z,rfl,hiL,hgk,hZl,hZf,hZv,hR,hBl⟩ := hrel;have RZ := hid hR;have BZ := hid hBl;have HG := hid hgk;have HZF := hid hZf;have HZV := hid hZv;clear hR hBl hgk hZf hZv
  by_cases hlt : ¬ i < la
  ·have hlt' : ¬ (i : Int) < (la : Int) := by omega
   obtain rfl : i = la := by omega
   have S1 : Sl wr.heap.size wr (.slice (some ⟨g,0,none⟩) (i + lb) (i + lb)) Z := by
    have := Row.sl (r := []) (by simpa using RZ.out) HZF.out.word (Nat.le_of_eq hZl) (by omega) RZ.out.lt
    rwa [hZl] at this
   have HT := hid (zZA S1);have hd := zIA Z;have FIN : Hid (zzF w (hval A * hval B) (i + lb) (.returned (.slice (some ⟨g,0,none⟩) (wid Z) (i + lb))) wr) :=
    ⟨lst Z,_,rfl,zkF RZ.out HZF.out.word hZl (by omega) (Nat.le_of_eq EG.out),hcanon_lst' HZF.out,by rw [hval_lst',HZV.out,List.take_of_length_le (Nat.le_of_eq HLA.out)],by rw [length_lst];omega,by rw [EG.out];exact BZ.out⟩
   clear S1 hlt hd;go_wp2_with fail;refine HT.out.mono ?_;rintro e w8 ⟨rfl,hw8⟩;subst hw8;clear HT;go_wp2;go_ret;exact FIN.out
  ·have hlt2 : i < la := Classical.not_not.1 hlt
   have hlt' : (i : Int) < (la : Int) := by omega
   have hiA : i < A.length := by rw [HLA.out];exact hlt2
   rcases HMA.out with e | ⟨bA,oA,rfl,hbA,hcA⟩
   ·subst e;simp at hiA
   have hxw := HA.out.get hiA;unfold IsH hwB at hxw;have cA := hcA i hiA;obtain ⟨x,hx⟩ : ∃ x,A[i] = x := ⟨_,rfl⟩
   rw [hx] at hxw cA;obtain ⟨hx0,hx1⟩ := hxw;have HX := hid hx;have CA : Hid (w.cell? ⟨bA,oA + i,none⟩ = some (.int .u64 x)) := hid cA;have HMO : Hid (la - (i + 1) < gk) := by unfold Hid;rw [HG.out];omega
   have J2 : Hid (TmI3 w g Z B x i lb lb (.int .u64 0) (.int .i64 0) wr) := ⟨0,0,Z,rfl,rfl,Nat.zero_le _,rfl,by omega,by omega,rfl,HZF.out,fun _ _ => rfl,by simp [hval],RZ.out,BZ.out⟩
   clear hlt hcA hx cA HG;go_wp2_with fail
   go_loopg [7,8] lb (fun gk s7 s8 wx => TmI3 w g Z B x i lb gk s7 s8 wx)
   case atStart => exact J2.out
   case round =>
    clear J2
    rename World => wy
    obtain ⟨j,c,Y,rfl,rfl,hjL,hg2,hc0,hc1,hYl,hYf,hYt,hYv,hRY,hBY⟩ := hrel;have RY := hid hRY;have BY := hid hBY;have HG2 := hid hg2;have HYF := hid hYf;have HYV := hid hYv;have HYT := hid hYt;clear hRY hBY hg2 hYf hYv hYt;have hYl2 : Y.length = la + lb := by rw [hYl,hZl]
    by_cases hjl : j < lb
    ·have hjl' : (j : Int) < (lb : Int) := by omega
     have hjB : j < B.length := by rw [HLB.out];exact hjl
     have hij : i + j < Y.length := by omega
     rcases HMB.out with e | ⟨bB,oB,rfl,hbB,hcB⟩
     ·subst e;simp at hjB
     have hyw := HB.out.get hjB;have hzw := HYF.out.get hij;unfold IsH hwB at hyw hzw;have cB := hcB j hjB;have cZ := Row.word (r := []) (by simpa using RY.out) hij;obtain ⟨y,hy⟩ : ∃ y,B[j] = y := ⟨_,rfl⟩
     obtain ⟨z,hz⟩ : ∃ z,Y[i + j] = z := ⟨_,rfl⟩
     rw [hy] at hyw cB;rw [hz] at hzw cZ;obtain ⟨hy0,hy1⟩ := hyw;obtain ⟨hz0,hz1⟩ := hzw;have hbA' : bA < g := by rw [← EG.out];exact hbA
     have hbB' : bB < g := by rw [← EG.out];exact hbB
     have d1 : ∀ q,(wy.drewN q).cell? ⟨bA,oA + i,none⟩ = some (.int .u64 x) := fun q => by simpa using (BY.out.cell (p := ⟨bA,oA + i,none⟩) hbA').trans CA.out
     have d2 : ∀ q,(wy.drewN q).cell? ⟨bB,oB + j,none⟩ = some (.int .u64 y) := fun q => by simpa using (BY.out.cell (p := ⟨bB,oB + j,none⟩) hbB').trans cB
     have d3 : ∀ q,(wy.drewN q).cell? ⟨g,i + j,none⟩ = some (.int .u64 z) := fun q => by simpa using cZ
     have df : ∀ q,(wy.drewN q).frozen? ⟨g,i + j,none⟩ = false := fun q => by simpa using RY.out.frozen (i + j)
     obtain ⟨p0,p1⟩ := mul_fits3 hx0 hx1 hy0 hy1 hz0 hz1 hc0 hc1;have hst := times3_step (lo := (x * y + z + c) % 4294967296) (hi := (x * y + z + c) / 4294967296) hjB hy hij hz (by unfold hwB;omega) HYV.out;obtain ⟨p,hp⟩ : ∃ p,x * y = p := ⟨_,rfl⟩
     rw [hp] at p0 p1 hst;have k0 : (0 : Int) ≤ (i : Int) + (j : Int) := by omega
     have k1 : (i : Int) + (j : Int) < ((la + lb : Nat) : Int) := by omega
     have ki : (0 : Int) ≤ (i : Int) := by omega
     have kj : (0 : Int) ≤ (j : Int) := by omega
     have HNX : Hid (∀ q,TmI3 w g Z B x i lb (lb - (j + 1)) (.int .u64 ((p + z + c) / 4294967296)) (.int .i64 ((j + 1 : Nat) : Int)) ((wy.drewN q).setCell ⟨g,i + j,none⟩ (.int .u64 ((p + z + c) % 4294967296)))) := fun q =>
      ⟨j + 1,_,_,rfl,rfl,by omega,rfl,by omega,by omega,by rw [List.length_set,hYl],HYF.out.set (i + j) (by unfold IsH hwB;omega),fun t ht => by rw [List.getElem?_set_ne (by omega)];exact HYT.out t (by omega),hst,
       by simpa using Row.setWord (r := []) (by simpa using RY.out.drewN q) hij _,(below_drewN BY.out q).setCell (p := ⟨g,i + j,none⟩) (Nat.le_refl _) _⟩
     have HM2 : Hid (lb - (j + 1) < gk) := by unfold Hid;rw [HG2.out];omega
     clear hcB cB cZ hy hz hst HYF HYV HYT RY BY HG2;go_wp2_with fail;go_quiet (fail);go_wp2_with fail;go_roundg (lb - (j + 1))
     case rel => exact HNX.out _
     case measure => exact HM2.out
    ·obtain rfl : j = lb := by omega
     have hjl' : ¬ (j : Int) < (j : Int) := by omega
     have hij : i + j < Y.length := by omega
     have hv0 := times_low (i := i) HA.out HB.out (by omega);rw [HLB.out] at hv0;have hz0 : Y[i + j] = 0 := by
      have h1 := HYT.out (i + j) (Nat.le_refl _);have h2 := zsD HZF.out (j := i + j) (by omega) (by rw [HZV.out];exact hv0);rw [List.getElem?_eq_getElem hij,List.getElem?_eq_getElem (by omega),h2] at h1;exact Option.some.inj h1
     have hv : hval (Y.set (i + j) c) = hval (A.take (i + 1)) * hval B := by
      have h1 := HYV.out;rw [List.take_of_length_le (Nat.le_of_eq HLB.out),HZV.out] at h1;rw [zQB _ _ _ hij,hz0,zQA A i hiA,HX.out];have e1 : (hval (A.take i) + x * hpw i) * hval B = hval (A.take i) * hval B + hpw i * (x * hval B) := by grind
      rw [e1,← h1]
      grind
     have cf : wy.frozen? ⟨g,i + j,none⟩ = false := RY.out.frozen _;have cZ := Row.word (r := []) (by simpa using RY.out) hij;have k0 : (0 : Int) ≤ (i : Int) + (j : Int) := by omega
     have k1 : (i : Int) + (j : Int) < ((la + j : Nat) : Int) := by omega
     have FIN : Hid (TmO3 w g A B la j (la - (i + 1)) (.int .i64 ((i + 1 : Nat) : Int)) (wy.setCell ⟨g,i + j,none⟩ (.int .u64 c))) :=
      ⟨i + 1,_,rfl,by omega,rfl,by rw [List.length_set,hYl2],HYF.out.set (i + j) (by unfold IsH hwB;omega),hv,by simpa using Row.setWord (r := []) (by simpa using RY.out) hij _,BY.out.setCell (p := ⟨g,i + j,none⟩) (Nat.le_refl _) _⟩
     have hw : IntKind.i64.wrap ((i : Int) + 1) = ((i + 1 : Nat) : Int) := by rw [zjA] <;> omega
     clear hv hz0 hv0 HYF HYV HYT RY BY HG2;go_wp2_with fail;go_roundg (la - (i + 1))
     case rel => exact FIN.out
     case measure => exact HMO.out
theorem zuC {w : World} {v u : Value} {A B : List Int} (ha : Sl w.heap.size w v A) (hb : Sl w.heap.size w u B) (hA : HF A) (hB : HF B) (hl : A.length + B.length ≤ 8796093022208) :
  Calls Try.prog 48 #[v,u] w (zlG w (hval A * hval B) (A.length + B.length)) := (zbD ha hb hA hB hl).mono fun _ _ h => h.h
end Go.Proofs.Ytppddlbkdoebmaa
