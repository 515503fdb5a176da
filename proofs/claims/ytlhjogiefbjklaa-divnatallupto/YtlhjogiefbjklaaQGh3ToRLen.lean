/-
 QGh3ToRLen: Gh3, RPure, RLen, joined.
-/
import Derived.Test.YtlhjogiefbjklaaQExact0ToRDivMod
import Derived.Test.YtlhjogiefbjklaaQGcd
import Derived.Test.YtlhjogiefbjklaaQDWordsToJoin

set_option maxRecDepth 100000
set_option maxHeartbeats 6400000
set_option linter.unusedVariables false
set_option linter.unusedSimpArgs false
namespace Go.Proofs.Ytlhjogiefbjklaa
open Go.RowKit
theorem zPC {xs ys : List Int} (hx : zKA xs) (hy : zKA ys) (h : hval xs ≤ hval ys) : xs.length ≤ ys.length := by
 rcases Nat.lt_or_ge ys.length xs.length with q | q
 ·have := zHB hy.1 hx.1 (by rw [hy.2,hx.2];exact q)
  omega
 ·exact q
def zPF (w : World) (X : Int) (L : Nat) (e : Ending) (w' : World) : Prop :=
 ∃ D r,e = .returned r ∧ Sl w'.heap.size w' r D ∧ zKA D ∧ hval D = X ∧ D.length ≤ L ∧ Below w.heap.size w w'
def GcH3 (W : World) (X Y : Int) (M gk : Nat) (s5 s6 : Value) (wx : World) : Prop :=
 ∃ D E,Sl wx.heap.size wx s5 D ∧ Sl wx.heap.size wx s6 E ∧ zKA D ∧ zKA E ∧ ig (hval D) (hval E) = ig X Y ∧ D.length ≤ M ∧ E.length ≤ M ∧ gk = (hval E).toNat ∧ Below W.heap.size W wx
theorem rgcd_any {w : World} {va vb : Value} {xs ys : List Int} (ha : Sl w.heap.size w va xs) (hb : Sl w.heap.size w vb ys) (lx : xs.length ≤ 1099511627776) (ly : ys.length ≤ 1099511627776) :
  Calls Try.prog 23 #[va,vb] w (zTF w (val xs) (val ys)) := by
 have H1 := hid (zXA ha (by omega));have HB := hid hb;clear ha hb;go_enter Try.func23,Try.ntmps23;go_wp2_with fail;refine H1.out.mono ?_;rintro e w1 ⟨D,v1,rfl,s1,c1,e1,l1,b1⟩;have H2 := hid (zXA (HB.out.now b1) (by omega));have S1 := hid s1;have B1 := hid b1;clear H1 HB s1 b1;go_wp2_with fail;refine H2.out.mono ?_;rintro e w2 ⟨E,v2,rfl,s2,c2,e2,l2,b2⟩;have J0 : Hid (GcH3 w (val xs) (val ys) 2199023255552 (hval E).toNat v1 v2 w2) := ⟨D,E,S1.out.now b2,s2,c1,c2,by rw [e1,e2],by omega,by omega,rfl,zAA B1.out b2⟩
 obtain ⟨g0,hg0⟩ : ∃ g,(hval E).toNat = g := ⟨_,rfl⟩
 rw [hg0] at J0;have F1 : ∃ a c,v1 = .slice a D.length c := by obtain ⟨_,a,c,e,_⟩ := S1.out;exact ⟨a,c,e⟩
 have F2 : ∃ a c,v2 = .slice a E.length c := by obtain ⟨_,a,c,e,_⟩ := s2;exact ⟨a,c,e⟩
 clear H2 S1 B1 s2 b2 e1 e2 c1 c2 l1 l2 hg0;go_wp2_with fail
 go_loopg [5,6] g0 (fun gk s5 s6 wx => GcH3 w (val xs) (val ys) 2199023255552 gk s5 s6 wx)
 case atStart => exact J0.out
 case round =>
  clear J0 F1 F2;obtain ⟨D,E,h1,h2,h3,h4,h5,h6,h7,h8,h9⟩ := hrel;obtain ⟨_,a1,q1,rfl,-⟩ := id h1;obtain ⟨_,a2,q2,rfl,-⟩ := id h2;have S1 := hid h1;have S2 := hid h2;have HC : Hid (zKA D ∧ zKA E ∧ ig (hval D) (hval E) = ig (val xs) (val ys) ∧ D.length ≤ 2199023255552 ∧ E.length ≤ 2199023255552 ∧ gk = (hval E).toNat) := hid ⟨h3,h4,h5,h6,h7,h8⟩;have B0 := hid h9;obtain ⟨n1,hn1⟩ : ∃ n,D.length = n := ⟨_,rfl⟩
  obtain ⟨n2,hn2⟩ : ∃ n,E.length = n := ⟨_,rfl⟩
  have HN1 := hid hn1;have HN2 := hid hn2;rw [hn1] at S1;rw [hn2] at S2;rw [hn1,hn2];clear h1 h2 h3 h4 h5 h6 h7 h8 h9 hn1 hn2
  by_cases h0 : n2 = 0
  ·have hz : ¬ (0 : Int) < (n2 : Int) := by omega
   have HW := hid (zgA S1.out HC.out.1.1 (by have := HC.out.2.2.2.1;omega));have HV : Hid (hval D = (ig (val xs) (val ys) : Int)) := by
    unfold Hid;have e0 : E = [] := List.eq_nil_of_length_eq_zero (by rw [HN2.out];exact h0);have := HC.out.2.2.1;rw [e0] at this;rw [← this];exact (zNE (zDA HC.out.1.1)).symm
   clear h0 S2 HC;go_wp2_with fail;refine HW.out.mono ?_;rintro e w3 ⟨zs,r,rfl,o1,c1,e1,b1⟩;have FIN : Hid (zTF w (val xs) (val ys) (.returned r) w3) := ⟨zs,r,rfl,o1.lower B0.out.size,c1,by rw [e1,HV.out],zAA B0.out b1⟩
   clear HW o1 c1 e1 b1 HV;go_wp2;go_ret;exact FIN.out
  ·have hz : (0 : Int) < (n2 : Int) := by omega
   have hne : E ≠ [] := fun e => by have := HN2.out;rw [e] at this;simp at this;omega
   have HD := hid (zGB S1.out S2.out HC.out.1 HC.out.2.1 hne (by have := HC.out.2.2.2.1;omega));clear h0;go_wp2_with fail;refine HD.out.mono ?_;rintro e w3 ⟨qs,rs,q,r,rfl,k1,k2,k3,k4,k5,k6,k7,k8,b1⟩;have hE : 0 < hval E := by have := zDA k4.1;omega
   have hr0 := zDA k4.1;have HN : Hid (GcH3 w (val xs) (val ys) 2199023255552 (hval rs).toNat (.slice a2 n2 q2) r w3) :=
    ⟨E,rs,S2.out.now b1,k2,HC.out.2.1,k4,by rw [zAD (q := hval qs) (zDA HC.out.1.1) hE (zDA k4.1) k6 (by rw [k5,Int.mul_comm];omega)];exact HC.out.2.2.1,HC.out.2.2.2.2.1,Nat.le_trans (zPC k4 HC.out.2.1 (by omega)) HC.out.2.2.2.2.1,rfl,zAA B0.out b1⟩
   have HM : Hid ((hval rs).toNat < gk) := by unfold Hid;rw [HC.out.2.2.2.2.2];omega
   obtain ⟨_,ar,qr,rfl,-⟩ := id k2;obtain ⟨_,aq,qq,rfl,-⟩ := id k1;obtain ⟨gn,hgn⟩ : ∃ g,(hval rs).toNat = g := ⟨_,rfl⟩
   rw [hgn] at HN HM;clear HD k1 k2 k3 k4 k5 k6 k7 k8 b1 hE hr0 hgn hne HC S1 S2 B0;go_wp2_with fail;go_roundg gn
   case rel => exact HN.out
   case measure => exact HM.out

theorem bitLen_half {v : Nat} (h : v ≠ 0) : bitLen v = bitLen (v / 2) + 1 := by
 by_cases h1 : v / 2 = 0
 ·have : v = 1 := by omega
  subst this;rfl
 ·rw [bitLen_shift v 1 (by simpa using h1),Nat.pow_one];omega
end Go.Proofs.Ytlhjogiefbjklaa
