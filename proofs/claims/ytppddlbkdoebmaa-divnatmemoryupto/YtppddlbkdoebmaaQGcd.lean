import Derived.Test.YtppddlbkdoebmaaQOfToNearer
import Derived.Deep.LoopGhost
set_option maxRecDepth 100000
set_option maxHeartbeats 6400000
set_option linter.unusedVariables false
set_option linter.unusedSimpArgs false
namespace Go.Proofs.Ytppddlbkdoebmaa
open Go.RowKit
def zpG (w : World) (X Y : Int) (e : Ending) (w' : World) : Prop :=
 ∃ zs r,e = .returned r ∧ Own w.heap.size w' r zs ∧ zFA zs ∧ val zs = (ig X Y : Int) ∧ Below w.heap.size w w'
theorem ig_comm (u v : Int) : ig u v = ig v u := by unfold ig;exact Nat.gcd_comm _ _
theorem zSF {u : Int} (h : 0 ≤ u) : (ig u 0 : Int) = u := by unfold ig;simp;omega
theorem gcd_any {w : World} {va vb : Value} {xs ys : List Int} (ha : Sl w.heap.size w va xs) (hb : Sl w.heap.size w vb ys) (lx : xs.length ≤ 1099511627776) (ly : ys.length ≤ 1099511627776) :
  Calls Try.prog 29 #[va,vb] w (zpG w (val xs) (val ys)) := by
 have HL1 := zHB ha;have HB := hid hb;have HA := hid ha;have hwx := hid ha.1;have hwy := hid hb.1;have w1x := zIA xs;have w1y := zIA ys;clear ha hb;go_enter Try.func29,Try.ntmps29;go_wp2_with fail;refine HL1.mono ?_;rintro e w1 ⟨ra,rfl,oa,b1⟩;have HL2 := hid (zHB (HB.out.now b1));have OA := hid oa;have K1 := hid b1;clear HL1 oa b1 HA;go_wp2_with fail;refine HL2.out.mono ?_;rintro e w2 ⟨rb,rfl,ob,b2⟩;have OA2 := hid (OA.out.stay b2);have OB2 := hid (ob.lower (B' := w.heap.size) K1.out.size);have K2 := hid (zAA K1.out b2);have HC := hid (ztD OA2.out.sl OB2.out.sl);rw [val_lst,val_lst] at HC;clear HL2 ob b2 OA HB K1;have START : Hid (∀ (wx : World) (s0 s1 : Value) (us vs : List Int),Own w.heap.size wx s0 us → Own w.heap.size wx s1 vs → zFA us → zFA vs → val vs ≤ val us → ig (val us) (val vs) = ig (val xs) (val ys) → us.length ≤ 1099511627776 → vs.length ≤ 1099511627776 → Below w.heap.size w wx →
   ∃ us vs : List Int,((val vs).toNat : Int) = val vs ∧ Hid (Own w.heap.size wx s0 us) ∧ Hid (Own w.heap.size wx s1 vs) ∧ Hid (zFA us ∧ zFA vs ∧ val vs ≤ val us ∧ ig (val us) (val vs) = ig (val xs) (val ys)) ∧ us.length ≤ 1099511627776 ∧ vs.length ≤ 1099511627776 ∧ Hid (Below w.heap.size w wx)) := fun wx s0 s1 us vs h1 h2 h3 h4 h5 h6 h7 h8 h9 => ⟨us,vs,Int.toNat_of_nonneg (val_nonneg h4.1),h1,h2,⟨h3,h4,h5,h6⟩,h7,h8,h9⟩
 go_wp2_with fail;refine HC.out.mono ?_;rintro e w3 ⟨rfl,b3⟩;have OA3 := hid (OA2.out.stay b3);have OB3 := hid (OB2.out.stay b3);have K3 := hid (zAA K2.out b3);have ca := hid (canon_lst hwx.out);have cb := hid (canon_lst hwy.out);have la : (lst xs).length ≤ 1099511627776 := by rw [length_lst];omega
 have lb : (lst ys).length ≤ 1099511627776 := by rw [length_lst];omega
 have va' := hid (val_lst xs);have vb' := hid (val_lst ys);clear HC b3 OA2 OB2 K2;generalize lst xs = L1 at *;generalize lst ys = L2 at *;obtain ⟨a1,c1,rfl⟩ := OA3.out.form;obtain ⟨a2,c2,rfl⟩ := OB3.out.form
 by_cases hlt : val xs < val ys
 ·have hneg := zTD hlt
  generalize cmpI (val xs) (val ys) = CC at *;have H0 := hid (START.out w3 _ _ L2 L1 OB3.out OA3.out cb.out ca.out (by rw [va'.out,vb'.out];omega) (by rw [va'.out,vb'.out];exact ig_comm _ _) lb la K3.out);go_wp2_with fail;obtain ⟨us0,vs0,hg0,h1,h2,h3,h4,h5,h6⟩ := H0.out
  go_loopg [0,1] (val vs0).toNat (fun g s0 s1 wx => ∃ us vs : List Int,(g : Int) = val vs ∧ Hid (Own w.heap.size wx s0 us) ∧ Hid (Own w.heap.size wx s1 vs) ∧ Hid (zFA us ∧ zFA vs ∧ val vs ≤ val us ∧ ig (val us) (val vs) = ig (val xs) (val ys)) ∧ us.length ≤ 1099511627776 ∧ vs.length ≤ 1099511627776 ∧ Hid (Below w.heap.size w wx))
  case atStart => exact ⟨us0,vs0,hg0,h1,h2,h3,h4,h5,h6⟩
  case round =>
   clear hg0 h1 h2 h3 h4 h5 h6 H0 START OA3 OB3 K3 ca cb la lb va' vb';obtain ⟨us,vs,hg,OU,OV,HF,lu,lv,KK⟩ := hrel;obtain ⟨au,cu,rfl⟩ := OU.out.form;obtain ⟨av,cv,rfl⟩ := OV.out.form
   by_cases h1 : 1 < vs.length
   ·have z : (1 : Int) < (vs.length : Int) := by omega
    have HN := hid (zOE (B0 := w.heap.size) OU.out OV.out HF.out.1 HF.out.2.1 HF.out.2.2.1 (by omega) lu lv KK.out.size);obtain ⟨nu,hnu⟩ : ∃ nu,us.length = nu := ⟨_,rfl⟩
    obtain ⟨nv,hnv⟩ : ∃ nv,vs.length = nv := ⟨_,rfl⟩
    have HNV := hid hnv;rw [hnu,hnv] at HN;rw [hnv] at lv h1 z;rw [hnu] at lu;rw [hnu,hnv];clear hnu hnv;go_wp2_with fail;refine HN.out.mono ?_;rintro e w4 ⟨us',vs',ru,rv,rfl,ou,ov,cu',cv',hig,hle,hltv,hleu,b4⟩;have K4 := hid (KK.out.trans (b4.mono KK.out.size));have OU4 := hid ou;have OV4 := hid ov;have HF4 : Hid (zFA us' ∧ zFA vs' ∧ val vs' ≤ val us' ∧ ig (val us') (val vs') = ig (val xs) (val ys)) := ⟨cu',cv',hle,hig.trans HF.out.2.2.2⟩
    have HLEN : Hid (us'.length ≤ 1099511627776 ∧ vs'.length ≤ 1099511627776) := by
     have a1 := HF.out.2.1;have a2 := zSA cu' a1 hleu;have a3 := zSA cv' a1 (Int.le_of_lt hltv);have a4 := HNV.out;exact ⟨by omega,by omega⟩
    have hv0 := val_nonneg cv'.1;have HGG : Hid (((val vs').toNat : Int) = val vs' ∧ (val vs').toNat < gk) := ⟨Int.toNat_of_nonneg hv0,by omega⟩
    clear HN ou ov b4 hig hle hltv hleu hg HF OU OV KK;go_wp2_with fail;go_roundg (val vs').toNat
    case rel => exact ⟨us',vs',HGG.out.1,OU4,OV4,HF4,HLEN.out.1,HLEN.out.2,K4⟩
    case measure => exact HGG.out.2
   ·have z : ¬ (1 : Int) < (vs.length : Int) := by omega
    by_cases h0 : vs.length = 0
    ·have hv : vs = [] := List.eq_nil_of_length_eq_zero h0
     have z0 : ((vs.length : Int) == 0) = true := by rw [beq_iff_eq];omega
     have HE : Hid (val us = (ig (val xs) (val ys) : Int)) := by
      unfold Hid;rw [← HF.out.2.2.2,hv];exact (zSF (val_nonneg HF.out.1.1)).symm
     have HCU := hid HF.out.1;generalize us.length = nu at *;generalize vs.length = nv at *;clear hg HF;go_wp2;go_ret;exact ⟨us,_,rfl,OU.out,HCU.out,HE.out,KK.out⟩
    ·obtain ⟨t,ht⟩ : ∃ t,vs = [t] := by
      rcases vs with _ | ⟨t,_ | ⟨t2,r⟩⟩
      ·simp at h0
      ·exact ⟨t,rfl⟩
      ·simp at h1
     subst ht;have htw := HF.out.2.1.1.head;have et : val [t] = t := by simp [val]
     have htp : 0 < t := by
      have := zgA HF.out.2.1.1 (by rw [HF.out.2.1.2];simp);omega
     obtain ⟨_,⟨_,e⟩ | ⟨g,rr,_,_,hvv,hrow⟩⟩ := OV.out
     ·cases e
     simp only [Value.slice.injEq] at hvv;obtain ⟨rfl,_,_⟩ := hvv;have cc : wr.cell? ⟨g,0,none⟩ = some (.int .u64 t) := hrow.word (xs := [t]) (i := 0) (by simp);have HW := hid (zEB OU.out.sl htw htp);have HRW := hid hrow;have z1 : ((1 : Int) == 0) = false := rfl;rw [et] at HF;obtain ⟨T,rfl⟩ := Int.eq_ofNat_of_zero_le htw.1;have hT := htw.2;unfold wB at hT;clear hrow hg z;have z : ¬ (1 : Int) < 1 := by omega
     generalize us.length = nu at *;go_wp2_with fail;refine HW.out.mono ?_;rintro e w4 ⟨qs,q,r,rfl,hoq,hcq,hrw,hlt,hv,hlq,b4⟩;have cc4 : w4.cell? ⟨g,0,none⟩ = some (.int .u64 (T : Int)) := (b4.cell (p := ⟨g,0,none⟩) HRW.out.lt).trans cc;obtain ⟨R,rfl⟩ := Int.eq_ofNat_of_zero_le hrw.1;have hR := hrw.2;unfold wB at hR;have K4 := hid (KK.out.trans (b4.mono KK.out.size));have hst := zjD (u := val us) (v := (T : Int)) (q := val qs) (r := (R : Int)) (val_nonneg HF.out.1.1) htp hrw.1 hlt (by rw [hv,Int.mul_comm];omega);have HGD : Hid ((Nat.gcd T R : Nat) = ig (val xs) (val ys)) := by
      unfold Hid;rw [← HF.out.2.2.2,← hst];unfold ig
      simp
     have HG1 : Hid (0 < Nat.gcd T R ∧ Nat.gcd T R ≤ T) := ⟨Nat.gcd_pos_of_pos_left _ (by omega),Nat.gcd_le_left _ (by omega)⟩
     have HWG := hid (zXD (x := T) (y := R) (by omega) (by omega) w4);obtain ⟨qa,qc,rfl⟩ := hoq.form;generalize Nat.gcd T R = GG at *;clear HW hoq hcq hv hlq b4 hst cc hrw hlt HF OU;go_wp2_with fail;refine HWG.out.mono ?_;rintro e w5 ⟨rfl,b5⟩;have K5 := hid (K4.out.trans (b5.mono K4.out.size));clear HWG b5;have hgw : IsW (GG : Int) := by have := HG1.out;unfold IsW wB;omega
     go_wp2;go_ret;refine ⟨[(GG : Int)],_,rfl,⟨WF.cons hgw WF.nil,.inr ⟨w5.heap.size,[],K5.out.size,by simp,rfl,?_⟩⟩,⟨WF.cons hgw WF.nil,?_⟩,by rw [← HGD.out];simp [val],?_⟩
     ·exact heap_alloc_new w5 _
     ·have := HG1.out.1
      simp [wid];omega
     ·exact K5.out.alloc K5.out.size _
 ·have hneg := zvB (show val ys ≤ val xs by omega)
  generalize cmpI (val xs) (val ys) = CC at *;have H0 := hid (START.out w3 _ _ L1 L2 OA3.out OB3.out ca.out cb.out (by rw [va'.out,vb'.out];omega) (by rw [va'.out,vb'.out]) la lb K3.out);go_wp2_with fail;obtain ⟨us0,vs0,hg0,h1,h2,h3,h4,h5,h6⟩ := H0.out
  go_loopg [0,1] (val vs0).toNat (fun g s0 s1 wx => ∃ us vs : List Int,(g : Int) = val vs ∧ Hid (Own w.heap.size wx s0 us) ∧ Hid (Own w.heap.size wx s1 vs) ∧ Hid (zFA us ∧ zFA vs ∧ val vs ≤ val us ∧ ig (val us) (val vs) = ig (val xs) (val ys)) ∧ us.length ≤ 1099511627776 ∧ vs.length ≤ 1099511627776 ∧ Hid (Below w.heap.size w wx))
  case atStart => exact ⟨us0,vs0,hg0,h1,h2,h3,h4,h5,h6⟩
  case round =>
   clear hg0 h1 h2 h3 h4 h5 h6 H0 START OA3 OB3 K3 ca cb la lb va' vb';obtain ⟨us,vs,hg,OU,OV,HF,lu,lv,KK⟩ := hrel;obtain ⟨au,cu,rfl⟩ := OU.out.form;obtain ⟨av,cv,rfl⟩ := OV.out.form
   by_cases h1 : 1 < vs.length
   ·have z : (1 : Int) < (vs.length : Int) := by omega
    have HN := hid (zOE (B0 := w.heap.size) OU.out OV.out HF.out.1 HF.out.2.1 HF.out.2.2.1 (by omega) lu lv KK.out.size);obtain ⟨nu,hnu⟩ : ∃ nu,us.length = nu := ⟨_,rfl⟩
    obtain ⟨nv,hnv⟩ : ∃ nv,vs.length = nv := ⟨_,rfl⟩
    have HNV := hid hnv;rw [hnu,hnv] at HN;rw [hnv] at lv h1 z;rw [hnu] at lu;rw [hnu,hnv];clear hnu hnv;go_wp2_with fail;refine HN.out.mono ?_;rintro e w4 ⟨us',vs',ru,rv,rfl,ou,ov,cu',cv',hig,hle,hltv,hleu,b4⟩;have K4 := hid (KK.out.trans (b4.mono KK.out.size));have OU4 := hid ou;have OV4 := hid ov;have HF4 : Hid (zFA us' ∧ zFA vs' ∧ val vs' ≤ val us' ∧ ig (val us') (val vs') = ig (val xs) (val ys)) := ⟨cu',cv',hle,hig.trans HF.out.2.2.2⟩
    have HLEN : Hid (us'.length ≤ 1099511627776 ∧ vs'.length ≤ 1099511627776) := by
     have a1 := HF.out.2.1;have a2 := zSA cu' a1 hleu;have a3 := zSA cv' a1 (Int.le_of_lt hltv);have a4 := HNV.out;exact ⟨by omega,by omega⟩
    have hv0 := val_nonneg cv'.1;have HGG : Hid (((val vs').toNat : Int) = val vs' ∧ (val vs').toNat < gk) := ⟨Int.toNat_of_nonneg hv0,by omega⟩
    clear HN ou ov b4 hig hle hltv hleu hg HF OU OV KK;go_wp2_with fail;go_roundg (val vs').toNat
    case rel => exact ⟨us',vs',HGG.out.1,OU4,OV4,HF4,HLEN.out.1,HLEN.out.2,K4⟩
    case measure => exact HGG.out.2
   ·have z : ¬ (1 : Int) < (vs.length : Int) := by omega
    by_cases h0 : vs.length = 0
    ·have hv : vs = [] := List.eq_nil_of_length_eq_zero h0
     have z0 : ((vs.length : Int) == 0) = true := by rw [beq_iff_eq];omega
     have HE : Hid (val us = (ig (val xs) (val ys) : Int)) := by
      unfold Hid;rw [← HF.out.2.2.2,hv];exact (zSF (val_nonneg HF.out.1.1)).symm
     have HCU := hid HF.out.1;generalize us.length = nu at *;generalize vs.length = nv at *;clear hg HF;go_wp2;go_ret;exact ⟨us,_,rfl,OU.out,HCU.out,HE.out,KK.out⟩
    ·obtain ⟨t,ht⟩ : ∃ t,vs = [t] := by
      rcases vs with _ | ⟨t,_ | ⟨t2,r⟩⟩
      ·simp at h0
      ·exact ⟨t,rfl⟩
      ·simp at h1
     subst ht;have htw := HF.out.2.1.1.head;have et : val [t] = t := by simp [val]
     have htp : 0 < t := by
      have := zgA HF.out.2.1.1 (by rw [HF.out.2.1.2];simp);omega
     obtain ⟨_,⟨_,e⟩ | ⟨g,rr,_,_,hvv,hrow⟩⟩ := OV.out
     ·cases e
     simp only [Value.slice.injEq] at hvv;obtain ⟨rfl,_,_⟩ := hvv;have cc : wr.cell? ⟨g,0,none⟩ = some (.int .u64 t) := hrow.word (xs := [t]) (i := 0) (by simp);have HW := hid (zEB OU.out.sl htw htp);have HRW := hid hrow;have z1 : ((1 : Int) == 0) = false := rfl;rw [et] at HF;obtain ⟨T,rfl⟩ := Int.eq_ofNat_of_zero_le htw.1;have hT := htw.2;unfold wB at hT;clear hrow hg z;have z : ¬ (1 : Int) < 1 := by omega
     generalize us.length = nu at *;go_wp2_with fail;refine HW.out.mono ?_;rintro e w4 ⟨qs,q,r,rfl,hoq,hcq,hrw,hlt,hv,hlq,b4⟩;have cc4 : w4.cell? ⟨g,0,none⟩ = some (.int .u64 (T : Int)) := (b4.cell (p := ⟨g,0,none⟩) HRW.out.lt).trans cc;obtain ⟨R,rfl⟩ := Int.eq_ofNat_of_zero_le hrw.1;have hR := hrw.2;unfold wB at hR;have K4 := hid (KK.out.trans (b4.mono KK.out.size));have hst := zjD (u := val us) (v := (T : Int)) (q := val qs) (r := (R : Int)) (val_nonneg HF.out.1.1) htp hrw.1 hlt (by rw [hv,Int.mul_comm];omega);have HGD : Hid ((Nat.gcd T R : Nat) = ig (val xs) (val ys)) := by
      unfold Hid;rw [← HF.out.2.2.2,← hst];unfold ig
      simp
     have HG1 : Hid (0 < Nat.gcd T R ∧ Nat.gcd T R ≤ T) := ⟨Nat.gcd_pos_of_pos_left _ (by omega),Nat.gcd_le_left _ (by omega)⟩
     have HWG := hid (zXD (x := T) (y := R) (by omega) (by omega) w4);obtain ⟨qa,qc,rfl⟩ := hoq.form;generalize Nat.gcd T R = GG at *;clear HW hoq hcq hv hlq b4 hst cc hrw hlt HF OU;go_wp2_with fail;refine HWG.out.mono ?_;rintro e w5 ⟨rfl,b5⟩;have K5 := hid (K4.out.trans (b5.mono K4.out.size));clear HWG b5;have hgw : IsW (GG : Int) := by have := HG1.out;unfold IsW wB;omega
     go_wp2;go_ret;refine ⟨[(GG : Int)],_,rfl,⟨WF.cons hgw WF.nil,.inr ⟨w5.heap.size,[],K5.out.size,by simp,rfl,?_⟩⟩,⟨WF.cons hgw WF.nil,?_⟩,by rw [← HGD.out];simp [val],?_⟩
     ·exact heap_alloc_new w5 _
     ·have := HG1.out.1
      simp [wid];omega
     ·exact K5.out.alloc K5.out.size _
end Go.Proofs.Ytppddlbkdoebmaa
