import Derived.Test.YtppddlbkdoebmaaQDivideToShl
import Derived.Test.YtppddlbkdoebmaaQShr
import Derived.Test.YtppddlbkdoebmaaQLitsToNow
import Derived.ArgAppend
import Derived.OwnWalk
set_option maxRecDepth 100000
set_option maxHeartbeats 6400000
set_option linter.unusedVariables false
set_option linter.unusedSimpArgs false
namespace Go.Proofs.Ytppddlbkdoebmaa
open Go.RowKit
def Two (q r : Value) : Prop := ∀ k,q.ownBlock = some k → r.ownBlock = some k → False
theorem Own.block {B : Nat} {w : World} {v : Value} {zs : List Int} (h : Own B w v zs) : ∀ k,v.ownBlock = some k → B ≤ k ∧ k < w.heap.size := by
 intro k hk;obtain ⟨_,⟨rfl,_⟩ | ⟨g,r,h1,h2,rfl,h4⟩⟩ := h
 ·cases hk
 ·simp [Value.ownBlock] at hk
  subst hk;exact ⟨h1,h4.lt⟩
theorem zmE {B B' : Nat} {w w' : World} {q r : Value} {qs rs : List Int} (h : Own B w q qs) (h' : Own B' w' r rs) (hB : w.heap.size ≤ B') : Two q r := fun k h1 h2 => by
 have := (h.block k h1).2;have := (h'.block k h2).1;omega
theorem two_of' {B B' : Nat} {w w' : World} {q r : Value} {qs rs : List Int} (h : Own B w q qs) (h' : Own B' w' r rs) (hB : w.heap.size ≤ B') : Two r q := fun k h1 h2 => zmE h h' hB k h2 h1
theorem Own.lower {B B' : Nat} {w : World} {v : Value} {zs : List Int} (h : Own B w v zs) (hB : B' ≤ B) : Own B' w v zs := by
 obtain ⟨h0,h1 | ⟨g,r,h1,h2⟩⟩ := h
 ·exact ⟨h0,.inl h1⟩
 ·exact ⟨h0,.inr ⟨g,r,by omega,h2⟩⟩
theorem Own.stay {B : Nat} {w w' : World} {v : Value} {zs : List Int} (h : Own B w v zs) (hb : Below w.heap.size w w') : Own B w' v zs := by
 obtain ⟨h0,h1 | ⟨g,r,h1,h2,h3,h4⟩⟩ := h
 ·exact ⟨h0,.inl h1⟩
 ·exact ⟨h0,.inr ⟨g,r,h1,h2,h3,h4.below hb h4.lt⟩⟩
theorem wpList_append_one (w : World) {ops : Array Oper} {rest : List Oper} {o : Oper} {a : Act} {Q : Exit → Act → World → Prop}
  (hg : o.guard = none) (s x : Operand) (hop : o.op = Op.call { callee := Callee.builtin Builtin.append,args := #[s,x],argTypes := #[25,25] })
  (g : Nat) (zs : List Int) (r : List Value) (c : Int) (hs : a.eval s = .slice (some ⟨g,0,none⟩) zs.length (zs.length + r.length)) (hmx : zs.length + r.length ≤ 35184372088832) (hrow : Row w g (ws zs ++ r)) (hlen : zs.length + 1 ≤ 17592186044000)
  (ad : Addr) (hx : a.eval x = .slice (some ad) 1 1) (hc : w.cell? ad = some (.int .u64 c))
  (hK : ∀ g' cap' r' w',Hid (Row w' g' (ws (zs ++ [c]) ++ r')) → g ≤ g' → zs.length + 1 ≤ cap' → cap' ≤ 9223372036854775807 → Hid (Below g w w') → wpList Try.prog ops Q rest (a.put o.dst (.slice (some ⟨g',0,none⟩) (zs.length + 1) cap')) w') :
  wpList Try.prog ops Q (o :: rest) a w := by
 obtain ⟨i,hi,hz,hsz,hb⟩ := info_parts Try.infoW;have hnews : ∀ j u,([.int .u64 c] : List Value)[j]? = some u → w.cell? (ad.add j) = some u := fun j u hj => by
  match j,hj with
  | 0,hj => simp at hj;subst hj;simpa [Addr.add] using hc
 have h1c : ∀ u ∈ ([.int .u64 c] : List Value),u.oneCell' = true := fun u hu => by simp at hu;subst hu;rfl
 have done : ∀ B v' w',B ≤ w.heap.size → w'.ownsRow B 26 1 v' (zs.length + 1) (ws zs ++ [.int .u64 c]) → ∃ g' cap' r',v' = .slice (some ⟨g',0,none⟩) (zs.length + 1) cap' ∧ B ≤ g' ∧ zs.length + 1 ≤ cap' ∧ cap' ≤ 9223372036854775807 ∧ Row w' g' (ws (zs ++ [c]) ++ r') := fun B v' w' hB ho => by
  obtain ⟨_,⟨_,h2⟩ | ⟨g',cap',cur,h2,h3,h4,h5,h6,h7,h8⟩⟩ := ho
  ·omega
  ·refine ⟨g',cap',cur.toList.drop (zs.length + 1),h2,h3,h5,by unfold maxLen at h6;omega,?_⟩
   rw [Nat.mul_one] at h8;have e : ws (zs ++ [c]) = cur.toList.take (zs.length + 1) := by rw [h8];simp [ws]
   unfold Row;rw [e,List.take_append_drop,Array.toArray_toList];exact h4
 by_cases hfit : zs.length + 1 ≤ zs.length + r.length
 ·have hown : w.ownsRow 0 26 1 (.slice (some ⟨g,0,none⟩) zs.length (zs.length + r.length)) zs.length (ws zs) := by
   refine ⟨by simp [zGA],.inr ⟨g,_,(ws zs ++ r).toArray,rfl,Nat.zero_le _,hrow,by omega,by unfold maxLen;omega,by simp [zGA],?_⟩⟩;rw [Nat.mul_one];simp [zGA]
  refine wpList_append_fits w hg s x 25 hop 0 26 i 1 Try.underlying25 hi hsz g zs.length (zs.length + r.length) (ws zs) hs hown ad 1 1 [.int .u64 c] hx rfl hnews h1c hfit ?_;intro w' ho hgr;obtain ⟨g',cap',r',e,_,h5,h6,h7⟩ := done 0 _ w' (Nat.zero_le _) ho;simp only [Value.slice.injEq,Option.some.injEq,Addr.mk.injEq,and_true] at e;obtain ⟨rfl,_,rfl⟩ := e;exact hK g _ r' w' h7 (Nat.le_refl _) hfit (by omega) ((Below.refl _ _).grown hgr (Nat.le_of_lt hrow.lt) (fun k hk => by cases hk;exact Nat.le_refl _))
 ·refine wpList_append_grows w hg s x 25 hop 26 i _ 1 8 Try.underlying25 hi hz hsz hb rfl (by omega) (some ⟨g,0,none⟩) zs.length (zs.length + r.length) (ws zs) hs (fun e => by cases e) (by simp [zGA]) (fun b e => ?_) ad 1 1 [.int .u64 c] hx rfl hnews h1c (by omega) (by unfold maxLen;omega) (by omega) ?_
  ·cases e
   intro j u hj;have hj' : j < zs.length := by
    have := (List.getElem?_eq_some_iff.1 hj).1
    simpa [zGA] using this
   have e : (⟨g,0,none⟩ : Addr).add j = ⟨g,j,none⟩ := by unfold Addr.add;split <;> simp_all
   rw [e,hrow.word hj',← hj];simp [ws,hj']
  ·intro v' w' ho hgr
   obtain ⟨g',cap',r',rfl,h4,h5,h6,h7⟩ := done w.heap.size v' w' (Nat.le_refl _) ho;exact hK g' cap' r' w' h7 (Nat.le_trans (Nat.le_of_lt hrow.lt) h4) h5 h6 ((Below.refl _ _).grown hgr (Nat.le_of_lt hrow.lt) (fun k hk => by cases hk))
def zqC (w : World) (xs ys : List Int) (e : Ending) (w' : World) : Prop :=
 ∃ qs rs q r,e = .returned (.tuple #[q,r,.int .i64 0]) ∧ Own w.heap.size w' q qs ∧ Own w.heap.size w' r rs ∧ zFA qs ∧ zFA rs ∧ val xs = val ys * val qs + val rs ∧ val rs < val ys ∧ qs.length ≤ xs.length ∧ rs.length ≤ xs.length ∧ Two q r ∧ Below w.heap.size w w'
theorem zrD {w : World} {v u : Value} {ys : List Int} (h' : Sl w.heap.size w u ys) (h0 : wid ys = 0) :
  Calls Try.prog 27 #[v,u] w fun e w' => e = .returned (.tuple #[.slice none 0 0,.slice none 0 0,.int .i64 4]) ∧ Below w.heap.size w w' := by
 have HL := least_any h';rw [h0] at HL;have hz : ((0 : Int) == 0) = true := rfl;go_enter Try.func27,Try.ntmps27;go_wp2_with fail;refine HL.mono ?_;rintro e w1 ⟨rfl,_,hb,_⟩;clear HL;have HB := hid hb;clear hb;go_wp2;go_ret3;exact ⟨rfl,HB.out⟩
theorem lst_one {ys : List Int} (h : wid ys = 1) : ∃ h : 0 < ys.length,lst ys = [ys[0]] ∧ ys[0] ≠ 0 := by
 obtain ⟨h1,h2⟩ := zsC (n := 0) h;exact ⟨h1,by rw [zzE h h1];simp,h2⟩
theorem divMod_one {w : World} {v u : Value} {xs ys : List Int} (h : Sl w.heap.size w v xs) (h' : Sl w.heap.size w u ys) (h1 : wid ys = 1) :
  Calls Try.prog 27 #[v,u] w (zqC w xs ys) := by
 have HL := least_any h';obtain ⟨hl,e1,e2⟩ := lst_one h1;have hy := h'.1.get hl;have HV := hid (val_lst ys);rw [e1] at HL HV;rw [h1] at HL;generalize ys[0] = t at *;have HX := hid h;have hz : ((1 : Int) == 0) = false := rfl;have hz1 : ((1 : Int) == 1) = true := rfl;have hxl : wid xs ≤ xs.length := zIA xs;clear h h' e1 hl;go_enter Try.func27,Try.ntmps27;go_wp2_with fail;refine HL.mono ?_;rintro e w1 ⟨rfl,hr,hb,_⟩;clear HL;have c0 : w1.cell? ⟨w.heap.size,0,none⟩ = some (.int .u64 t) := Row.word (xs := [t]) (r := []) (by simpa using hr) (by simp);have HB := hid hb;have HW := hid (zEB (w := w1) ((HX.out.below hb (Nat.le_refl _)).mono hb.size) hy (by have := hy.1;omega));clear hb hr;go_wp2_with fail;refine HW.out.mono ?_;rintro e w2 ⟨zs,q,rr,rfl,ho,hcz,hrw,hrlt,hv,hlz,hb2⟩;have HO := hid ho;have HB2 := hid hb2;clear ho hb2 HW;go_wp2_with fail;have hsl : Sl (w2.alloc (.cells #[.int .u64 rr] 26)).heap.size (w2.alloc (.cells #[.int .u64 rr] 26)) (.slice (some ⟨w2.heap.size,0,none⟩) 1 1) [rr] := by
  have := Row.sl (w := w2.alloc (.cells #[.int .u64 rr] 26)) (g := w2.heap.size) (xs := [rr]) (r := []) (heap_alloc_new w2 _) (WF.cons hrw WF.nil) (cap := 1) (by simp) (by omega) (B := (w2.alloc (.cells #[.int .u64 rr] 26)).heap.size) (by simp)
  simpa using this
 refine (zHB hsl).mono ?_;rintro e w3 ⟨v3,rfl,ho3,hb3⟩;have HO3 := hid ho3;have HB3 := hid hb3;clear ho3 hb3 hsl;go_wp2;go_ret3;have B3 : Below w2.heap.size w2 w3 := ((Below.refl w2.heap.size w2).alloc (Nat.le_refl _) _).trans (HB3.out.mono (by simp));have hy2 : val ys = t := by rw [← HV.out];simp [val]
 have hl3 : (lst [rr]).length ≤ xs.length := by
  rw [length_lst];have l1 := zIA [rr]
  by_cases q0 : xs.length = 0
  ·have : xs = [] := List.eq_nil_of_length_eq_zero q0
   subst this;have h0 : zs.length = 0 := by
    have : wid ([] : List Int) = 0 := rfl;omega
   have : zs = [] := List.eq_nil_of_length_eq_zero h0;subst this;have : rr = 0 := by simp [val] at hv;omega
   subst this;simp [wid]
  ·simp at l1;omega
 refine ⟨zs,lst [rr],q,v3,rfl,(HO.out.lower HB.out.size).stay B3,HO3.out.lower (by simp;exact Nat.le_trans (Nat.le_trans HB.out.size HB2.out.size) (Nat.le_succ _)),hcz,canon_lst (WF.cons hrw WF.nil),?_,?_,by omega,hl3,zmE HO.out HO3.out (by simp),?_⟩
 ·rw [hy2,val_lst,hv];simp [val]
 ·rw [hy2,val_lst];simpa [val] using hrlt
 ·exact HB.out.trans ((HB2.out.mono HB.out.size).trans (B3.mono (Nat.le_trans HB.out.size HB2.out.size)))
theorem divMod_less {w : World} {v u : Value} {xs ys : List Int} (h : Sl w.heap.size w v xs) (h' : Sl w.heap.size w u ys) (h1 : 2 ≤ wid ys) (hlt : val xs < val ys) :
  Calls Try.prog 27 #[v,u] w (zqC w xs ys) := by
 have HL := least_any h';have l1 := zIA ys;have hcm : ys.length ≤ 35184372088832 := by obtain ⟨_,_,_,_,_,q,_⟩ := h';exact q
 have HX := hid h;have HLL := hid (length_lst ys);have HVL := hid (val_lst ys);have HWL := hid (canon_lst h'.1).1;have HLT := hid hlt;generalize lst ys = L at *;obtain ⟨n,hn⟩ : ∃ n,wid ys = n := ⟨_,rfl⟩
 rw [hn] at HL HLL h1 l1;have hz : ((n : Int) == 0) = false := by rw [beq_eq_false_iff_ne];omega
 have hz1 : ((n : Int) == 1) = false := by rw [beq_eq_false_iff_ne];omega
 clear h h' hn hlt;go_enter Try.func27,Try.ntmps27;go_wp2_with fail;refine HL.mono ?_;rintro e w1 ⟨rfl,hr,hb,hsz⟩;clear HL;have hsl := Row.sl (r := []) (by simpa using hr) HWL.out (cap := n) (by rw [HLL.out];exact Nat.le_refl _) (by omega) hr.lt;rw [HLL.out] at hsl;have HXL := hid ((HX.out.below hb (Nat.le_refl _)).mono hb.size);have HC := hid (ztD HXL.out hsl);rw [HVL.out] at HC;have hneg := zTD HLT.out;generalize cmpI (val xs) (val ys) = C at *;have HB := hid hb;clear hsl hr hb;go_wp2_with fail;refine HC.out.mono ?_;rintro e w2 ⟨rfl,hb2⟩;clear HC;have HO2 := hid (zHB ((HXL.out.below hb2 (Nat.le_refl _)).mono hb2.size));have HB2 := hid hb2;clear hb2;go_wp2_with fail;refine HO2.out.mono ?_;rintro e w3 ⟨v3,rfl,ho3,hb3⟩;have HO3 := hid ho3;have HB3 := hid hb3;clear ho3 hb3 HO2;go_wp2;go_ret3;have hwx := HX.out.1;refine ⟨[],lst xs,.slice none 0 0,v3,rfl,⟨WF.nil,.inl ⟨rfl,rfl⟩⟩,HO3.out.lower (Nat.le_trans HB.out.size HB2.out.size),⟨WF.nil,rfl⟩,canon_lst hwx,?_,?_,by simp,?_,(fun k h1 _ => by cases h1),?_⟩
 ·rw [val_lst];simp [val]
 ·rw [val_lst];exact HLT.out
 ·rw [length_lst];exact zIA _
 ·exact HB.out.trans ((HB2.out.mono HB.out.size).trans (HB3.out.mono (Nat.le_trans HB.out.size HB2.out.size)))
theorem zcD {w : World} {g : Nat} {zs : List Int} {r : List Value} (h : Row w g (ws zs ++ r)) (hw : WF zs) {cap : Nat} (hl : zs.length ≤ 35184372088832) (hc : zs.length ≤ cap) {B : Nat} (hB : g < B) : Sl B w (.slice (some ⟨g,0,none⟩) zs.length cap) zs :=
 ⟨hw,_,cap,rfl,hc,hl,.inr ⟨g,0,rfl,hB,fun j hj => by rw [Nat.zero_add];exact h.word hj⟩⟩
theorem zUD {bs : List Int} {N : Nat} (h : zFA bs) (hl : bs.length = N + 1) : pw N ≤ val bs := by
 rw [zWE hl];obtain ⟨h1,h2⟩ := zsC (xs := bs) (n := N) (by rw [← hl];exact h.2);have h3 := (h.1.get h1).1;have h4 := val_nonneg (h.1.take N);have h5 := Int.mul_le_mul_of_nonneg_right (show 1 ≤ bs[N] by omega) (Int.le_of_lt (zhA N));rw [Int.one_mul] at h5;omega
theorem zSA {xs ys : List Int} (h : zFA xs) (h' : zFA ys) (hv : val xs ≤ val ys) : xs.length ≤ ys.length := by
 by_cases q : wid ys < wid xs
 ·have := zRB h'.1 h.1 q;omega
 ·rw [← h.2,← h'.2];omega
theorem top_less {us bs : List Int} {m N : Nat} (ha : WF us) (hb : zFA bs) (hl : bs.length = N + 1) (hm : m + (N + 1) = us.length + 1) : val ((us ++ [0]).drop m) < val bs := by
 have e : (us ++ [0]).drop m = us.drop m ++ [0] := List.drop_append_of_le_length (by omega);rw [e,zfA];have h1 := zXA (ha.dropped m);rw [List.length_drop,show us.length - m = N by omega] at h1;have h2 := zUD hb hl;have h3 : val ([0] : List Int) = 0 := by simp [val]
 rw [h3];omega
theorem div_down {X Y P Q Z : Nat} (hP : 0 < P) (h : X * P = Q * (Y * P) + Z) (hz : Z < Y * P) : X = Y * Q + Z / P ∧ Z / P < Y := by
 rw [← Nat.mul_assoc] at h;have h1 : Q * Y ≤ X := by
  refine Nat.le_of_mul_le_mul_right (c := P) ?_ hP;omega
 obtain ⟨R,rfl⟩ := Nat.exists_eq_add_of_le h1;rw [Nat.add_mul] at h;have h2 : Z = R * P := by omega
 subst h2;rw [Nat.mul_div_cancel _ hP];refine ⟨by rw [Nat.mul_comm Y],Nat.lt_of_mul_lt_mul_right hz⟩
theorem divMod_long {w : World} {v u : Value} {xs ys : List Int} (h : Sl w.heap.size w v xs) (h' : Sl w.heap.size w u ys) (h1 : 2 ≤ wid ys) (hge : val ys ≤ val xs) (hxl : xs.length ≤ 1099511627776) (hyl : ys.length ≤ 1099511627776) :
  Calls Try.prog 27 #[v,u] w (zqC w xs ys) := by
 have HL := least_any h';have l1 := zIA ys;have HX := hid h;have HLL := hid (length_lst ys);have HVL := hid (val_lst ys);have HWL := hid (canon_lst h'.1).1;have HGE := hid hge;have HYP := hid (zgA h'.1 (by omega));have HWY := hid h'.1;have HWX := hid h.1;generalize lst ys = L at *;obtain ⟨N,hn⟩ : ∃ N,wid ys = N + 2 := ⟨wid ys - 2,by omega⟩
 rw [hn] at HL HLL l1;have hz : (((N + 2 : Nat) : Int) == 0) = false := by rw [beq_eq_false_iff_ne];omega
 have hz1 : (((N + 2 : Nat) : Int) == 1) = false := by rw [beq_eq_false_iff_ne];omega
 have hk : N + 1 < L.length := by have := HLL.out;omega
 have htw := HWL.out.get hk;clear h h' hn hge h1;go_enter Try.func27,Try.ntmps27;go_wp2_with fail;refine HL.mono ?_;rintro e w1 ⟨rfl,hr,hb,hsz⟩;clear HL;have hsl := Row.sl (r := []) (by simpa using hr) HWL.out (cap := N + 2) (by rw [HLL.out];exact Nat.le_refl _) (by omega) hr.lt;rw [HLL.out] at hsl;have HSL := hid hsl;have HXL := hid ((HX.out.below hb (Nat.le_refl _)).mono hb.size);have HC := hid (ztD HXL.out hsl);rw [HVL.out] at HC;have hneg := zvB HGE.out;generalize cmpI (val xs) (val ys) = C at *;have HB := hid hb;have c0 : w1.cell? ⟨w.heap.size,N + 1,none⟩ = some (.int .u64 L[N + 1]) := Row.word (r := []) (by simpa using hr) hk;have HR := hid hr;clear hsl hr hb;go_wp2_with fail;refine HC.out.mono ?_;rintro e w2 ⟨rfl,hb2⟩;clear HC;have c2 : w2.cell? ⟨w.heap.size,N + 1,none⟩ = some (.int .u64 L[N + 1]) := (hb2.cell (p := ⟨w.heap.size,N + 1,none⟩) HR.out.lt).trans c0;have HB2 := hid hb2;have HSL2 := hid ((HSL.out.below hb2 (Nat.le_refl _)).mono hb2.size);have HXL2 := hid ((HXL.out.below hb2 (Nat.le_refl _)).mono hb2.size);have HLZ := hid (zpF htw w2);clear hb2 c0 HSL HXL HR;generalize L[N + 1] = t at *;obtain ⟨s,hs⟩ : ∃ s,s = 64 - bitLen t.toNat := ⟨_,rfl⟩
 rw [← hs] at HLZ;have hs64 : s ≤ 64 := by omega
 clear hs;go_wp2_with fail;refine HLZ.out.mono ?_;rintro e w2' ⟨rfl,rfl⟩;clear HLZ;have HS1 := hid (zFG HSL2.out (n := s) (by omega) (by rw [HLL.out];omega));go_wp2_with fail;refine HS1.out.mono ?_;rintro e w3 ⟨bs,vb,rfl,hob,hcb,hvb,hlb,hb3⟩;clear HS1 HSL2;have HOB := hid hob;have HB3 := hid hb3;have HCB := hid hcb;have HVB := hid hvb;have HXL3 := hid ((HXL2.out.below hb3 (Nat.le_refl _)).mono hb3.size);rw [HLL.out] at hlb;clear hob hb3 hcb hvb HXL2;have HS2 := hid (zFG HXL3.out (n := s) (by omega) (by omega));go_wp2_with fail;refine HS2.out.mono ?_;rintro e w4 ⟨us,va,rfl,hoa,hca,hva,hla,hb4⟩;clear HS2 HXL3;have hPP := Nat.two_pow_pos s;have hvL : vn L = vn ys := (zqG HWL.out HWY.out).2 HVL.out;have HXY : Hid (vn ys ≤ vn xs ∧ 0 < vn ys) := by
  have a1 := zNA HWX.out;have a2 := zNA HWY.out;have a3 := HGE.out;have a4 := HYP.out;exact ⟨by omega,by omega⟩
 have hbpos : 0 < vn bs := by rw [HVB.out,hvL];exact Nat.mul_pos HXY.out.2 hPP
 have hbn : bs ≠ [] := fun e => by subst e;simp [vn] at hbpos
 have hle : bs.length ≤ us.length := by
  refine zSA HCB.out hca ?_;rw [zNA HCB.out.1,zNA hca.1,HVB.out,hva,hvL];have := Nat.mul_le_mul_right (2 ^ s) HXY.out.1;omega
 obtain ⟨M,hM⟩ : ∃ M,bs.length = M + 1 := ⟨bs.length - 1,by have := Nat.pos_of_ne_zero (fun e => hbn (List.eq_nil_of_length_eq_zero e));omega⟩
 obtain ⟨m,hm⟩ : ∃ m,m + (M + 1) = us.length + 1 := ⟨us.length - M,by omega⟩
 have HTOP := hid (top_less hca.1 HCB.out hM hm);obtain ⟨hwa,⟨_,e2⟩ | ⟨g,r,hg,hgr,rfl,hrow⟩⟩ := hoa
 ·rw [e2] at hle;simp only [List.length_nil] at hle;omega
 have HROW := hid hrow;have HB4 := hid hb4;have HSB := hid ((HOB.out.sl.below hb4 (Nat.le_refl _)).mono (Nat.le_refl _));have HVA := hid hva;have HHB := hid (show w2'.heap.size ≤ w3.heap.size from HB3.out.size);clear hb4 hrow hva hbpos hbn;go_wp2_with (first | (refine wpList_append_one _ rfl (.tmp 63) (.tmp 64) rfl g us r 0 rfl hgr (HROW.out.alloc _) (by omega) _ rfl (by simp) ?_) | fail)
 intro g' cap' r' w5 hr5 hgg hc5 hc5m hb5;have hgw4 : g ≤ w4.heap.size := Nat.le_of_lt HROW.out.lt;have BX := hid ((((Below.refl w4.heap.size w4).alloc (Nat.le_refl _) _).mono hgw4).trans hb5.out);have HSB5 := hid (((HSB.out.mono hg).below BX.out (Nat.le_refl _)).mono hgg);have hwu : WF (us ++ [0]) := hca.1.append (WF.cons (by unfold IsW wB;omega) WF.nil);have HD := hid (divide_any (m := m) (n := M + 1) hwu hr5.out (by rw [List.length_append];simp;omega) (by omega) (by omega) hc5m HSB5.out hM (by omega) HTOP.out);rw [hm] at HD;clear hb5 HSB HSB5 HTOP;go_wp2_with fail;refine HD.out.mono ?_;rintro e w6 ⟨qs,zs,rfl,hql,hwq,hzl,hwz,hdv,hdl,hr6,hq6,hb6⟩;have hzl' : zs.length = us.length + 1 := by rw [hzl];simp
 have hg6 : g' < w6.heap.size := hr6.lt;have HQ6 := hid hq6;have HB6 := hid hb6;have HDV := hid hdv;have HDL := hid hdl;have hslz := zcD hr6 hwz (cap := cap') (by omega) (by omega) hg6;rw [hzl'] at hslz;have HSR := hid (zQF hslz (n := s) (by omega));clear HD hr6 hq6 hb6 hdv hdl hr5 hslz;go_wp2_with fail;refine HSR.out.mono ?_;rintro e w7 ⟨rs,vr,rfl,hor,hcr,hvr,hlr,hb7⟩;have hq7 : Row w7 w5.heap.size (ws qs) := HQ6.out.below hb7 HQ6.out.lt;have hslq := Row.sl (r := []) (by simpa using hq7) hwq (cap := m) (by rw [hql];exact Nat.le_refl _) (by omega) hq7.lt;rw [hql] at hslq;have HLQ := hid (zHB hslq);have HOR := hid hor;have HB7 := hid hb7;have HVR := hid hvr;clear HSR hor hb7 hvr hslq hq7 HQ6;go_wp2_with fail;refine HLQ.out.mono ?_;rintro e w8 ⟨vq,rfl,hoq,hb8⟩;have HOQ := hid hoq;have HB8 := hid hb8;clear HLQ hoq hb8;go_wp2;go_ret3;have s1 : w.heap.size ≤ w1.heap.size := Nat.le_of_lt hsz;have s2 := HB2.out.size;have s3 := HB3.out.size;have s4 := HB4.out.size;have s5 := BX.out.size;have s6 := HB6.out.size;have s7 := HB7.out.size;have hnum := div_down (X := vn xs) (Y := vn ys) (P := 2 ^ s) (Q := vn qs) (Z := vn zs) hPP (by
   have e1 : val (us ++ [0]) = val us := by rw [zfA];simp [val]
   have e2 := HDV.out;rw [e1,zNA hca.1,zNA hwq,zNA HCB.out.1,zNA hwz,HVA.out,HVB.out,hvL,← Int.natCast_mul] at e2;omega) (by
   have e2 := HDL.out;rw [zNA HCB.out.1,zNA hwz,HVB.out,hvL] at e2;omega)
 have f1 : val xs = val ys * val (lst qs) + val rs := by
  rw [val_lst,zNA HWX.out,zNA HWY.out,zNA hwq,zNA hcr.1,HVR.out,← Int.natCast_mul];have := hnum.1;omega
 have f2 : val rs < val ys := by
  rw [zNA HWY.out,zNA hcr.1,HVR.out];have := hnum.2;omega
 have f3 := HGE.out;have f4 := HYP.out;have f5 : val (lst qs) ≤ val xs := by
  have a1 := val_nonneg (canon_lst hwq).1;have a2 := val_nonneg hcr.1;have a3 := Int.mul_le_mul_of_nonneg_right (show 1 ≤ val ys by omega) a1;rw [Int.one_mul] at a3;omega
 have f6 := zSA (canon_lst hwq) (canon_lst HWX.out) (by rw [val_lst xs];exact f5);have f7 := zSA hcr (canon_lst HWX.out) (by rw [val_lst xs];omega);rw [length_lst xs] at f6 f7;have f8 := zIA xs;refine ⟨lst qs,rs,vq,vr,rfl,HOQ.out.lower (by omega),(HOR.out.lower (by omega)).stay HB8.out,canon_lst hwq,hcr,f1,f2,by omega,by omega,two_of' HOR.out HOQ.out (Nat.le_refl _),?_⟩;have q1 := HB.out;have q2 := HB2.out.mono s1;have q3 := HB3.out.mono (Nat.le_trans s1 s2);have q4 := HB4.out.mono (Nat.le_trans s1 (Nat.le_trans s2 s3));have q5 := BX.out.mono (B' := w.heap.size) (by omega);have q6 := HB6.out.mono (B' := w.heap.size) (by omega);have q7 := HB7.out.mono (B' := w.heap.size) (by omega);have q8 := HB8.out.mono (B' := w.heap.size) (by omega);exact q1.trans (q2.trans (q3.trans (q4.trans (q5.trans (q6.trans (q7.trans q8))))))
theorem zTC {w : World} {v u : Value} {xs ys : List Int} (h : Sl w.heap.size w v xs) (h' : Sl w.heap.size w u ys) (h1 : wid ys ≠ 0) (hxl : xs.length ≤ 1099511627776) (hyl : ys.length ≤ 1099511627776) :
  Calls Try.prog 27 #[v,u] w (zqC w xs ys) := by
 by_cases q : wid ys = 1
 ·exact divMod_one h h' q
 ·by_cases q2 : val xs < val ys
  ·exact divMod_less h h' (by omega) q2
  ·exact divMod_long h h' (by omega) (by omega) hxl hyl
end Go.Proofs.Ytppddlbkdoebmaa
