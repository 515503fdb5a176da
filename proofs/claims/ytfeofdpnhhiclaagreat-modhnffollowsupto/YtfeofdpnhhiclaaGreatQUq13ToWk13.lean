/-
 QUq13ToWk13: Uq13, Fp19, Mp19, Sd13, Wk13, joined.
-/
import Derived.Test.YtfeofdpnhhiclaaGreatQDt13ToSl13
import Derived.Test.YtfeofdpnhhiclaaGreatQPd19ToFw19
import Derived.Test.YtfeofdpnhhiclaaGreatQFo19ToPk13
import Derived.Test.YtfeofdpnhhiclaaGreatQVo19ToSa19
import Derived.Test.YtfeofdpnhhiclaaGreatQEach9ToOpenM9
import Derived.Test.YtfeofdpnhhiclaaGreatQZStoreToLst9

set_option maxRecDepth 100000
set_option maxHeartbeats 6400000
set_option linter.unusedVariables false
set_option linter.unusedSimpArgs false
namespace Go.Proofs.YtfeofdpnhhiclaaGreat
section
variable {A : Nat → Nat → Int} {n i : Nat} {rs cs rs' cs' : List Nat} {odd odd' : Bool}
theorem Stz.colt (h : Stz A n i rs cs odd) {k : Nat} (hk : k < rs.length) : cs.getD k 0 < n := h.cl _ (by simp [show k < cs.length by rw [h.len];exact hk])
theorem Stz.stays (h : Stz A n i rs cs odd) {r k : Nat} (hz : ∀ j,j < n → mi A (gd rs) (gd cs) k r j = 0) : ∀ d,k + d ≤ rs.length → ∀ j,j < n → mi A (gd rs) (gd cs) (k + d) r j = 0
 | 0,_,j,hj => hz j hj
 | d + 1,hd,j,hj => by
  have ih := Stz.stays h hz d (by omega);have hs := zUG A (gd rs) (gd cs) (k + d) r j (h.nz _ (by omega));rw [ih j hj,ih _ (h.colt (k := k + d) (by omega))] at hs;have hs' : dd A (gd rs) (gd cs) (k + d) * mi A (gd rs) (gd cs) (k + d + 1) r j = 0 := by rw [← hs];simp
  rcases Int.mul_eq_zero.1 hs' with q | q
  ·exact absurd q (h.nz _ (by omega))
  ·exact q
theorem Stz.noskip (h : Stz A n i rs cs odd) (h' : Stz A n i rs' cs' odd') {t : Nat} (ht : t < rs.length) (e1 : ∀ a,a < t → rs.getD a 0 = rs'.getD a 0) (e2 : ∀ a,a < t → cs.getD a 0 = cs'.getD a 0) (hb : ∀ a,t ≤ a → a < rs'.length → rs.getD t 0 < rs'.getD a 0) (hle : t ≤ rs'.length) : False := by
 have hm : rs.getD t 0 ∈ rs := by simp [ht]
 have hni : rs.getD t 0 ∉ rs' := fun hm' => by
  obtain ⟨a,ha,e⟩ := List.getElem_of_mem hm';have ea : rs'.getD a 0 = rs.getD t 0 := by simp [ha];rw [e];simp [ht]
  by_cases q : a < t
  ·have := zjH h.up q ht
   rw [e1 a q,ea] at this;omega
  ·have := hb a (by omega) ha
   omega
 obtain ⟨k,k1,k2,k3⟩ := h'.drop _ (h.lt _ hm) hni;have hkt : k ≤ t := by
  apply Classical.byContradiction
  intro q;have a1 := k2 t (by omega);have a2 := hb t (Nat.le_refl _) (by omega);omega
 have hz : ∀ j,j < n → mi A (gd rs) (gd cs) k (rs.getD t 0) j = 0 := fun j hj => by
  rw [zdB (R' := gd rs') (C' := gd cs') (fun a ha => e1 a (by omega)) (fun a ha => e2 a (by omega))];exact k3 j hj
 have h2 := h.stays hz (t - k) (by omega) (cs.getD t 0) (h.colt ht);rw [show k + (t - k) = t by omega] at h2;have h3 : mi A (gd rs) (gd cs) t (gd rs t) (gd cs t) = dd A (gd rs) (gd cs) (t + 1) := zYF A (gd rs) (gd cs) t;have h4 : mi A (gd rs) (gd cs) t (gd rs t) (gd cs t) = 0 := h2;exact h.nz (t + 1) (by omega) (by rw [← h3,h4])
theorem Stz.agree (h : Stz A n i rs cs odd) (h' : Stz A n i rs' cs' odd') : ∀ t,t ≤ rs.length → t ≤ rs'.length ∧ (∀ a,a < t → rs.getD a 0 = rs'.getD a 0) ∧ ∀ a,a < t → cs.getD a 0 = cs'.getD a 0
 | 0,_ => ⟨Nat.zero_le _,fun a ha => by omega,fun a ha => by omega⟩
 | t + 1,ht => by
  obtain ⟨g0,g1,g2⟩ := Stz.agree h h' t (by omega)
  by_cases q : t < rs'.length
  ·have er : rs.getD t 0 = rs'.getD t 0 := by
    rcases Nat.lt_trichotomy (rs.getD t 0) (rs'.getD t 0) with c | c | c
    ·refine (h.noskip h' (by omega) g1 g2 (fun a ha hl => ?_) g0).elim
     by_cases e : a = t
     ·subst e;exact c
     ·have := zjH h'.up (show t < a by omega) hl;omega
    ·exact c
    ·refine (h'.noskip h q (fun a ha => (g1 a ha).symm) (fun a ha => (g2 a ha).symm) (fun a ha hl => ?_) (by omega)).elim
     by_cases e : a = t
     ·subst e;exact c
     ·have := zjH h.up (show t < a by omega) hl;omega
   have em : ∀ j,mi A (gd rs) (gd cs) t (rs.getD t 0) j = mi A (gd rs') (gd cs') t (rs'.getD t 0) j := fun j => by rw [er];exact zdB g1 g2 _ _
   have ec : cs.getD t 0 = cs'.getD t 0 := by
    have n1 : mi A (gd rs) (gd cs) t (rs.getD t 0) (cs.getD t 0) ≠ 0 := by
     have := zYF A (gd rs) (gd cs) t;have h2 := h.nz (t + 1) (by omega);rw [← this] at h2;exact h2
    have n2 : mi A (gd rs') (gd cs') t (rs'.getD t 0) (cs'.getD t 0) ≠ 0 := by
     have := zYF A (gd rs') (gd cs') t;have h2 := h'.nz (t + 1) (by omega);rw [← this] at h2;exact h2
    rcases Nat.lt_trichotomy (cs.getD t 0) (cs'.getD t 0) with c | c | c
    ·have := h'.low t _ q c
     rw [← em] at this;exact absurd this n1
    ·exact c
    ·have := h.low t _ (by omega) c
     rw [em] at this;exact absurd this n2
   refine ⟨by omega,fun a ha => ?_,fun a ha => ?_⟩
   ·by_cases e : a = t
    ·subst e;exact er
    ·exact g1 a (by omega)
   ·by_cases e : a = t
    ·subst e;exact ec
    ·exact g2 a (by omega)
  ·exact (h.noskip h' (by omega) g1 g2 (fun a ha hl => by omega) g0).elim
theorem Stz.unique (h : Stz A n i rs cs odd) (h' : Stz A n i rs' cs' odd') : rs = rs' ∧ cs = cs' := by
 obtain ⟨a1,a2,a3⟩ := h.agree h' rs.length (Nat.le_refl _);obtain ⟨b1,-,-⟩ := h'.agree h rs'.length (Nat.le_refl _);have hl : rs.length = rs'.length := by omega
 have hc : cs.length = cs'.length := by rw [h.len,h'.len,hl]
 refine ⟨List.ext_getElem hl fun j h1 h2 => ?_,List.ext_getElem hc fun j h1 h2 => ?_⟩
 ·have := a2 j h1
  simpa [h1,h2] using this
 ·have := a3 j (by rw [← h.len];exact h1)
  simpa [h1,h2] using this
end
open Go.RowKit
theorem ziE {r c : Nat} {zs : List Int} {rs0 cs0 rs cs : List Nat} {o0 o : Bool} (h0 : Stz (en c zs) c r rs0 cs0 o0) (hl : rs0.length = c) (h : Stz (en c zs) c r rs cs o) : srt cs = List.range c ∧ cs.length = c := by
 obtain ⟨-,e2⟩ := h0.unique h;have hc : cs.length = c := by rw [← e2,h0.len,hl]
 exact ⟨zKE h hc,hc⟩
theorem zRE {A : Nat → Nat → Int} {n i : Nat} {rs cs rs' cs' : List Nat} {o o' : Bool} (h : Stz A n i rs cs o) (h' : Stz A n i rs' cs' o') : detS A rs cs o = detS A rs' cs' o' := by
 obtain ⟨e1,e2⟩ := h.unique h';rw [h.core,h'.core,e1,e2]
theorem zyF {r c : Nat} {zs : List Int} {cs : List Nat} {H : Nat → Nat → Int} {D : Int} (e : srt cs = List.range c) (hH : Hb19 (srt cs).length H (Md19 r (srt cs).length (en (srt cs).length (zKB r c zs (List.range r) (srt cs))) D)) : Hb19 c H (Md19 r c (en c zs) D) := by
 rw [e,List.length_range] at hH;refine ⟨hH.rd,fun v => Iff.trans ?_ (hH.lat v)⟩;refine Md19.congr (fun i j hi hj => ?_) v;have := pick_en (r := r) (c := c) (zs := zs) (is := List.range r) (js := List.range c) (a := i) (b := j) (fun i hi => by simpa using hi) (fun j hj => by simpa using hj) (by simpa using hi) (by simpa using hj);rw [List.length_range] at this;rw [this];simp [List.getD,hi,hj]
theorem zdG {r c : Nat} {A H Y : Nat → Nat → Int} {D E : Int} (hH : Hb19 c H (Md19 r c A D)) (hY : Hb19 c Y (Md19 r c A E)) (e : D = E) : zF c c Y = zF c c H := by
 subst e;exact zhF fun i j hi hj => hY.one hH (fun v => Iff.rfl) i j hi hj
theorem getD_set19 {l : List Int} {i : Nat} (hi : i < l.length) (p : Nat) (x : Int) : (l.set i x).getD p 0 = if p = i then x else l.getD p 0 := by
 by_cases q : p = i
 ·subst q;simp [List.getD,hi]
 ·rw [if_neg q];simp [List.getD,List.getElem?_set_ne (Ne.symm q)]
theorem zGF {c : Nat} {zp zs : List Int} {i : Nat} : ∀ t,t ≤ c → i * c + t ≤ zs.length → ∀ p,(zAC c c (List.range c) zp i zs t).getD p 0 = if i * c ≤ p ∧ p < i * c + t then zp.getD p 0 else zs.getD p 0
 | 0,_,_,p => by rw [if_neg (by omega)];rfl
 | t + 1,ht,hl,p => by
  have e : (List.range c).getD t 0 = t := by simp [List.getD,show t < c by omega]
  rw [zAC,e];have hlen := zGC c c (List.range c) zp i zs t;have ih := zGF (c := c) (zp := zp) (zs := zs) (i := i) t (by omega) (by omega) p;rw [getD_set19 (by omega),ih]
  by_cases q : p = i * c + t
  ·subst q
   rw [if_pos rfl,if_pos (by omega)]
  ·rw [if_neg q]
   by_cases q2 : i * c ≤ p ∧ p < i * c + t
   ·rw [if_pos q2,if_pos (by omega)]
   ·rw [if_neg q2,if_neg (by omega)]
theorem zHF {c : Nat} {zp zs : List Int} : ∀ i,i * c ≤ zs.length → ∀ p,(zBB c c (List.range c) zp zs i).getD p 0 = if p < i * c then zp.getD p 0 else zs.getD p 0
 | 0,_,p => by simp [zBB]
 | i + 1,hl,p => by
  have e : (i + 1) * c = i * c + c := by rw [Nat.add_mul,Nat.one_mul]
  rw [e] at hl ⊢;rw [zBB,zGF c (Nat.le_refl _) (by rw [zDB];exact hl),zHF i (by omega)]
  by_cases q : i * c ≤ p ∧ p < i * c + c
  ·rw [if_pos q,if_pos (by omega)]
  ·rw [if_neg q]
   by_cases q2 : p < i * c
   ·rw [if_pos q2,if_pos (by omega)]
   ·rw [if_neg q2,if_neg (by omega)]
theorem lay_top19 {r c : Nat} {H : Nat → Nat → Int} (h : c ≤ r) : (zBB c c (List.range c) (zF c c H) (List.replicate (r * c) 0) c).take (c * c) = zF c c H := by
 have hcr : c * c ≤ r * c := Nat.mul_le_mul_right c h;have hl : (zBB c c (List.range c) (zF c c H) (List.replicate (r * c) 0) c).length = r * c := by rw [zDB];simp
 apply List.ext_getElem
 ·rw [List.length_take,hl,zGD];omega
 ·intro p h1 h2
  rw [zGD] at h2;have q := zHF (zp := zF c c H) (zs := List.replicate (r * c) 0) c (by simpa using hcr) p;rw [if_pos h2,List.getD_eq_getElem?_getD,List.getD_eq_getElem?_getD,List.getElem?_eq_getElem (by omega),List.getElem?_eq_getElem (by rw [zGD];exact h2)] at q
  simpa using q
theorem zLE {r c a : Nat} {A H : Nat → Nat → Int} {D : Int} (hH : Hb19 c H (Md19 r c A D)) (h0 : 0 < D) (hD : D < pw a) : ∀ i,i ≤ c → zyA H i < pw (i * a + 1)
 | 0,_ => by show (1 : Int) < pw (0 * a + 1);rw [pw13,Nat.zero_mul];decide
 | i + 1,hi => by
  have ih := zLE hH h0 hD i (by omega);have hp := hH.rd.tri.piv i (by omega);have hle : H i i ≤ D := by
   obtain ⟨z,hz⟩ := (hH.lat _).1 (zWG A D (dlz i));have e := hH.rd.tri.at hz (c := i) (by omega) fun j hj => by simp [dlz,show ¬ i = j by omega]
   have e2 : D = z i * H i i := by simpa [dlz] using e
   have hz1 : 0 < z i := Int.pos_of_mul_pos_left (by rw [← e2];exact h0) hp;have := Int.mul_le_mul_of_nonneg_right (show 1 ≤ z i by omega) (Int.le_of_lt hp);omega
  show zyA H i * H i i < pw ((i + 1) * a + 1)
  have e : pw ((i + 1) * a + 1) = pw (i * a + 1) * pw a := by
   rw [pw13,pw13,pw13,← Int.natCast_mul,← Nat.pow_add]
   congr 2
   rw [Nat.add_mul];omega
  rw [e];have hd := zpC hH.rd.tri i (by omega);have h1 : zyA H i * H i i ≤ zyA H i * D := Int.mul_le_mul_of_nonneg_left hle (Int.le_of_lt hd);have h2 : zyA H i * D < pw (i * a + 1) * D := Int.mul_lt_mul_of_pos_right ih h0;have h3 : pw (i * a + 1) * D ≤ pw (i * a + 1) * pw a := Int.mul_le_mul_of_nonneg_left (Int.le_of_lt hD) (by omega);omega
theorem pw_mono19 {x y : Nat} (h : x ≤ y) : pw x ≤ pw y := by
 rw [pw13,pw13];exact Int.ofNat_le.2 (Nat.pow_le_pow_right (by omega) (by omega))
theorem detS_ne19 {A : Nat → Nat → Int} {n i : Nat} {rs cs : List Nat} {o : Bool} (h : Stz A n i rs cs o) : detS A rs cs o ≠ 0 := by
 unfold detS;exact Int.mul_ne_zero (by cases o <;> simp [sgb]) (h.nz rs.length (Nat.le_refl _))
theorem Mc.top19 {w : World} {r c n k l : Nat} {a : Option Addr} {cap : Nat} {zs : List Int} (h : Mc w (.agg #[.int .i64 (r : Int),.int .i64 (c : Int),.slice a l cap]) r c zs k) (hn : n ≤ r) : Mc w (.agg #[.int .i64 (n : Int),.int .i64 (c : Int),.slice a (n * c) cap]) n c (zs.take (n * c)) k := by
 obtain ⟨at_,ps,e,hP,hZ,hL,hr,hc⟩ := h;simp only [Value.agg.injEq,Array.mk.injEq,List.cons.injEq,and_true,true_and] at e;subst e;have hm : n * c ≤ r * c := Nat.mul_le_mul_right c hn;have hpl : ps.length = r * c := by rw [hZ.1,hL]
 refine ⟨_,ps.take (n * c),rfl,?_,⟨by simp [hZ.1],fun j p z hp hz => ?_⟩,by rw [List.length_take,hL];omega,by omega,hc⟩
 ·obtain ⟨a0,c0,h1,h2,h3,hx,h4⟩ := hP
  simp only [Value.slice.injEq] at h1;obtain ⟨rfl,rfl,rfl⟩ := h1;have hlt : (ps.take (n * c)).length = n * c := by rw [List.length_take];omega
  refine ⟨a,cap,by rw [hlt],by rw [hlt];omega,by rw [hlt];omega,hx,?_⟩;rcases h4 with h4 | ⟨b,off,h5,h5',h6,h7⟩
  ·exact .inl (by rw [h4];simp)
  ·refine .inr ⟨b,off,h5,h5',h6,fun i p hp => h7 i p ?_⟩
   rw [List.getElem?_take] at hp
   split at hp
   ·exact hp
   ·simp at hp
 ·rw [List.getElem?_take] at hp hz
  split at hp
  ·rename_i q
   rw [if_pos q] at hz;exact hZ.2 j p z hp hz
  ·simp at hp
def zJI (w : World) (r c : Nat) (zs : List Int) (k : Nat) (e : Ending) (w' : World) : Prop :=
 ∃ rs cs odd n a l cc,e = .returned (.tuple #[.agg #[.bool n,.slice a l cc],.int .i64 0]) ∧ Stz (en c zs) c r rs cs odd ∧ Zm 0 w' (.agg #[.bool n,.slice a l cc]) ((detS (en c zs) rs cs odd).natAbs : Int) (64 * k + 7) ∧ Below w.heap.size w w'
theorem multiple19 {w : World} {v : Value} {r c k : Nat} {zs : List Int} (hm : Mx w v r c zs k) (hk : k ≤ 4000000000) : Calls Tryz.prog 19 #[v] w (zJI w r c zs k) := by
 have M0 := hid hm;have HZA : Hid (∀ z ∈ zs,(z.natAbs : Int) < pw k) := by obtain ⟨_,_,_,_,h,_⟩ := hm;exact h.lt
 have HZL : Hid (zs.length = r * c) := by obtain ⟨_,_,_,_,_,h,_⟩ := hm;exact h
 obtain ⟨aa,ca,rfl,hr64,hc64⟩ := hm.form;obtain ⟨la,hla⟩ : ∃ la,r * c = la := ⟨_,rfl⟩
 rw [hla] at M0 ⊢;obtain ⟨W0,hW⟩ : ∃ W0,(w.alloc (matO r c (.slice aa la ca))).alloc zbox = W0 := ⟨_,rfl⟩
 obtain ⟨b0,sz0⟩ := zcA w (matO r c (.slice aa la ca)) zbox;rw [hW] at b0 sz0;have pa : Cel W0 w.heap.size 24 (matc r c (.slice aa la ca)) := by
  rw [← hW];exact (Cel.new w 24 (matc r c (.slice aa la ca))).step ((Below.refl _ _).alloc (Nat.le_refl _) _)
 have pR : Duo W0 (w.heap.size + 1) (.bool false) (.slice none 0 0) := by rw [← hW];exact zGA (by simp)
 replace M0 := hid (M0.out.now b0);have HC := hid (zlE M0.out (by omega));have x0 := pa.at (i := 0) rfl;have x1 := pa.at (i := 1) rfl;have x2 := pa.at (i := 2) rfl;rw [← hW] at x0 x1 x2;have PR := hid pR;have G0 := hid b0;have EW := hid hW;have SZ := hid sz0;have HK := hid hk;clear hm hk b0 sz0 hW pa pR hla;go_enter Tryz.func19,Tryz.ntmps19;go_wp2_with fail;rw [EW.out];clear EW x0 x1 x2;refine HC.out.mono ?_;rintro e w1 ⟨rs,cs,odd,ra,rl,rcap,ga,gl,gcap,n,a,l,cc,rfl,hst,hi1,hi2,hz,b⟩;obtain ⟨V2,hV⟩ : ∃ V2,w1.alloc (.cells #[.int .i64 (r : Int),.int .i64 (c : Int),.slice aa la ca,.slice ra rl rcap,.slice ga gl gcap,.bool n,.slice a l cc] 71) = V2 := ⟨_,rfl⟩
 obtain ⟨b2,sz2⟩ := alo1 w1 (.cells #[.int .i64 (r : Int),.int .i64 (c : Int),.slice aa la ca,.slice ra rl rcap,.slice ga gl gcap,.bool n,.slice a l cc] 71);rw [hV] at b2 sz2;have D2 : Cel V2 w1.heap.size 71 [.int .i64 (r : Int),.int .i64 (c : Int),.slice aa la ca,.slice ra rl rcap,.slice ga gl gcap,.bool n,.slice a l cc] := by rw [← hV];exact Cel.new w1 _ _
 have bb := below_step b b2;have PR2 := hid (PR.out.step bb);have G2 := hid (below_step G0.out bb);have HB := hid (zpG (hz.now b2).zi);have y0 := D2.at (i := 0) rfl;have y1 := D2.at (i := 1) rfl;have y2 := D2.at (i := 2) rfl;have y3 := D2.at (i := 3) rfl;have y4 := D2.at (i := 4) rfl;have y5 := D2.at (i := 5) rfl;have y6 := D2.at (i := 6) rfl;rw [← hV] at y0 y1 y2 y3 y4 y5 y6;have HST := hid hst;have EV := hid hV;clear HC hst hi1 hi2 hz b b2 sz2 hV D2 bb M0 PR G0;go_wp2_with fail;rw [EV.out];clear EV y0 y1 y2 y3 y4 y5 y6;refine HB.out.mono ?_;rintro e w4 ⟨rv,rfl,mv,b⟩;obtain ⟨nv,xv,av,cv,rfl⟩ := mv.parts;have R4 := hid (PR2.out.step b);have r0 := R4.out.c0;have r1 := R4.out.c1;have r2 := R4.out.fz 0;have r3 := R4.out.fz 1;have hsz := SZ.out;have FF : Hid (zJI w r c zs k (.returned (.tuple #[.agg #[.bool nv,.slice av xv.length cv],.int .i64 0])) ((w4.setCell ⟨w.heap.size + 1,0,none⟩ (.bool nv)).setCell ⟨w.heap.size + 1,1,none⟩ (.slice av xv.length cv))) :=
  ⟨rs,cs,odd,nv,av,xv.length,cv,rfl,HST.out,(mv.mono (Nat.zero_le _)).ty (R4.out.ty13 (.bool nv) (.slice av xv.length cv)) (by decide),bset (bset (below_step G2.out b) (by omega)) (by omega)⟩
 clear HB mv b PR2 G2 hsz HST;go_wp2;exact bodyPost_ret (zBE Tryz.results19 (R4.out.set _ _) _ (by rfl) (by rfl)) rfl FF.out
theorem snd13 {r c : Int} {l : Nat} (h : Snd r c l) : ∃ a b : Nat,r = (a : Int) ∧ c = (b : Int) := by
 obtain ⟨h1,h2,h3,h4,h5⟩ := h;exact ⟨r.toNat,c.toNat,by omega,by omega⟩
theorem Raw.mx13 {w : World} {v : Value} {r c : Nat} {l : Nat} {zs : List Int} (h : Raw w v (r : Int) (c : Int) l zs) (hs : Snd (r : Int) (c : Int) l) : Mx w v r c zs 1048576 ∧ l = r * c := ⟨h.mx hs,by have := hs.2.2.2.2;exact Int.ofNat.inj this⟩
theorem core_un {w : World} {r c : Int} {a : Option Addr} {l cap : Nat} (h : ¬ Snd r c l) : Calls Tryz.prog 37 #[.agg #[.int .i64 r,.int .i64 c,.slice a l cap]] w fun e w' => e = .returned (.tuple #[.slice none 0 0,.slice none 0 0,.agg #[.bool false,.slice none 0 0],.int .i64 1]) ∧ Below w.heap.size w w' := by
 obtain ⟨W0,hW⟩ : ∃ W0,(w.alloc (.cells #[.int .i64 r,.int .i64 c,.slice a l cap] 24)).alloc zbox = W0 := ⟨_,rfl⟩
 obtain ⟨b0,sz0⟩ := zcA w (.cells #[.int .i64 r,.int .i64 c,.slice a l cap] 24) zbox;rw [hW] at b0 sz0;have PR : Hid (Duo W0 (w.heap.size + 1) (.bool false) (.slice none 0 0)) := by
  unfold Hid;rw [← hW];have := Duo.new (w.alloc (.cells #[.int .i64 r,.int .i64 c,.slice a l cap] 24)) (.bool false) (.slice none 0 0)
  simpa using this
 have HC := hid (check_no (w := W0) (a := a) (cap := cap) h);have G := hid b0;have EW := hid hW;clear h b0 sz0 hW;go_enter Tryz.func37,Tryz.ntmps37;go_wp2_with fail;rw [EW.out];refine HC.out.mono ?_;rintro e w1 ⟨rfl,b⟩;have PR1 := hid (PR.out.step b);have r0 := PR1.out.c0;have r1 := PR1.out.c1;have f0 := PR1.out.fz 0;have f1 := PR1.out.fz 1;have FIN : Hid (Below w.heap.size w ((w1.setCell ⟨w.heap.size + 1,0,none⟩ (.bool false)).setCell ⟨w.heap.size + 1,1,none⟩ (.slice none 0 0))) := bset (bset (below_step G.out b) (by omega)) (by omega);have D2 := hid (PR1.out.set (.bool false) (.slice none 0 0));have z0 := D2.out.c0;have z1 := D2.out.c1;clear HC b;go_wp2_with fail;exact bodyPost_ret (by simp [results,Tryz.results37,go_sem,z0,z1]) rfl ⟨rfl,FIN.out⟩
theorem rank_un {w : World} {r c : Int} {a : Option Addr} {l cap : Nat} (h : ¬ Snd r c l) : Calls Tryz.prog 17 #[.agg #[.int .i64 r,.int .i64 c,.slice a l cap]] w fun e w' => e = .returned (.tuple #[.int .i64 0,.int .i64 1]) ∧ Below w.heap.size w w' := by
 obtain ⟨W0,hW⟩ : ∃ W0,w.alloc (.cells #[.int .i64 r,.int .i64 c,.slice a l cap] 24) = W0 := ⟨_,rfl⟩
 obtain ⟨b0,sz0⟩ := alo1 w (.cells #[.int .i64 r,.int .i64 c,.slice a l cap] 24);rw [hW] at b0 sz0;have HC := hid (core_un (w := W0) (a := a) (cap := cap) h);have G := hid b0;have EW := hid hW;clear h b0 sz0 hW;go_enter Tryz.func17,Tryz.ntmps17;go_wp2_with fail;rw [EW.out];refine HC.out.mono ?_;rintro e w1 ⟨rfl,b⟩;have FIN : Hid (Below w.heap.size w (w1.alloc (.cells #[.bool false,.slice none 0 0] 27))) := below_step (below_step G.out b) ((Below.refl _ _).alloc (Nat.le_refl _) _);clear HC b;go_wp2;go_ret2;exact ⟨rfl,FIN.out⟩
end Go.Proofs.YtfeofdpnhhiclaaGreat
