/-
 QSo13ToDt13: So13, Ints9, De13, Dt13, joined.
-/
import Derived.Test.YtffkmeocmjohmaaGreatQCl13
import Derived.Test.YtffkmeocmjohmaaGreatQEach9ToLeastA9

set_option maxRecDepth 100000
set_option maxHeartbeats 6400000
set_option linter.unusedVariables false
set_option linter.unusedSimpArgs false
namespace Go.Proofs.YtffkmeocmjohmaaGreat
open Go.RowKit Go.Shelf
attribute [local go_sem] Oper.semAt_some
def en (c : Nat) (zs : List Int) : Nat → Nat → Int := fun i j => zs.getD (i * c + j) 0
theorem en_row {r c i : Nat} {zs : List Int} (hl : zs.length = r * c) (hi : i < r) : zOB (zoE r c zs) i = (List.range c).map (en c zs i) := by
 rw [zXD hi];have hm : i * c + c ≤ r * c := by
  have := Nat.mul_le_mul_right c (show i + 1 ≤ r from hi);rw [Nat.succ_mul] at this;exact this
 apply List.ext_getElem
 ·simp;omega
 ·intro j h1 h2
  have hj : j < c := by simpa using h2
  simp [en,show i * c + j < zs.length by omega]
theorem pw13 : ∀ k,pw k = ((2 ^ (64 * k) : Nat) : Int)
 | 0 => by simp [pw]
 | k + 1 => by
  rw [pw,pw13 k,show 64 * (k + 1) = 64 + 64 * k by omega,Nat.pow_add,Int.natCast_mul]
  rfl
theorem en_abs {c k : Nat} {zs : List Int} (h : ∀ z ∈ zs,(z.natAbs : Int) < pw k) (i j : Nat) : (en c zs i j).natAbs ≤ 2 ^ (64 * k) := by
 unfold en
 by_cases q : i * c + j < zs.length
 ·have hm : zs.getD (i * c + j) 0 ∈ zs := by simp [q]
  have := h _ hm;have e := pw13 k;rw [e] at this;omega
 ·simp [q]
theorem fits_of {c k : Nat} {zs : List Int} {rs cs : List Nat} (h : ∀ z ∈ zs,(z.natAbs : Int) < pw k) (hr : rs.length ≤ 63) : Fits (en c zs) rs cs (64 * k + 7) := fun t r j ht => by
 have h1 := mi_abs (A := en c zs) (X := 2 ^ (64 * k)) (N := 64) (gd rs) (gd cs) (k := t) (r := r) (j := j) (by omega) (en_abs h);have h2 : (64 * 2 ^ (64 * k)) ^ (t + 1) ≤ (64 * 2 ^ (64 * k)) ^ 64 := Nat.pow_le_pow_right (by have := Nat.two_pow_pos (64 * k);omega) (by omega);have h3 : (64 * 2 ^ (64 * k)) ^ 64 = 2 ^ (384 + 64 * k * 64) := by
  rw [show (64 : Nat) = 2 ^ 6 from rfl,← Nat.pow_add,← Nat.pow_mul]
  congr 1
  omega
 have h4 : 2 ^ (384 + 64 * k * 64) < 2 ^ (64 * (64 * k + 7)) := Nat.pow_lt_pow_right (by omega) (by omega);have e := pw13 (64 * k + 7);rw [e];omega
theorem Zis.lt {w : World} {ps : List (Value × Value)} {zs : List Int} {k : Nat} (h : Zis w ps zs k) : ∀ z ∈ zs,(z.natAbs : Int) < pw k := fun z hz => by
 obtain ⟨j,hj,e⟩ := List.getElem_of_mem hz;exact (h.2 j _ z (List.getElem?_eq_getElem (by rw [h.1];exact hj)) (by rw [List.getElem?_eq_getElem hj,e])).lt
def SoJ (w : World) (Bs Bp c r kw : Nat) (zs : List Int) (s : Nat × List Nat) (W : World) : Prop :=
 ∃ rs cs odd ks,Srs (en c zs) s.1 W Bs c rs cs odd ks kw ∧ Stz (en c zs) c s.2.length rs cs odd ∧ (∀ x ∈ ks,x ∈ s.2) ∧ (∀ x ∈ s.2,x < W.heap.size) ∧ Cel W Bp 103 [.pointer (some ⟨Bs,0,none⟩)] ∧ s.2.length ≤ r ∧ Below w.heap.size w W ∧ Bp < s.1 ∧ Bs < s.1
theorem SoJ.own {w : World} {Bs Bp c r kw B : Nat} {zs : List Int} (hB : w.heap.size ≤ B) : OwnFrom B (SoJ w Bs Bp c r kw zs) := fun s W W' row hs hg hr => by
 obtain ⟨rs,cs,odd,ks,h1,h2,h3,h4,h5,h6,h7,h8⟩ := hs;have hk := zZC hg (fun r e => (hr r e).2);exact ⟨rs,cs,odd,ks,h1.kc hk,h2,h3,fun x hx => Nat.lt_of_lt_of_le (h4 x hx) hk.1,hk.cel h5,h6,h7.grown hg h7.size (fun k e => Nat.le_trans hB (hr k e).1),h8⟩
def zeH (w : World) (r c : Nat) (zs : List Int) (kw : Nat) (e : Ending) (w' : World) : Prop :=
 ∃ Bs B rs cs odd ks,e = .returned (.pointer (some ⟨Bs,0,none⟩)) ∧ Srs (en c zs) B w' Bs c rs cs odd ks kw ∧ Stz (en c zs) c r rs cs odd ∧ w.heap.size ≤ Bs ∧ w.heap.size ≤ B ∧ Below w.heap.size w w'
theorem stairsOf_any {w : World} {v : Value} {r c : Nat} {zs : List Int} {k : Nat} (h : Mx w v r c zs k) (hk : k ≤ 4000000000) : Calls Tryz.prog 66 #[v] w (zeH w r c zs (64 * k + 7)) := by
 have M0 := hid h;refine (callsIn_wide (n := 5)).1 ?_;have HZA : Hid (∀ z ∈ zs,(z.natAbs : Int) < pw k) := by obtain ⟨_,_,_,_,h,_⟩ := h;exact h.lt
 obtain ⟨aa,ca,rfl,hr,hc⟩ := h.form;have HZL : Hid (zs.length = r * c) := by obtain ⟨_,_,_,_,_,h,_⟩ := h;exact h
 obtain ⟨la,hla⟩ : ∃ la,r * c = la := ⟨_,rfl⟩
 rw [hla] at M0 ⊢;obtain ⟨W0,hW⟩ : ∃ W0,((w.alloc (matO r c (.slice aa la ca))).alloc (.cells #[.slice none 0 0,.slice none 0 0,.slice none 0 0,.bool false] 106)).alloc (.cells #[.pointer (some ⟨w.heap.size + 1,0,none⟩)] 103) = W0 := ⟨_,rfl⟩
 obtain ⟨b0,sz0⟩ := ztA w (matO r c (.slice aa la ca)) (.cells #[.slice none 0 0,.slice none 0 0,.slice none 0 0,.bool false] 106) (.cells #[.pointer (some ⟨w.heap.size + 1,0,none⟩)] 103);rw [hW] at b0 sz0;have pa : Cel W0 w.heap.size 35 (matc r c (.slice aa la ca)) := by
  rw [← hW];exact ((Cel.new w 35 (matc r c (.slice aa la ca))).step ((Below.refl _ _).alloc (Nat.le_refl _) _)).step ((Below.refl _ _).alloc (Nat.le_refl _) _)
 have PS : Hid (Cel W0 (w.heap.size + 1) 106 [.slice none 0 0,.slice none 0 0,.slice none 0 0,.bool false]) := by
  unfold Hid;rw [← hW];have := (Cel.new (w.alloc (matO r c (.slice aa la ca))) 106 [.slice none 0 0,.slice none 0 0,.slice none 0 0,.bool false]).step ((Below.refl _ _).alloc (Nat.le_refl _) (.cells #[.pointer (some ⟨w.heap.size + 1,0,none⟩)] 103))
  simpa using this
 have PP : Hid (Cel W0 (w.heap.size + 1 + 1) 103 [.pointer (some ⟨w.heap.size + 1,0,none⟩)]) := by
  unfold Hid;rw [← hW];have := Cel.new ((w.alloc (matO r c (.slice aa la ca))).alloc (.cells #[.slice none 0 0,.slice none 0 0,.slice none 0 0,.bool false] 106)) 103 [.pointer (some ⟨w.heap.size + 1,0,none⟩)]
  simpa using this
 have HLI := hid (lines_yes (M0.out.now b0));have x0 := pa.at (i := 0) rfl;have x1 := pa.at (i := 1) rfl;have x2 := pa.at (i := 2) rfl;rw [← hW] at x0 x1 x2;have G0 := hid b0;have EW := hid hW;have SZ := hid sz0;have HKK := hid hk;clear h hla b0 sz0 hW pa M0 hk;refine callsIn_of_wp_marks Tryz.func66 rfl trivial ?_ rfl;simp only [Tryz.ntmps66,List.size_toArray,List.length_cons,List.length_nil,Nat.reduceAdd,Nat.reduceSub,Array.replicate_succ,Array.replicate_zero,List.push_toArray,List.append_toArray,List.nil_append,List.cons_append];gi_wp2_with fail;rw [EW.out];clear EW;refine ⟨trivial,(callsIn_wide.2 HLI.out).mono ?_⟩;rintro e w1 ⟨Bm,ga,ps,rfl,q1,q2,q3,q4,q5,b⟩;have HQ3 := hid q3;have HQ5 := hid q5;have HB1 := hid b;have HQ1 := hid q1;have G1 := hid (zAA G0.out b);replace PS := hid (PS.out.step b);replace PP := hid (PP.out.step b);have hs1 := b.size;have hsz := SZ.out;clear q1 q3 q5 b x0 x1 x2 HLI G0;gi_wp2_with fail;have hml : (zoE r c zs).length = r := zyC;refine zzH (σ := Nat × List Nat) (α := Nat × Nat) (by decide) rfl (enters_of Tryz.func118 (by kernel_rfl) rfl) (encL c) (fun _ => rfl)
  (SoJ w (w.heap.size + 1) (w.heap.size + 1 + 1) c r (64 * k + 7) zs) (SoJ.own (by omega)) (AtL k (zoE r c zs)) (fun s x => AtL.own s x) (fun s x => (s.1,s.2 ++ [x.2]))
  (fun s => KpL (· = w.heap.size + 1) s.1) (fun h h' => h.trans h') (fun s W l o o' _ h1 h2 => KpL.put h1 h2) (fun s => s.2 = [] ∧ w.heap.size + 1 + 1 < s.1) (fun s => s.2.length = r) ?ini ?it (fun x => { tmps := #[matv r c (.slice aa la ca),.pointer (some ⟨w.heap.size,0,none⟩),.pointer none,.pointer (some ⟨w.heap.size + 1 + 1,0,none⟩),.int .i64 (x.1 : Int),.slice (some ⟨x.2,0,none⟩) c c,.agg #[.slice none 0 0,.slice none 0 0,.slice none 0 0,.bool false],.pointer (some ⟨w.heap.size + 1,0,none⟩),.agg #[.int .i64 (r : Int),.int .i64 (c : Int),.slice aa la ca],.func (.func 118) #[] #[.pointer (some ⟨Bm,0,none⟩)],.int .i64 (x.1 : Int),.slice (some ⟨x.2,0,none⟩) c c,undef,undef,undef,undef,undef],defers := [] }) ?assign ?body ?done
 case ini =>
  rintro ⟨B,gs⟩ ⟨rfl,hB⟩;exact ⟨[],[],false,[],⟨_,_,_,PS.out,Ivs.nil _ _,Ivs.nil _ _,ShtM.nil _ _ _ _,fun b h => by cases h⟩,Stz.start _,fun x h => by simp at h,fun x h => by simp at h,PP.out,Nat.zero_le _,G1.out,hB,by omega⟩
 case it =>
  intro l J' W hW hJ hJb hJ0 hY;have c1 : Cel W Bm 35 (matc r c (.slice (some ⟨ga,0,none⟩) (r * c) (r * c))) := HQ1.out.step hW;have ar := HQ3.out.step hW;have zr := HQ5.out.now hW;have hrc : r * c ≤ 64 * 64 := Nat.mul_le_mul hr hc;have pr : Prs (w.heap.size + 1 + 1) W (.slice (some ⟨ga,0,none⟩) (r * c) (r * c)) ps := by
   have := ar.prs (B := w.heap.size + 1 + 1) (by omega) (by omega) (cap := r * c) (by omega);rw [q4] at this;exact this
  refine (lines1_in (by decide) J' c1 pr q4 zr.zis hr hc hJb (fun B hB => hJ0 _ ⟨rfl,by have := hW.size;omega⟩) (fun s A h => by
   obtain ⟨_,_,_,_,_,_,_,h4,_⟩ := hJ s A h;exact h4) (by have := hW.size;omega) (fun b off x hs e => ?_) (fun b hs => Nat.le_of_eq hs) (fun s x X h1 h2 _ => hY s x X h1 h2)).mono (fun e Y h => h)
  have hs' : b = w.heap.size + 1 := hs;subst hs';have d := PS.out.step hW
  match off,e with
  | 0,e => rw [d.at (i := 0) rfl] at e;simp at e
  | 1,e => rw [d.at (i := 1) rfl] at e;simp at e
  | 2,e => rw [d.at (i := 2) rfl] at e;simp at e
  | 3,e => rw [d.at (i := 3) rfl] at e;simp at e
  | off + 4,e => simp [World.cell?,show W.heap[w.heap.size + 1]? = _ from d] at e
 case assign =>
  intro l x W K hK;have HKK := hid hK;clear hK;gi_wp2;exact HKK.out
 case body =>
  rintro l ⟨B,gs⟩ ⟨t,gx⟩ W ⟨rs,cs,odd,ks,h1,h2,h3,h4,h5,h6,h7,h8,h9⟩ ⟨k1,k2,k3,k4,k5,ps',k6,k7⟩;dsimp only at k1 k2 k3 k4 k5 k6 k7 h1 h2 h3 h4 h6 h8 h9 ⊢;subst k1;have hgr : gs.length < r := by omega
  rw [en_row HZL.out hgr] at k7;have hrl : rs.length ≤ gs.length := by
   have : rs.length ≤ (List.range gs.length).length := List.Nodup.length_le_of_subset (h2.up.imp fun hab => Nat.ne_of_lt hab) fun r hr => by simpa using h2.lt r hr
   simpa using this
  have hgk : ∀ x ∈ ks,x ≠ gx := fun x hx => k5 x (h3 x hx)
  have HC := hid (climb_any h1 h2 k6 (k7.more (show k ≤ 64 * k + 7 by omega)) hgk k3 (fits_of HZA.out (by omega)) (by omega) (by have := HKK.out;omega) hc (show gs.length < 64 by omega));have y0 := h5.at (i := 0) rfl;have FIN : Hid (∀ e Y,zfE (en c zs) B W (w.heap.size + 1) c gs.length gx ks (64 * k + 7) e Y → KeepsFrom w1.heap.size W Y ∧ SoJ w (w.heap.size + 1) (w.heap.size + 1 + 1) c r (64 * k + 7) zs (B,gs ++ [gx]) Y ∧ KpL (· = w.heap.size + 1) B W Y) := by
   rintro e Y ⟨-,rs',cs',odd',ks',c1,c2,c3,c4⟩;have hBW : B ≤ W.heap.size := k4;refine ⟨⟨c4.1.size,fun j o _ e q => c4.2.1 j o e q⟩,⟨rs',cs',odd',ks',c1,by simpa using c2,fun x hx => ?_,fun x hx => ?_,(c4.1.block _ h5.blk (fun q => by rcases q with q | q <;> omega)).trans h5,by simp;omega,h7.trans ?_,h8,h9⟩,⟨c4.1.size,fun b o hb hne e _ => (c4.1.block b (Array.getElem?_eq_some_iff.1 e).1 (fun q => by rcases q with q | q <;> omega)).trans e⟩⟩
   ·rcases c3 x hx with q | q
    ·simp [h3 x q]
    ·simp [q]
   ·rcases List.mem_append.1 hx with q | q
    ·exact Nat.lt_of_lt_of_le (h4 x q) c4.1.size
    ·have : x = gx := by simpa using q
     subst this;exact Nat.lt_of_lt_of_le k6.1.blk c4.1.size
   ·exact ⟨c4.1.os,c4.1.tape,c4.1.output,c4.1.size,fun b hb => c4.1.block b (Nat.lt_of_lt_of_le hb h7.size) (fun q => by rcases q with q | q <;> omega)⟩
  refine wpIn_block (zXC (zRG (by kernel_rfl)) (by rintro ⟨a,w,h⟩;cases h.1) ?_);clear h1 h2 h3 h4 h5 h6 h7 h8 h9 k2 k3 k4 k5 k6 k7 hgk hrl;dsimp only;go_wp2_with fail;refine HC.out.mono ?_;intro e Y hcl;have hF := hid (FIN.out e Y hcl);obtain ⟨rfl,-⟩ := hcl;clear HC FIN y0;go_wp2;exact ⟨trivial,hF.out⟩
 case done =>
  rintro D ⟨B,gs⟩ W hDs hl ⟨rs,cs,odd,ks,h1,h2,h3,h4,h5,h6,h7,h8,h9⟩ hD;dsimp only at hl h1 h2 h3 h4 h6 h8 h9;have x0 := h5.at (i := 0) rfl;have kg := zZC (grownBy_putObj' W D (.deferred none)) (fun r e => by cases e;exact ⟨_,hD,rfl⟩);have BB := h7.trans (belowK_b (w := w) (Nat.le_refl _) _ D _ (.deferred none) (by have := G1.out.size;omega) hD rfl rfl);have HZ : Hid (zeH w r c zs (64 * k + 7) (.returned (.pointer (some ⟨w.heap.size + 1,0,none⟩))) (W.putObj D (.deferred none))) := by
   rw [hl] at h2;exact ⟨_,B,rs,cs,odd,ks,rfl,h1.kc kg,h2,by omega,by omega,BB⟩
  have HK := hid hD;clear h1 h2 h3 h4 h5 h6 h7 kg BB hD;gi_wp2;refine ⟨by simp,.inl ⟨_,_,rfl,run_takeDeferred HK.out,?_⟩⟩;exact ⟨_,by simp [results,Tryz.results66,go_sem],HZ.out⟩
end Go.Proofs.YtffkmeocmjohmaaGreat
namespace Go.Proofs.YtffkmeocmjohmaaGreat
open Go.RowKit
theorem Stz.one {A : Nat → Nat → Int} {n i : Nat} {rs cs : List Nat} {odd : Bool} (h : Stz A n i rs cs odd) (h0 : rs.length = 0) : detS A rs cs odd = 1 := by
 rw [h.core,h0];rfl
theorem zsF {w W : World} {b B : Nat} {x y : Value} {z : Int} {k : Nat} (h : Zm B W (.agg #[x,y]) z k) (hW : Below w.heap.size w W) (hb : w.heap.size ≤ b) (hB : b < B) : zcA w z k (.returned (.agg #[x,y])) ((W.setCell ⟨b,0,none⟩ x).setCell ⟨b,1,none⟩ y) := zAD h hW hb hB
theorem sdet_any {A : Nat → Nat → Int} {B Bs n i kw : Nat} {rs cs ks : List Nat} {odd : Bool} {w : World} (hS : Srs A B w Bs n rs cs odd ks kw) (hZ : Stz A n i rs cs odd) (h1 : 1 ≤ kw) (hn : n ≤ 64) (hr : rs.length ≤ 64) :
  Calls Tryz.prog 69 #[.pointer (some ⟨Bs,0,none⟩)] w (zcA w (detS A rs cs odd) kw) := by
 obtain ⟨W0,hW⟩ : ∃ W0,w.alloc zbox = W0 := ⟨_,rfl⟩
 obtain ⟨b0,sz0⟩ := alo1 w zbox;rw [hW] at b0 sz0;have PR : Hid (Duo W0 w.heap.size (.bool false) (.slice none 0 0)) := by unfold Hid;rw [← hW];exact Duo.new w _ _
 have hS0 := hS;obtain ⟨rv,cv,lv,s1,s2,s3,s4,s5⟩ := hS0.now b0;obtain ⟨ra,rcap,rfl,hrc,-⟩ := s2.form;obtain ⟨ca,ccap,rfl,hcc,hca⟩ := s3.form;obtain ⟨la,lcap,rfl,hlc,hla⟩ := s4.form;have x0 := s1.at (i := 0) rfl;have x1 := s1.at (i := 1) rfl;have x2 := s1.at (i := 2) rfl;have x4 := s1.at (i := 3) rfl;have hlen := hZ.len;rw [zRB] at hlc hla x2;obtain ⟨Kn,hK⟩ : ∃ Kn,rs.length = Kn := ⟨_,rfl⟩
 rw [hlen] at hcc hca x1;rw [hK] at x0 x1 x2 hrc hcc hlc hca hla hr;have G0 := hid b0;have EW := hid hW;have SZ := hid sz0
 by_cases h0 : Kn = 0
 ·have HOF := hid (of_z (n := 1) (by decide) (by decide) W0)
  have HD : Hid (detS A rs cs odd = 1) := hZ.one (by omega);have H1 := hid h1;subst h0;rw [← hW] at x0;clear s1 s2 s3 s4 s5 hS hS0 hZ x1 x2 x4 hca hla hW b0 sz0 hlen hK h1;go_enter Tryz.func69,Tryz.ntmps69;go_wp2_with fail;rw [EW.out];clear EW x0;refine HOF.out.mono ?_;rintro e w1 ⟨r0,rfl,m0,b⟩;obtain ⟨nr,xr,ar,cr,rfl⟩ := m0.parts;have PR1 := hid (PR.out.step b);have r0 := PR1.out.c0;have r1 := PR1.out.c1;have f0 := PR1.out.fz 0;have f1 := PR1.out.fz 1;have FIN : Hid (zcA w (detS A rs cs odd) kw (.returned (.agg #[.bool nr,.slice ar xr.length cr])) ((w1.setCell ⟨w.heap.size,0,none⟩ (.bool nr)).setCell ⟨w.heap.size,1,none⟩ (.slice ar xr.length cr))) := by
   unfold Hid;rw [HD.out];exact zsF (m0.more H1.out) (zAA G0.out b) (Nat.le_refl _) (by have := SZ.out;omega)
  clear m0 b HOF;go_wp2_with fail;exact bodyPost_ret (zvA Tryz.results69 (PR1.out.set _ _) _ (by rfl)) rfl FIN.out
 ·obtain ⟨last,rfl⟩ : ∃ last,Kn = last + 1 := ⟨Kn - 1,by omega⟩
  obtain ⟨gc,rfl⟩ := hca (by omega);obtain ⟨Lb,rfl,-⟩ := hla (by omega);obtain ⟨cc,hcc2⟩ : ∃ cc,cs.getD last 0 = cc := ⟨_,rfl⟩
  have c0 := s3.at (i := last) (by omega);rw [hcc2] at c0;have hcn : cc < n := by rw [← hcc2];exact hZ.cl _ (by simp [show last < cs.length by omega])
  have hcn' : (cc : Int) < (n : Int) := by omega
  have hks : ks.length = last + 1 := by rw [s4.2.2.1,zRB,hK]
  obtain ⟨gk0,hgk0⟩ : ∃ gk0,ks[last]? = some gk0 := ⟨ks[last]'(by omega),List.getElem?_eq_getElem _⟩
  have x3 := s4.line hgk0;obtain ⟨np,ap,lp,cp,p0,p1,zp⟩ := s4.at hgk0 hcn;rw [zFI (by omega),zyA hcn] at zp;have EP : Hid (mi A (gd rs) (gd cs) last (gd rs last) cc = dd A (gd rs) (gd cs) (last + 1)) := by unfold Hid;rw [← hcc2];exact zmH A (gd rs) (gd cs) last
  have HD : Hid (detS A rs cs odd = sgb odd * dd A (gd rs) (gd cs) (last + 1)) := by unfold Hid detS;rw [hK]
  have ZP := hid zp;have hne : ¬ ((last + 1 : Nat) : Int) = 0 := by omega
  have hw1 : IntKind.i64.wrap (((last + 1 : Nat) : Int) - 1) = (last : Int) := by rw [zmA] <;> omega
  have hll : (last : Int) < ((last + 1 : Nat) : Int) := by omega
  have y0 := x0;rw [← hW] at y0;have hLn : ((last + 1 : Nat) : Int) = (last : Int) + 1 := by omega
  have EL := hid hLn;clear s1 s2 s3 s4 s5 hS hS0 hZ hla hca hW b0 sz0 hlen hK zp hcc2 hgk0 hks h0 hLn;generalize hKn : last + 1 = Kn at *;have HKN := hid hKn;clear hKn;go_enter Tryz.func69,Tryz.ntmps69;go_upto_region 4 with fail
  rw [EW.out];clear EW y0;have KB : Hid (∀ w',Below W0.heap.size W0 w' → w'.cell? ⟨Bs,2,none⟩ = some (.slice (some ⟨Lb,0,none⟩) Kn lcap) ∧ w'.cell? ⟨Lb,last,none⟩ = some (.slice (some ⟨gk0,0,none⟩) n n) ∧ w'.cell? ⟨Bs,1,none⟩ = some (.slice (some ⟨gc,0,none⟩) Kn ccap) ∧ w'.cell? ⟨gc,last,none⟩ = some (.int .i64 (cc : Int)) ∧ w'.cell? ⟨gk0,cc * 2,none⟩ = some (.bool np) ∧ w'.cell? ⟨gk0,cc * 2 + 1,none⟩ = some (.slice ap lp cp)) := fun w' h => ⟨cnow h x2,cnow h x3,cnow h x1,cnow h c0,cnow h p0,cnow h p1⟩
  refine zFA (fun w' => w'.cell? ⟨Bs,2,none⟩ = some (.slice (some ⟨Lb,0,none⟩) Kn lcap) ∧ w'.cell? ⟨Lb,last,none⟩ = some (.slice (some ⟨gk0,0,none⟩) n n) ∧ w'.cell? ⟨Bs,1,none⟩ = some (.slice (some ⟨gc,0,none⟩) Kn ccap) ∧ w'.cell? ⟨gc,last,none⟩ = some (.int .i64 (cc : Int)) ∧ w'.cell? ⟨gk0,cc * 2,none⟩ = some (.bool np) ∧ w'.cell? ⟨gk0,cc * 2 + 1,none⟩ = some (.slice ap lp cp)) 17 (by kernel_rfl) ?_;obtain ⟨D1,hD⟩ : ∃ D1,W0.drew = D1 := ⟨_,rfl⟩
  have GB : Hid (Below W0.heap.size W0 D1) := by unfold Hid;rw [← hD];exact (Below.refl _ _).drew
  rw [hD];clear hD;have GZ : Hid (W0.heap.size ≤ D1.heap.size) := GB.out.size;refine zDA [(0,(.pointer (some ⟨Bs,0,none⟩))),(1,(.pointer (some ⟨Bs,0,none⟩))),(2,(.pointer (some ⟨Bs,2,none⟩))),(3,(.slice (some ⟨Lb,0,none⟩) Kn lcap)),(4,(.int .i64 (last : Int))),(5,(.pointer (some ⟨Lb,last,none⟩))),(6,(.slice (some ⟨gk0,0,none⟩) n n)),(7,(.pointer (some ⟨Bs,0,none⟩))),(8,(.pointer (some ⟨Bs,0,none⟩))),(9,(.pointer (some ⟨Bs,1,none⟩))),(10,(.slice (some ⟨gc,0,none⟩) Kn ccap)),(11,(.int .i64 (last : Int))),(12,(.pointer (some ⟨gc,last,none⟩))),(13,(.int .i64 (cc : Int))),(14,(.pointer (some ⟨gk0,cc * 2,none⟩))),(15,(.agg #[.bool np,.slice ap lp cp]))] 16 ?_ (KB.out _ GB.out) ?_
  ·simp only [zJA,gA9,g09,g19,Act.put,sI9,s09,s19];(repeat' (first | exact trivial | refine And.intro (Or.inl ⟨by rfl,?_⟩) ?_)) <;> (intro w hSw;(try dsimp only at hSw);go_simp)
  simp only [actV,gA9,g09,g19,Act.put,sI9,s09,s19];refine zBA (i := 16) (o := ⟨some 4,.alloc 45,0, "stairs.go:66",#[],none⟩) (by kernel_rfl) rfl (fun K hK => ?_);go_simp;obtain ⟨V2,hW⟩ : ∃ V2,D1.alloc zbox = V2 := ⟨_,rfl⟩
  obtain ⟨b,sz2⟩ := alo1 D1 zbox;rw [hW] at b sz2;replace GB := hid (zAA GB.out b);have DP : Hid (Duo V2 D1.heap.size (.bool false) (.slice none 0 0)) := by unfold Hid;rw [← hW];exact Duo.new D1 _ _
  clear sz2;rw [hW];clear hW b;refine hK.out _ _ (fun _ => KB.out _ GB.out) ?_;clear hK
  try simp only [Act.put]
  refine zBA (i := 17) (o := ⟨none,.store 45 (.tmp 4) (.tmp 33),0, "stairs.go:66",#[⟨16,.data⟩,⟨15,.data⟩,⟨0,.phase⟩,⟨1,.phase⟩,⟨2,.phase⟩,⟨3,.phase⟩,⟨4,.phase⟩,⟨5,.phase⟩,⟨6,.phase⟩,⟨7,.phase⟩,⟨8,.phase⟩,⟨9,.phase⟩,⟨10,.phase⟩,⟨11,.phase⟩,⟨12,.phase⟩,⟨13,.phase⟩,⟨14,.phase⟩,⟨15,.phase⟩,⟨16,.phase⟩],none⟩) (by kernel_rfl) rfl (fun K hK => ?_);have e0 := DP.out.c0;have e1 := DP.out.c1;have e2 := DP.out.fz 0;have e3 := DP.out.fz 1;have SP : Hid (W0.heap.size ≤ D1.heap.size) := GZ.out;go_simp;clear e0 e1 e2 e3;obtain ⟨V3,hW⟩ : ∃ V3,((V2.setCell ⟨D1.heap.size,0,none⟩ (.bool np)).setCell ⟨D1.heap.size,1,none⟩ (.slice ap lp cp)) = V3 := ⟨_,rfl⟩
  replace GB : Hid (Below W0.heap.size W0 V3) := by unfold Hid;rw [← hW];exact bset (bset GB.out SP.out) SP.out
  have QP : Hid (Duo V3 D1.heap.size (.bool np) (.slice ap lp cp)) := by unfold Hid;rw [← hW];exact DP.out.set _ _
  clear DP;rw [hW];clear hW;refine hK.out _ _ (fun h => absurd h (by decide)) ?_;clear hK
  try simp only [Act.put]
  refine zEA (by kernel_rfl) ?_ _;obtain ⟨V,hVV⟩ : ∃ V,V = V3 := ⟨_,rfl⟩
  rw [← hVV] at GB QP ⊢;clear hVV;have PR1 := hid (PR.out.step GB.out);have ZP1 := hid (ZP.out.now GB.out);have G1 := hid (zAA G0.out GB.out);have q4 := cnow GB.out x4;have q0 := QP.out.c0;have q1 := QP.out.c1;have SZ1 : Hid (w.heap.size < V.heap.size) := by unfold Hid;have := SZ.out;have := GB.out.size;omega
  clear GB KB QP GZ SP x0 x1 x2 x3 x4 c0 p0 p1 ZP;cases odd with
  | true =>
   have HN := hid (ziI ZP1.out.zi);go_wp2_with fail;refine HN.out.mono ?_;rintro e w1 ⟨r0,rfl,m0,b⟩;obtain ⟨nr,xr,ar,cr,rfl⟩ := m0.parts;have PR2 := hid (PR1.out.step b);have r0 := PR2.out.c0;have r1 := PR2.out.c1;have f0 := PR2.out.fz 0;have f1 := PR2.out.fz 1;have FIN : Hid (zcA w (detS A rs cs true) kw (.returned (.agg #[.bool nr,.slice ar xr.length cr])) ((w1.setCell ⟨w.heap.size,0,none⟩ (.bool nr)).setCell ⟨w.heap.size,1,none⟩ (.slice ar xr.length cr))) := by
    unfold Hid;rw [HD.out,← EP.out];have e : sgb true * mi A (gd rs) (gd cs) last (gd rs last) cc = - mi A (gd rs) (gd cs) last (gd rs last) cc := by simp [sgb]
    rw [e];exact zsF m0 (zAA G1.out b) (Nat.le_refl _) SZ1.out
   clear m0 b HN;go_wp2_with fail;exact bodyPost_ret (zvA Tryz.results69 (PR2.out.set _ _) _ (by rfl)) rfl FIN.out
  | false =>
   have HN := hid (zaF ZP1.out.zi);go_wp2_with fail;refine HN.out.mono ?_;rintro e w1 ⟨r0,rfl,m0,b⟩;obtain ⟨nr,xr,ar,cr,rfl⟩ := m0.parts;have PR2 := hid (PR1.out.step b);have r0 := PR2.out.c0;have r1 := PR2.out.c1;have f0 := PR2.out.fz 0;have f1 := PR2.out.fz 1;have FIN : Hid (zcA w (detS A rs cs false) kw (.returned (.agg #[.bool nr,.slice ar xr.length cr])) ((w1.setCell ⟨w.heap.size,0,none⟩ (.bool nr)).setCell ⟨w.heap.size,1,none⟩ (.slice ar xr.length cr))) := by
    unfold Hid;rw [HD.out,← EP.out];have e : sgb false * mi A (gd rs) (gd cs) last (gd rs last) cc = mi A (gd rs) (gd cs) last (gd rs last) cc := by simp [sgb]
    rw [e];exact zsF m0 (zAA G1.out b) (Nat.le_refl _) SZ1.out
   clear m0 b HN;go_wp2_with fail;exact bodyPost_ret (zvA Tryz.results69 (PR2.out.set _ _) _ (by rfl)) rfl FIN.out
theorem Stz.le {A : Nat → Nat → Int} {n i : Nat} {rs cs : List Nat} {odd : Bool} (h : Stz A n i rs cs odd) : rs.length ≤ i := by
 have : rs.length ≤ (List.range i).length := List.Nodup.length_le_of_subset (h.up.imp fun hab => Nat.ne_of_lt hab) fun r hr => by simpa using h.lt r hr
 simpa using this
end Go.Proofs.YtffkmeocmjohmaaGreat
