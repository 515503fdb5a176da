/-
 QSo13ToZf14: So13, Zf14, joined.
-/
import Derived.Test.YtfeofdpnhhiclaaGreatQCl13

set_option maxRecDepth 100000
set_option maxHeartbeats 6400000
set_option linter.unusedVariables false
set_option linter.unusedSimpArgs false
namespace Go.Proofs.YtfeofdpnhhiclaaGreat
open Go.RowKit Go.Shelf
attribute [local go_sem] Oper.semAt_some
def en (c : Nat) (zs : List Int) : Nat → Nat → Int := fun i j => zs.getD (i * c + j) 0
theorem zaH {r c i : Nat} {zs : List Int} (hl : zs.length = r * c) (hi : i < r) : zOB (rowsL r c zs) i = (List.range c).map (en c zs i) := by
 rw [zaD hi];have hm : i * c + c ≤ r * c := by
  have := Nat.mul_le_mul_right c (show i + 1 ≤ r from hi);rw [Nat.succ_mul] at this;exact this
 apply List.ext_getElem
 ·simp;omega
 ·intro j h1 h2
  have hj : j < c := by simpa using h2
  simp [en,show i * c + j < zs.length by omega]
theorem pw13 : ∀ k,pw k = ((2 ^ (64 * k) : Nat) : Int)
 | 0 => by simp [pw]
 | k + 1 => by
  rw [pw,pw13 k,show 64 * (k + 1) = 64 + 64 * k by omega,Nat.pow_add,Int.natCast_mul]
  rfl
theorem en_abs {c k : Nat} {zs : List Int} (h : ∀ z ∈ zs,(z.natAbs : Int) < pw k) (i j : Nat) : (en c zs i j).natAbs ≤ 2 ^ (64 * k) := by
 unfold en
 by_cases q : i * c + j < zs.length
 ·have hm : zs.getD (i * c + j) 0 ∈ zs := by simp [q]
  have := h _ hm;have e := pw13 k;rw [e] at this;omega
 ·simp [q]
theorem fits_of {c k : Nat} {zs : List Int} {rs cs : List Nat} (h : ∀ z ∈ zs,(z.natAbs : Int) < pw k) (hr : rs.length ≤ 63) : Fits (en c zs) rs cs (64 * k + 7) := fun t r j ht => by
 have h1 := mi_abs (A := en c zs) (X := 2 ^ (64 * k)) (N := 64) (gd rs) (gd cs) (k := t) (r := r) (j := j) (by omega) (en_abs h);have h2 : (64 * 2 ^ (64 * k)) ^ (t + 1) ≤ (64 * 2 ^ (64 * k)) ^ 64 := Nat.pow_le_pow_right (by have := Nat.two_pow_pos (64 * k);omega) (by omega);have h3 : (64 * 2 ^ (64 * k)) ^ 64 = 2 ^ (384 + 64 * k * 64) := by
  rw [show (64 : Nat) = 2 ^ 6 from rfl,← Nat.pow_add,← Nat.pow_mul]
  congr 1
  omega
 have h4 : 2 ^ (384 + 64 * k * 64) < 2 ^ (64 * (64 * k + 7)) := Nat.pow_lt_pow_right (by omega) (by omega);have e := pw13 (64 * k + 7);rw [e];omega
theorem Zis.lt {w : World} {ps : List (Value × Value)} {zs : List Int} {k : Nat} (h : Zis w ps zs k) : ∀ z ∈ zs,(z.natAbs : Int) < pw k := fun z hz => by
 obtain ⟨j,hj,e⟩ := List.getElem_of_mem hz;exact (h.2 j _ z (List.getElem?_eq_getElem (by rw [h.1];exact hj)) (by rw [List.getElem?_eq_getElem hj,e])).lt
def SoJ (w : World) (Bs Bp c r kw : Nat) (zs : List Int) (s : Nat × List Nat) (W : World) : Prop :=
 ∃ rs cs odd ks,Srs (en c zs) s.1 W Bs c rs cs odd ks kw ∧ Stz (en c zs) c s.2.length rs cs odd ∧ (∀ x ∈ ks,x ∈ s.2) ∧ (∀ x ∈ s.2,x < W.heap.size) ∧ Cel W Bp 88 [.pointer (some ⟨Bs,0,none⟩)] ∧ s.2.length ≤ r ∧ Below w.heap.size w W ∧ Bp < s.1 ∧ Bs < s.1
theorem SoJ.own {w : World} {Bs Bp c r kw B : Nat} {zs : List Int} (hB : w.heap.size ≤ B) : OwnFrom B (SoJ w Bs Bp c r kw zs) := fun s W W' row hs hg hr => by
 obtain ⟨rs,cs,odd,ks,h1,h2,h3,h4,h5,h6,h7,h8⟩ := hs;have hk := zPB hg (fun r e => (hr r e).2);exact ⟨rs,cs,odd,ks,h1.kc hk,h2,h3,fun x hx => Nat.lt_of_lt_of_le (h4 x hx) hk.1,hk.cel h5,h6,h7.grown hg h7.size (fun k e => Nat.le_trans hB (hr k e).1),h8⟩
def zsG (w : World) (r c : Nat) (zs : List Int) (kw : Nat) (e : Ending) (w' : World) : Prop :=
 ∃ Bs B rs cs odd ks,e = .returned (.pointer (some ⟨Bs,0,none⟩)) ∧ Srs (en c zs) B w' Bs c rs cs odd ks kw ∧ Stz (en c zs) c r rs cs odd ∧ w.heap.size ≤ Bs ∧ w.heap.size ≤ B ∧ Below w.heap.size w w'
theorem stairsOf_any {w : World} {v : Value} {r c : Nat} {zs : List Int} {k : Nat} (h : Mx w v r c zs k) (hk : k ≤ 4000000000) : Calls Tryz.prog 60 #[v] w (zsG w r c zs (64 * k + 7)) := by
 have M0 := hid h;refine (callsIn_wide (n := 5)).1 ?_;have HZA : Hid (∀ z ∈ zs,(z.natAbs : Int) < pw k) := by obtain ⟨_,_,_,_,h,_⟩ := h;exact h.lt
 obtain ⟨aa,ca,rfl,hr,hc⟩ := h.form;have HZL : Hid (zs.length = r * c) := by obtain ⟨_,_,_,_,_,h,_⟩ := h;exact h
 obtain ⟨la,hla⟩ : ∃ la,r * c = la := ⟨_,rfl⟩
 rw [hla] at M0 ⊢;obtain ⟨W0,hW⟩ : ∃ W0,((w.alloc (matO r c (.slice aa la ca))).alloc (.cells #[.slice none 0 0,.slice none 0 0,.slice none 0 0,.bool false] 92)).alloc (.cells #[.pointer (some ⟨w.heap.size + 1,0,none⟩)] 88) = W0 := ⟨_,rfl⟩
 obtain ⟨b0,sz0⟩ := zvB w (matO r c (.slice aa la ca)) (.cells #[.slice none 0 0,.slice none 0 0,.slice none 0 0,.bool false] 92) (.cells #[.pointer (some ⟨w.heap.size + 1,0,none⟩)] 88);rw [hW] at b0 sz0;have pa : Cel W0 w.heap.size 24 (matc r c (.slice aa la ca)) := by
  rw [← hW];exact ((Cel.new w 24 (matc r c (.slice aa la ca))).step ((Below.refl _ _).alloc (Nat.le_refl _) _)).step ((Below.refl _ _).alloc (Nat.le_refl _) _)
 have PS : Hid (Cel W0 (w.heap.size + 1) 92 [.slice none 0 0,.slice none 0 0,.slice none 0 0,.bool false]) := by
  unfold Hid;rw [← hW];have := (Cel.new (w.alloc (matO r c (.slice aa la ca))) 92 [.slice none 0 0,.slice none 0 0,.slice none 0 0,.bool false]).step ((Below.refl _ _).alloc (Nat.le_refl _) (.cells #[.pointer (some ⟨w.heap.size + 1,0,none⟩)] 88))
  simpa using this
 have PP : Hid (Cel W0 (w.heap.size + 1 + 1) 88 [.pointer (some ⟨w.heap.size + 1,0,none⟩)]) := by
  unfold Hid;rw [← hW];have := Cel.new ((w.alloc (matO r c (.slice aa la ca))).alloc (.cells #[.slice none 0 0,.slice none 0 0,.slice none 0 0,.bool false] 92)) 88 [.pointer (some ⟨w.heap.size + 1,0,none⟩)]
  simpa using this
 have HLI := hid (zDF (M0.out.now b0));have x0 := pa.at (i := 0) rfl;have x1 := pa.at (i := 1) rfl;have x2 := pa.at (i := 2) rfl;rw [← hW] at x0 x1 x2;have G0 := hid b0;have EW := hid hW;have SZ := hid sz0;have HKK := hid hk;clear h hla b0 sz0 hW pa M0 hk;refine callsIn_of_wp_marks Tryz.func60 rfl trivial ?_ rfl;simp only [Tryz.ntmps60,List.size_toArray,List.length_cons,List.length_nil,Nat.reduceAdd,Nat.reduceSub,Array.replicate_succ,Array.replicate_zero,List.push_toArray,List.append_toArray,List.nil_append,List.cons_append];gi_wp2_with fail;rw [EW.out];clear EW;refine ⟨trivial,(callsIn_wide.2 HLI.out).mono ?_⟩;rintro e w1 ⟨Bm,ga,ps,rfl,q1,q2,q3,q4,q5,b⟩;have HQ3 := hid q3;have HQ5 := hid q5;have HB1 := hid b;have HQ1 := hid q1;have G1 := hid (below_step G0.out b);replace PS := hid (PS.out.step b);replace PP := hid (PP.out.step b);have hs1 := b.size;have hsz := SZ.out;clear q1 q3 q5 b x0 x1 x2 HLI G0;gi_wp2_with fail;have hml : (rowsL r c zs).length = r := zxB;refine zoF (σ := Nat × List Nat) (α := Nat × Nat) (by decide) rfl (enters_of Tryz.func74 (by kernel_rfl) rfl) (encL c) (fun _ => rfl)
  (SoJ w (w.heap.size + 1) (w.heap.size + 1 + 1) c r (64 * k + 7) zs) (SoJ.own (by omega)) (AtL k (rowsL r c zs)) (fun s x => AtL.own s x) (fun s x => (s.1,s.2 ++ [x.2]))
  (fun s => KpL (· = w.heap.size + 1) s.1) (fun h h' => h.trans h') (fun s W l o o' _ h1 h2 => KpL.put h1 h2) (fun s => s.2 = [] ∧ w.heap.size + 1 + 1 < s.1) (fun s => s.2.length = r) ?ini ?it (fun x => { tmps := #[matv r c (.slice aa la ca),.pointer (some ⟨w.heap.size,0,none⟩),.pointer none,.pointer (some ⟨w.heap.size + 1 + 1,0,none⟩),.int .i64 (x.1 : Int),.slice (some ⟨x.2,0,none⟩) c c,.agg #[.slice none 0 0,.slice none 0 0,.slice none 0 0,.bool false],.pointer (some ⟨w.heap.size + 1,0,none⟩),.agg #[.int .i64 (r : Int),.int .i64 (c : Int),.slice aa la ca],.func (.func 74) #[] #[.pointer (some ⟨Bm,0,none⟩)],.int .i64 (x.1 : Int),.slice (some ⟨x.2,0,none⟩) c c,undef,undef,undef,undef,undef],defers := [] }) ?assign ?body ?done
 case ini =>
  rintro ⟨B,gs⟩ ⟨rfl,hB⟩;exact ⟨[],[],false,[],⟨_,_,_,PS.out,Ivs.nil _ _,Ivs.nil _ _,ShtM.nil _ _ _ _,fun b h => by cases h⟩,Stz.start _,fun x h => by simp at h,fun x h => by simp at h,PP.out,Nat.zero_le _,G1.out,hB,by omega⟩
 case it =>
  intro l J' W hW hJ hJb hJ0 hY;have c1 : Cel W Bm 24 (matc r c (.slice (some ⟨ga,0,none⟩) (r * c) (r * c))) := HQ1.out.step hW;have ar := HQ3.out.step hW;have zr := HQ5.out.now hW;have hrc : r * c ≤ 64 * 64 := Nat.mul_le_mul hr hc;have pr : Prs (w.heap.size + 1 + 1) W (.slice (some ⟨ga,0,none⟩) (r * c) (r * c)) ps := by
   have := ar.prs (B := w.heap.size + 1 + 1) (by omega) (by omega) (cap := r * c) (by omega);rw [q4] at this;exact this
  refine (zEF (by decide) J' c1 pr q4 zr.zis hr hc hJb (fun B hB => hJ0 _ ⟨rfl,by have := hW.size;omega⟩) (fun s A h => by
   obtain ⟨_,_,_,_,_,_,_,h4,_⟩ := hJ s A h;exact h4) (by have := hW.size;omega) (fun b off x hs e => ?_) (fun b hs => Nat.le_of_eq hs) (fun s x X h1 h2 _ => hY s x X h1 h2)).mono (fun e Y h => h)
  have hs' : b = w.heap.size + 1 := hs;subst hs';have d := PS.out.step hW
  match off,e with
  | 0,e => rw [d.at (i := 0) rfl] at e;simp at e
  | 1,e => rw [d.at (i := 1) rfl] at e;simp at e
  | 2,e => rw [d.at (i := 2) rfl] at e;simp at e
  | 3,e => rw [d.at (i := 3) rfl] at e;simp at e
  | off + 4,e => simp [World.cell?,show W.heap[w.heap.size + 1]? = _ from d] at e
 case assign =>
  intro l x W K hK;have HKK := hid hK;clear hK;gi_wp2;exact HKK.out
 case body =>
  rintro l ⟨B,gs⟩ ⟨t,gx⟩ W ⟨rs,cs,odd,ks,h1,h2,h3,h4,h5,h6,h7,h8,h9⟩ ⟨k1,k2,k3,k4,k5,ps',k6,k7⟩;dsimp only at k1 k2 k3 k4 k5 k6 k7 h1 h2 h3 h4 h6 h8 h9 ⊢;subst k1;have hgr : gs.length < r := by omega
  rw [zaH HZL.out hgr] at k7;have hrl : rs.length ≤ gs.length := by
   have : rs.length ≤ (List.range gs.length).length := List.Nodup.length_le_of_subset (h2.up.imp fun hab => Nat.ne_of_lt hab) fun r hr => by simpa using h2.lt r hr
   simpa using this
  have hgk : ∀ x ∈ ks,x ≠ gx := fun x hx => k5 x (h3 x hx)
  have HC := hid (climb_any h1 h2 k6 (k7.more (show k ≤ 64 * k + 7 by omega)) hgk k3 (fits_of HZA.out (by omega)) (by omega) (by have := HKK.out;omega) hc (show gs.length < 64 by omega));have y0 := h5.at (i := 0) rfl;have FIN : Hid (∀ e Y,ztE (en c zs) B W (w.heap.size + 1) c gs.length gx ks (64 * k + 7) e Y → KeepsFrom w1.heap.size W Y ∧ SoJ w (w.heap.size + 1) (w.heap.size + 1 + 1) c r (64 * k + 7) zs (B,gs ++ [gx]) Y ∧ KpL (· = w.heap.size + 1) B W Y) := by
   rintro e Y ⟨-,rs',cs',odd',ks',c1,c2,c3,c4⟩;have hBW : B ≤ W.heap.size := k4;refine ⟨⟨c4.1.size,fun j o _ e q => c4.2.1 j o e q⟩,⟨rs',cs',odd',ks',c1,by simpa using c2,fun x hx => ?_,fun x hx => ?_,(c4.1.block _ h5.blk (fun q => by rcases q with q | q <;> omega)).trans h5,by simp;omega,h7.trans ?_,h8,h9⟩,⟨c4.1.size,fun b o hb hne e _ => (c4.1.block b (Array.getElem?_eq_some_iff.1 e).1 (fun q => by rcases q with q | q <;> omega)).trans e⟩⟩
   ·rcases c3 x hx with q | q
    ·simp [h3 x q]
    ·simp [q]
   ·rcases List.mem_append.1 hx with q | q
    ·exact Nat.lt_of_lt_of_le (h4 x q) c4.1.size
    ·have : x = gx := by simpa using q
     subst this;exact Nat.lt_of_lt_of_le k6.1.blk c4.1.size
   ·exact ⟨c4.1.os,c4.1.tape,c4.1.output,c4.1.size,fun b hb => c4.1.block b (Nat.lt_of_lt_of_le hb h7.size) (fun q => by rcases q with q | q <;> omega)⟩
  refine wpIn_block (zmB (zmC (by kernel_rfl)) (by rintro ⟨a,w,h⟩;cases h.1) ?_);clear h1 h2 h3 h4 h5 h6 h7 h8 h9 k2 k3 k4 k5 k6 k7 hgk hrl;dsimp only;go_wp2_with fail;refine HC.out.mono ?_;intro e Y hcl;have hF := hid (FIN.out e Y hcl);obtain ⟨rfl,-⟩ := hcl;clear HC FIN y0;go_wp2;exact ⟨trivial,hF.out⟩
 case done =>
  rintro D ⟨B,gs⟩ W hDs hl ⟨rs,cs,odd,ks,h1,h2,h3,h4,h5,h6,h7,h8,h9⟩ hD;dsimp only at hl h1 h2 h3 h4 h6 h8 h9;have x0 := h5.at (i := 0) rfl;have kg := zPB (grownBy_putObj' W D (.deferred none)) (fun r e => by cases e;exact ⟨_,hD,rfl⟩);have BB := h7.trans (belowK_b (w := w) (Nat.le_refl _) _ D _ (.deferred none) (by have := G1.out.size;omega) hD rfl rfl);have HZ : Hid (zsG w r c zs (64 * k + 7) (.returned (.pointer (some ⟨w.heap.size + 1,0,none⟩))) (W.putObj D (.deferred none))) := by
   rw [hl] at h2;exact ⟨_,B,rs,cs,odd,ks,rfl,h1.kc kg,h2,by omega,by omega,BB⟩
  have HK := hid hD;clear h1 h2 h3 h4 h5 h6 h7 kg BB hD;gi_wp2;refine ⟨by simp,.inl ⟨_,_,rfl,run_takeDeferred HK.out,?_⟩⟩;exact ⟨_,by simp [results,Tryz.results60,go_sem],HZ.out⟩
end Go.Proofs.YtfeofdpnhhiclaaGreat
namespace Go.Proofs.YtfeofdpnhhiclaaGreat
def zF (m n : Nat) (F : Nat → Nat → Int) : List Int := (List.range (m * n)).map fun t => F (t / n) (t % n)
theorem zGD (m n : Nat) (F : Nat → Nat → Int) : (zF m n F).length = m * n := by simp [zF]
theorem zGG {m n i j : Nat} (hi : i < m) (hj : j < n) : i * n + j < m * n := by
 have h := Nat.mul_le_mul_right n (show i + 1 ≤ m from hi);rw [Nat.succ_mul] at h;omega
theorem zCI {n i j : Nat} (hj : j < n) : (i * n + j) / n = i ∧ (i * n + j) % n = j := by
 have hn : 0 < n := by omega
 rw [Nat.mul_comm i n,Nat.mul_add_div hn,Nat.mul_add_mod,Nat.div_eq_of_lt hj,Nat.mod_eq_of_lt hj];exact ⟨by omega,rfl⟩
theorem zF_at {m n i j : Nat} {F : Nat → Nat → Int} (hi : i < m) (hj : j < n) : (zF m n F).getD (i * n + j) 0 = F i j := by
 have h := zGG hi hj;have e := zCI (i := i) hj;simp [zF,h,e.1,e.2]
theorem zhF {m n : Nat} {F G : Nat → Nat → Int} (h : ∀ i j,i < m → j < n → F i j = G i j) : zF m n F = zF m n G := List.map_congr_left fun t ht => by
 have ht' : t < m * n := by simpa using ht
 have hn : 0 < n := Nat.pos_of_ne_zero fun e => by subst e;simp at ht'
 exact h _ _ (Nat.div_lt_of_lt_mul (by rw [Nat.mul_comm];exact ht')) (Nat.mod_lt _ hn)
theorem en_zF {m n i j : Nat} {F : Nat → Nat → Int} (hi : i < m) (hj : j < n) : en n (zF m n F) i j = F i j := zF_at hi hj
end Go.Proofs.YtfeofdpnhhiclaaGreat
