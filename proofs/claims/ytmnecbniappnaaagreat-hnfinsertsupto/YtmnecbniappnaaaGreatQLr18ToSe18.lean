/-
 QLr18ToSe18: Lr18, Se18, joined.
-/
import Derived.Test.YtmnecbniappnaaaGreatQIp18ToBk18

set_option maxRecDepth 100000
set_option maxHeartbeats 6400000
set_option linter.unusedVariables false
set_option linter.unusedSimpArgs false
namespace Go.Proofs.YtmnecbniappnaaaGreat
open Go.RowKit Go.Shelf
attribute [local go_sem] Oper.semAt_some
theorem zuG {B bs Bl Bh Ba m n r kw K T : Nat} {w : World} {lv sv : Value} {ρ γ gs : Nat → Nat} {X A : Nat → Nat → Int} (h : Wk18 B w bs Bl Bh Ba lv sv m n r ρ γ gs X kw) (hL : Lo18 n K r ρ γ X A T) (hTb : Tb18 m n A T) (hKm : K ≤ m) (hm : m ≤ 65) (hn : n ≤ 64) (hT : ((bd18 T 128 : Nat) : Int) < pw kw) (hk1 : 1 ≤ kw) (hK : kw ≤ 68719476736) :
  Calls Tryz.prog 44 #[.pointer (some ⟨bs,0,none⟩)] w (zfI B w bs Bl Bh Ba lv sv m n r ρ γ gs A kw K T) := by
 refine (callsIn_wide (n := 5)).1 ?_;have hr64 : r ≤ 64 := by have := hL.ec.few;omega
 obtain ⟨sa,sc,rfl⟩ := h.sform;obtain ⟨W0,hW⟩ : ∃ W0,w.alloc (.cells #[.pointer (some ⟨bs,0,none⟩)] 83) = W0 := ⟨_,rfl⟩
 obtain ⟨b0,sz0⟩ := alo1 w (.cells #[.pointer (some ⟨bs,0,none⟩)] 83);rw [hW] at b0 sz0;have PB : Hid (Cel W0 w.heap.size 83 [.pointer (some ⟨bs,0,none⟩)]) := by unfold Hid;rw [← hW];exact Cel.new w _ _
 obtain ⟨W1,hW1⟩ : ∃ W1,W0.alloc (.cells #[.slice sa r sc] 61) = W1 := ⟨_,rfl⟩
 obtain ⟨b1,sz1⟩ := alo1 W0 (.cells #[.slice sa r sc] 61);rw [hW1] at b1 sz1;have PC : Hid (Cel W1 (w.heap.size + 1) 61 [.slice sa r sc]) := by
  unfold Hid;rw [← hW1];have := Cel.new W0 61 [.slice sa r sc];rw [sz0] at this;exact this
 have WK := hid (h.now (below_step b0 b1));replace PB := hid (PB.out.step b1);have HLO := hid hL;have x2 := (h.now b0).1.at (i := 2) rfl;have pb0 := (show Cel W0 w.heap.size 83 [.pointer (some ⟨bs,0,none⟩)] by rw [← hW];exact Cel.new w _ _).at (i := 0) rfl;rw [← hW] at x2 pb0;have HBN := hid (back18_new 4 sa r sc W0);have GG := hid (below_step b0 b1);have EW := hid hW;have EW1 := hid hW1;have SZ0 := hid sz0;have SZ1 := hid sz1;have HT := hid hT;have HTB := hid hTb;have HKM := hid hKm;have Hk1 := hid hk1;have HK := hid hK;have HGL : Hid (∀ i,i < m → gs i < w.heap.size) := fun i hi => (h.2.2.2.2.2.2.2 i hi).2.blk
 have HROW : Hid (∀ W Y,Wk18 B W bs Bl Bh Ba lv (.slice sa r sc) m n r ρ γ gs Y kw → ∀ b (o : Obj),W.heap[b]? = some o → o.isCells = false → ¬ tl18 gs m b) := by
  rintro W Y hwk b o e ho ⟨t,ht,q⟩;obtain ⟨ps,p1,-⟩ := (hwk.2.2.2.2.2.2.2 t ht).2;have a2 := show W.heap[gs t]? = _ from p1.1;rw [← q] at a2;rw [a2,Option.some.injEq] at e;subst e;cases ho
 clear h hL hTb hKm hT hk1 hK b0 sz0 hW b1 sz1 hW1;refine callsIn_of_wp_marks Tryz.func44 rfl trivial ?_ rfl;simp only [Tryz.ntmps44,List.size_toArray,List.length_cons,List.length_nil,Nat.reduceAdd,Nat.reduceSub,Array.replicate_succ,Array.replicate_zero,List.push_toArray,List.append_toArray,List.nil_append,List.cons_append];gi_wp2_with fail;rw [EW.out];clear EW;refine ⟨trivial,HBN.out.mono ?_⟩;rintro e w1 ⟨rfl,rfl⟩;rw [EW1.out,SZ0.out];clear EW1 HBN x2 pb0;gi_wp2_with fail;have hsz0 := SZ0.out;have hsz1 := SZ1.out;refine rangeB18 (σ := Nat) (α := Nat) (by decide) rfl (enters_of Tryz.func92 (by kernel_rfl) rfl) (zAH ρ γ) (fun _ => rfl)
  (zOH B w bs Bl Bh Ba lv (.slice sa r sc) m n r ρ γ gs A kw K T w.heap.size) (zOH.own (by omega)) (fun s x W => x = r - 1 - s ∧ s < r) (fun s x _ W W' row hs _ _ => hs) (fun s x => s + 1)
  (fun s => KpL (tl18 gs m) W1.heap.size) (fun h h' => h.trans h') (fun s W l o o' _ h1 h2 => KpL.put h1 h2) (fun s => s = 0) (fun s => s = r) ?ini ?it (fun s W o => ⟨by simp,fun b o' _ _ e _ => (Below.heap_alloc _ _ _ (Array.getElem?_eq_some_iff.1 e).1).trans e⟩) (fun x => .cells #[.int .i64 (ρ x : Int),.int .i64 (γ x : Int)] 65) (fun x bq => { tmps := #[.pointer (some ⟨bs,0,none⟩),.pointer (some ⟨w.heap.size,0,none⟩),.int .i64 (x : Int),.pointer (some ⟨bq,0,none⟩),undef,undef,.pointer (some ⟨bs,0,none⟩),.pointer (some ⟨bs,0,none⟩),.pointer (some ⟨bs,2,none⟩),.slice sa r sc,.func (.func 92) #[] #[.pointer (some ⟨w.heap.size + 1,0,none⟩)],.int .i64 (x : Int),.agg #[.int .i64 (ρ x : Int),.int .i64 (γ x : Int)],undef,undef,undef,undef,undef,undef,undef,undef,undef,undef,undef,undef,undef,undef,undef,undef,undef,undef],defers := [] }) ?assign ?body ?done
 case ini =>
  rintro s rfl;exact ⟨X,r + 1,WK.out,by have := HLO.out.start (m := m);simpa using this,fun q => by omega,Nat.le_refl _,Nat.zero_le _,PB.out,Touch.ofBelow GG.out⟩
 case it =>
  intro l J' W hW hJ hJb hJ0 hY;have wk := WK.out.now hW;refine (back18_in (S := tl18 gs m) (B := W1.heap.size) (ρ := ρ) (γ := γ) (by decide) J' ((PC.out.step hW).at (i := 0) rfl) (by omega) (fun ⟨i,hi,q⟩ => by have := HGL.out i hi;omega) hr64 ?_ (hJ0 0 rfl) (fun s X h1 h2 => hY s _ X h1 ⟨rfl,h2⟩)).mono fun e Y h => ⟨h.1,r,rfl,h.2⟩
  rcases wk.2.2.2.2.1 with ⟨e,h⟩ | ⟨h0,Bp,cap,t,e,e0,e1,e2,e3,e4⟩
  ·exact .inl ⟨e,h⟩
  ·refine .inr ⟨Bp,cap,e,e0,?_,fun ⟨i,hi,q⟩ => ?_,fun i hi => ⟨e4.at (zuB hi t).1,e4.at (zuB hi t).2⟩⟩
   ·rcases WK.out.2.2.2.2.1 with ⟨e',_⟩ | ⟨_,Bp',cap',t',e',_,_,_,_,e4'⟩
    ·omega
    ·rw [e'] at e
     simp only [Value.slice.injEq,Option.some.injEq,Addr.mk.injEq,and_true,true_and] at e;obtain ⟨rfl,-⟩ := e;exact e4'.blk
   ·obtain ⟨ps,p1,-⟩ := (wk.2.2.2.2.2.2.2 i hi).2
    have a1 := show W.heap[Bp]? = _ from e4;have a2 := show W.heap[gs i]? = _ from p1.1;rw [← q] at a2;have := a1.symm.trans a2;simp at this
 case assign =>
  intro l x W K hK;have HKK := hid hK;clear hK;gi_wp2;exact HKK.out
 case body =>
  rintro l s x bq W ⟨X,b,t1,t2,t3,t3b,t4,t5,t6⟩ ⟨hx,hs⟩ hob hbq;subst hx;obtain ⟨a,ha⟩ : ∃ a,r - 1 - s = a := ⟨_,rfl⟩
  have har : a < r := by omega
  rw [ha] at hob ⊢;have hlw : Lw18 m n K r ρ γ X A T a (a + 1) := by
   rw [show r - s = a + 1 by omega] at t2 t3;exact t2.next t3 har HTB.out HKM.out
  have H0 : Hid (zhH B W bs Bl Bh Ba lv (.slice sa r sc) m n r ρ γ gs A kw K T w.heap.size bq a (.int .i64 ((0 : Nat) : Int)) W) := ⟨0,X,rfl,Nat.zero_le _,t1,hlw,t5,hob,Touch.refl _ _⟩
  have FIN : Hid (∀ Y,zhH B W bs Bl Bh Ba lv (.slice sa r sc) m n r ρ γ gs A kw K T w.heap.size bq a (.int .i64 ((r - (a + 1) : Nat) : Int)) Y → KeepsFrom W1.heap.size W Y ∧ zOH B w bs Bl Bh Ba lv (.slice sa r sc) m n r ρ γ gs A kw K T w.heap.size (s + 1) Y ∧ KpL (tl18 gs m) W1.heap.size W Y) := by
   rintro Y ⟨t,X',q1,q2,q3,q4,q5,-,q6⟩;have ht : t = r - (a + 1) := by simp at q1;omega
   subst ht;refine ⟨⟨q6.size,fun j o hj e ho => (q6.block j (Array.getElem?_eq_some_iff.1 e).1 (HROW.out W X t1 j o e ho)).trans e⟩,⟨X',r,q3,by rw [show a + 1 + (r - (a + 1)) = r by omega] at q4;rw [show r - (s + 1) = a by omega];exact q4,fun _ => Nat.le_refl _,by omega,by omega,q5,t6.trans q6⟩,⟨q6.size,fun b o _ hb e _ => (q6.block b (Array.getElem?_eq_some_iff.1 e).1 hb).trans e⟩⟩
  have hwa : IntKind.i64.wrap ((a : Int) + 1) = ((a + 1 : Nat) : Int) := by rw [zZA] <;> omega
  obtain ⟨Bp,hsa⟩ : ∃ Bp,sa = some ⟨Bp,0,none⟩ := by
   rcases t1.2.2.2.2.1 with ⟨e,_⟩ | ⟨h0,Bp,cap,t,e,_⟩
   ·omega
   ·simp only [Value.slice.injEq,true_and] at e
    exact ⟨Bp,e.1⟩
  have hsc : r ≤ sc := by
   rcases t1.2.2.2.2.1 with ⟨e,_⟩ | ⟨h0,Bp,cap,t,e,e0,_⟩
   ·omega
   ·simp only [Value.slice.injEq,true_and] at e
    omega
  subst hsa;have z1 := t5.at (i := 0) rfl;have z2 := t1.1.at (i := 2) rfl;have hsl1 : (a : Int) + 1 ≤ (r : Int) := by omega
  have hsl0 : (0 : Int) ≤ (a : Int) + 1 := by omega
  have htn : ((a : Int) + 1).toNat = a + 1 := by omega
  clear t1 t2 t3 t3b t5 t6 hlw hob
  by_cases hce : sc = a + 1
  ·have hra : r = a + 1 := by omega
   have FF := hid (FIN.out W (by rw [show r - (a + 1) = 0 by omega];exact H0.out));clear FIN H0;have hr1 : r - (a + 1) = 0 := by omega
   gi_wp2_with fail
   gi_loopw [21] (fun s21 wr => s21 = .int .i64 0 ∧ wr = W) (fun _ _ => 0)
   case atStart => exact ⟨rfl,rfl⟩
   case round =>
    obtain ⟨rfl,hwr⟩ := hrel;rw [hwr];clear hwr;have ff := FF.out;rw [hsz1,hsz0,hce,hra] at ff;clear FF;have FF := hid ff;clear ff z1 z2;gi_wp2;exact FF.out
  ·gi_wp2_with fail
   gi_loopw [21] (fun s21 wr => zhH B W bs Bl Bh Ba lv (.slice (some ⟨Bp,0,none⟩) r sc) m n r ρ γ gs A kw K T w.heap.size bq a s21 wr) (fun s21 _ => (((r - (a + 1) : Nat) : Int) - (intOf s21)).toNat)
   case atStart => exact H0.out
   case round =>
    clear H0 z1 z2;obtain ⟨t,X,rfl,htl,wk,lw,pb,pq,tw⟩ := hrel;have WK2 := hid wk;have LW := hid lw;have PB2 := hid pb;have PQ2 := hid pq;have TW2 := hid tw;clear wk lw pb pq tw
    by_cases hlt : t < r - (a + 1)
    ·have hlt' : (t : Int) < ((r - (a + 1) : Nat) : Int) := by omega
     have hwt := zVA (i := t) (by omega);obtain ⟨b,hbe⟩ : ∃ b,a + 1 + t = b := ⟨_,rfl⟩
     have hbr : b < r := by omega
     obtain ⟨e0,e1⟩ : wr.cell? ⟨Bp,(a + 1) * 2 + t * 2,none⟩ = some (.int .i64 (ρ b : Int)) ∧ wr.cell? ⟨Bp,(a + 1) * 2 + t * 2 + 1,none⟩ = some (.int .i64 (γ b : Int)) := by
      rw [show (a + 1) * 2 + t * 2 = b * 2 by omega];rcases WK2.out.2.2.2.2.1 with ⟨e,_⟩ | ⟨h0,Bp',cap,t',e,_,_,_,_,e4⟩
      ·omega
      ·simp only [Value.slice.injEq,Option.some.injEq,Addr.mk.injEq,and_true,true_and] at e
       obtain ⟨rfl,-⟩ := e;exact ⟨e4.at (zuB hbr t').1,e4.at (zuB hbr t').2⟩
     obtain ⟨V,hV⟩ : ∃ V,wr.alloc (.cells #[.int .i64 (ρ b : Int),.int .i64 (γ b : Int)] 65) = V := ⟨_,rfl⟩
     obtain ⟨bv,szv⟩ := alo1 wr (.cells #[.int .i64 (ρ b : Int),.int .i64 (γ b : Int)] 65);rw [hV] at bv szv;have dV : Cel V wr.heap.size 65 [.int .i64 (ρ b : Int),.int .i64 (γ b : Int)] := by rw [← hV];exact Cel.new wr _ _
     have v0 := dV.at (i := 0) rfl;have v1 := dV.at (i := 1) rfl;have y0 := (PB2.out.step bv).at (i := 0) rfl;have u0 := (PQ2.out.step bv).at (i := 0) rfl;rw [hbe] at LW;have HRE := hid (reduce18 (WK2.out.now bv) LW.out HTB.out (show a < b by omega) hbr HKM.out hm hn HT.out Hk1.out HK.out);have FN : Hid (∀ e Y,zaH B V bs Bl Bh Ba lv (.slice (some ⟨Bp,0,none⟩) r sc) m n r ρ γ gs A kw K T a (b + 1) e Y → zhH B W bs Bl Bh Ba lv (.slice (some ⟨Bp,0,none⟩) r sc) m n r ρ γ gs A kw K T w.heap.size bq a (.int .i64 ((t + 1 : Nat) : Int)) Y) := by
      rintro e Y ⟨X',-,h1,h2,h3⟩;have ty : Ty 40 V Y := h3.tyS18 (fun b q => by
       obtain ⟨i,hi,rfl⟩ := q;exact (((WK2.out.now bv).2.2.2.2.2.2.2 i hi).2).cel18)
      exact ⟨t + 1,X',rfl,by omega,h1,by rw [show a + 1 + (t + 1) = b + 1 by omega];exact h2,(PB2.out.step bv).ty13 ty (by decide),(PQ2.out.step bv).ty13 ty (by decide),(TW2.out.trans (.ofBelow bv)).trans h3⟩
     have EV := hid hV;rw [← hV] at v0 v1 y0 u0;clear LW PB2 PQ2 TW2 bv szv hV dV hbe WK2;gi_wp2_with fail;rw [EV.out];refine ⟨trivial,(CallsIn.inRound _ (callsIn_wide.2 HRE.out)).mono ?_⟩;intro e Y hY;have HN1 := hid (FN.out e Y hY);obtain ⟨X',rfl,-⟩ := hY;clear HRE FN EV e0 e1 v0 v1 y0 u0;gi_wp2_with fail;go_roundw
     case rel => exact HN1.out
     case measure => simp [intOf];omega
    ·have hlt' : ¬ (t : Int) < ((r - (a + 1) : Nat) : Int) := by omega
     obtain rfl : t = r - (a + 1) := by omega
     have FF := hid (FIN.out wr ⟨_,X,rfl,htl,WK2.out,LW.out,PB2.out,PQ2.out,TW2.out⟩);clear WK2 LW PB2 PQ2 TW2 FIN;have ff := FF.out;rw [hsz1,hsz0] at ff;clear FF;have FF := hid ff;clear ff;gi_wp2;exact FF.out
 case done =>
  rintro Dd s W hDs hl ⟨X',b,t1,t2,t3,t3b,t4,t5,t6⟩ hD;subst hl;rw [Nat.sub_self] at t2 t3;have kg := zjC (grownBy_putObj' W Dd (.deferred none)) (fun r e => by cases e;exact ⟨_,hD,rfl⟩);have HZ : Hid (zfI B w bs Bl Bh Ba lv (.slice sa s sc) m n s ρ γ gs A kw K T (.returned (.tuple #[])) (W.putObj Dd (.deferred none))) := ⟨X',rfl,t1.kc18 kg,t2.end_ t3,t6.grown18 (grownBy_putObj' W Dd (.deferred none)) (fun k e => by cases e;omega)⟩
  have HKD := hid hD;clear t1 t2 t3 t3b t4 t5 t6 kg hD;gi_wp2;refine ⟨by simp,.inl ⟨_,_,rfl,run_takeDeferred HKD.out,?_⟩⟩;exact ⟨_,by simp [results,Tryz.results44,go_sem],HZ.out⟩
end Go.Proofs.YtmnecbniappnaaaGreat
namespace Go.Proofs.YtmnecbniappnaaaGreat
open Go.RowKit
theorem insert18 {B r vb x y p : Nat} {w : World} {sv : Value} {ρ γ : Nat → Nat} (h : Sp18 B w sv r ρ γ) (hv : Cel w vb 65 [.int .i64 (x : Int),.int .i64 (y : Int)]) (hne : sv.ownBlock ≠ some vb) (hp : p ≤ r) (hr : r < 64) (hB : B ≤ w.heap.size) :
  Calls Tryz.prog 43 #[sv,.int .i64 (p : Int),.slice (some ⟨vb,0,none⟩) 1 1] w (zuF B w sv (r + 1) (insF p x ρ) (insF p y γ)) := by
 by_cases q : p = r
 ·subst q;exact insert_end18 h hv hr hB
 ·rcases id h with ⟨e,_⟩ | ⟨h0,Bp,cap,t,rfl,e0,e1,e2,e3,e4⟩
  ·omega
  ·by_cases q2 : r + 1 ≤ cap
   ·exact insert_shift18 (by omega) hr q2 e1 e2 e3 e4 hv (fun q3 => hne (by subst q3;rfl))
   ·obtain rfl : cap = r := by omega
    exact insert_grow18 (by omega) hr hB e4 hv
theorem Wk18.steps {B bs Bl Bh Ba m n r r' kw : Nat} {w w' : World} {lv sv sv' : Value} {ρ γ ρ' γ' gs : Nat → Nat} {X : Nat → Nat → Int} (h : Wk18 B w bs Bl Bh Ba lv sv m n r ρ γ gs X kw) (ht : Touch (fun b => sv.ownBlock = some b) w w') (hs : Sp18 B w' sv' r' ρ' γ') :
  Wk18 B (w'.setCell ⟨bs,2,none⟩ sv') bs Bl Bh Ba lv sv' m n r' ρ' γ' gs X kw := by
 have ty : Ty 65 w w' := ht.tyS18 fun b q => by
  rcases h.2.2.2.2.1 with ⟨_,e⟩ | ⟨_,Bp,cap,t,e,_,_,_,_,e4⟩
  ·rw [e] at q;cases q
  ·rw [e] at q
   simp [Value.ownBlock] at q;subst q;exact ⟨_,e4⟩
 have c1 := h.1.ty13 ty (by decide);have ty2 : Ty 63 w' (w'.setCell ⟨bs,2,none⟩ sv') := Ty.set c1;refine ⟨c1.set 2 sv',(h.2.1.ty13 ty (by decide)).ty13 ty2 (by decide),(h.2.2.1.ty13 ty (by decide)).ty13 ty2 (by decide),(h.2.2.2.1.ty13 ty (by decide)).ty13 ty2 (by decide),hs.cel fun _ _ d => d.ty13 ty2 (by decide),?_⟩;exact (h.2.2.2.2.2.ty ty (by decide) (by decide) (by decide)).ty ty2 (by decide) (by decide) (by decide)
theorem zXA {B : Nat} {a b c : World} (h : Below B a b) (k : Below B b c) : Below B a c := ⟨k.os.trans h.os,k.tape.trans h.tape,k.output.trans h.output,Nat.le_trans h.size k.size,fun j hj => (k.block j hj).trans (h.block j hj)⟩
def PoD18 (B : Nat) (w : World) (bs Bl Bh Ba : Nat) (lv sv : Value) (m n r : Nat) (ρ γ gs : Nat → Nat) (A : Nat → Nat → Int) (kw i c p T : Nat) (e : Ending) (w' : World) : Prop :=
 ∃ X,e = .returned (.tuple #[]) ∧ Wk18 B w' bs Bl Bh Ba lv sv m n r ρ γ gs X kw ∧ Lv18 n i r ρ γ X A c p T ∧ 0 < X i c ∧ Touch (tl18 gs m) w w'
theorem makePositive18 {B bs Bl Bh Ba m n r kw i c p T : Nat} {w : World} {lv sv : Value} {ρ γ gs : Nat → Nat} {X A : Nat → Nat → Int} (h : Wk18 B w bs Bl Bh Ba lv sv m n r ρ γ gs X kw) (hL : Lv18 n i r ρ γ X A c p T) (hi : i < m) (hc : c < n) (h0 : X i c ≠ 0) (hm : m ≤ 65) (hn : n ≤ 64) :
  Calls Tryz.prog 42 #[.pointer (some ⟨bs,0,none⟩),.int .i64 (i : Int),.int .i64 (c : Int)] w (PoD18 B w bs Bl Bh Ba lv sv m n r ρ γ gs A kw i c p T) := by
 by_cases q : 0 < X i c
 ·exact (positive18 h hi hc q hm hn).mono fun e w' ⟨h1,h2⟩ => ⟨X,h1,h.now h2,hL,q,Touch.ofBelow h2⟩
 ·exact (negate18 h hi hc q hm hn).mono fun e w' ⟨h1,h2,h3⟩ => ⟨_,h1,h2,hL.neg,by rw [zxC];omega,h3.mono18 fun b e => ⟨i,hi,e⟩⟩
def zII (B : Nat) (w : World) (bs Bl Bh Ba : Nat) (lv : Value) (m n : Nat) (gs : Nat → Nat) (A : Nat → Nat → Int) (kw K : Nat) (e : Ending) (w' : World) : Prop :=
 ∃ sv r ρ γ X,e = .returned (.tuple #[]) ∧ Wk18 B w' bs Bl Bh Ba lv sv m n r ρ γ gs X kw ∧ Hb18 m n K r ρ γ X A ∧ Below B w w'
theorem Wk18.below {B bs Bl Bh Ba m n r kw : Nat} {w w' : World} {lv sv : Value} {ρ γ gs : Nat → Nat} {X : Nat → Nat → Int} (h : Wk18 B w bs Bl Bh Ba lv sv m n r ρ γ gs X kw) (ht : Touch (tl18 gs m) w w') (hB : B ≤ w.heap.size) : Below B w w' := ⟨ht.os,ht.tape,ht.output,ht.size,fun b hb => ht.block b (by omega) fun ⟨i,hi,q⟩ => by have := (h.2.2.2.2.2.2.2 i hi).1;omega⟩
theorem zAG {B bs Bl Bh Ba m n r kw i T : Nat} {w : World} {lv sv : Value} {ρ γ gs : Nat → Nat} {X A : Nat → Nat → Int} (h : Wk18 B w bs Bl Bh Ba lv sv m n r ρ γ gs X kw) (hH : Hb18 m n i r ρ γ X A) (hTb : Tb18 m n A T) (hi : i < m) (hbs : B ≤ bs) (hB : B ≤ w.heap.size) (hm : m ≤ 65) (hn : n ≤ 64) (hT : ((bd18 T 128 : Nat) : Int) < pw kw) (hk1 : 1 ≤ kw) (hK : kw ≤ 68719476736) :
  Calls Tryz.prog 20 #[.pointer (some ⟨bs,0,none⟩),.int .i64 (i : Int)] w (zII B w bs Bl Bh Ba lv m n gs A kw (i + 1)) := by
 have HLV := hid (leave18 h (hH.open_ hTb hi) hi hm hn hT hk1 hK);have H0 := hid h;have HTB := hid hTb;have HI := hid hi;have HBS := hid hbs;have HB := hid hB;have HT := hid hT;have Hk1 := hid hk1;have HK := hid hK;have hr64 : r ≤ n := hH.ec.few;have HR := hid hr64;clear h hH hTb hi hbs hB hT hk1 hK hr64;go_enter Tryz.func20,Tryz.ntmps20;go_wp2_with fail;refine HLV.out.mono ?_;rintro e w1 ⟨c,p,X1,h1,h2,h3,he⟩;have WK := hid h1;have LV := hid h2;have BB := hid (H0.out.below h3 HB.out);rcases he with ⟨rfl,hc⟩ | ⟨rfl,hc,hx,hs⟩
 ·subst hc
  have HLO := hid (zuG h1 (h2.none hn) HTB.out (by have := HI.out;omega) hm hn HT.out Hk1.out HK.out);have FIN : Hid (∀ Y X',Wk18 B Y bs Bl Bh Ba lv sv m c r ρ γ gs X' kw → Hb18 m c (i + 1) r ρ γ X' A → Touch (tl18 gs m) w1 Y → zII B w bs Bl Bh Ba lv m c gs A kw (i + 1) (.returned (.tuple #[])) Y) := fun Y X' q1 q2 q3 => ⟨sv,r,ρ,γ,X',rfl,q1,q2,zXA BB.out (h1.below q3 (Nat.le_trans HB.out h3.size))⟩
  clear HLV h1 h2 h3 H0;go_wp2_with fail;refine HLO.out.mono ?_;rintro e Y ⟨X',rfl,q1,q2,q3⟩;have FF := hid (FIN.out Y X' q1 q2 q3);clear HLO FIN q1 q2 q3;go_wp2;go_end0;exact FF.out
 ·have HMP := hid (makePositive18 h1 h2 HI.out hc hx hm hn)
  have HS := hid hs;have HC := hid hc;have hsz1 := h3.size;clear HLV h1 h2 h3 H0 hx hs;go_wp2_with fail;refine HMP.out.mono ?_;rintro e w2 ⟨X2,rfl,h1,h2,h0,h3⟩;have hB2 : B ≤ w2.heap.size := by have := HB.out;have := h3.size;omega
  have B2 := hid (zXA BB.out (WK.out.below h3 (by have := HB.out;omega)));have HLO0 := hid (h2.found HC.out h0 HS.out hn);have hr65 : r < 64 := by have := HLO0.out.ec.few;omega
  obtain ⟨V,hV⟩ : ∃ V,w2.alloc (.cells #[.int .i64 (i : Int),.int .i64 (c : Int)] 65) = V := ⟨_,rfl⟩
  obtain ⟨bv,szv⟩ := alo1 w2 (.cells #[.int .i64 (i : Int),.int .i64 (c : Int)] 65);rw [hV] at bv szv;have dV : Cel V w2.heap.size 65 [.int .i64 (i : Int),.int .i64 (c : Int)] := by rw [← hV];exact Cel.new w2 _ _
  have WV := hid (h1.now bv);have hown : sv.ownBlock ≠ some w2.heap.size := fun q => by
   rcases h1.2.2.2.2.1 with ⟨_,e⟩ | ⟨_,Bp,cap,t,e,_,_,_,_,e4⟩
   ·rw [e] at q;cases q
   ·rw [e] at q
    simp [Value.ownBlock] at q;have := e4.blk;omega
  have HIN := hid (insert18 WV.out.2.2.2.2.1 dV hown h2.pr hr65 (by omega));obtain ⟨sa,sc,hsv⟩ := h1.sform;have s2 := h1.1.at (i := 2) rfl;have HBV : Hid (Below B w V) := zXA B2.out ⟨bv.os,bv.tape,bv.output,bv.size,fun b hb => bv.block b (by omega)⟩;have EV := hid hV;have HOWN : Hid (∀ b,sv.ownBlock = some b → B ≤ b) := fun b q => by
   rcases h1.2.2.2.2.1 with ⟨_,e⟩ | ⟨_,Bp,cap,t,e,_,e1,_⟩
   ·rw [e] at q;cases q
   ·rw [e] at q
    simp [Value.ownBlock] at q;omega
  have hszv : B ≤ V.heap.size := by omega
  have HSZV := hid hszv;rw [hsv] at s2 HIN WV HOWN;clear HMP h1 h2 h0 h3 hown bv szv dV hV WK LV BB hsz1 B2 hsv hszv hB2;go_wp2_with fail;rw [EV.out];refine HIN.out.mono ?_;rintro e w3 ⟨sv',rfl,q1,q2⟩;have WK3 := hid (WV.out.steps q2 q1);have c3 : Cel w3 bs 63 [.slice (some ⟨Bl,0,none⟩) 1 1,.slice (some ⟨Bh,0,none⟩) 1 1,.slice sa r sc] := WV.out.1.ty13 (q2.tyS18 fun b q => by
   rcases WV.out.2.2.2.2.1 with ⟨_,e⟩ | ⟨_,Bp,cap,t,e,_,_,_,_,e4⟩
   ·rw [e] at q;cases q
   ·rw [e] at q
    simp [Value.ownBlock] at q;subst q;exact ⟨_,e4⟩) (by decide)
  have z2 := c3.at (i := 2) rfl;have f2 := c3.fz 2;obtain ⟨W4,hW4⟩ : ∃ W4,w3.setCell ⟨bs,2,none⟩ sv' = W4 := ⟨_,rfl⟩
  have B4 : Hid (Below B w W4) := by
   unfold Hid;rw [← hW4];exact bset (zXA HBV.out ⟨q2.os,q2.tape,q2.output,q2.size,fun b hb => q2.block b (by have := HSZV.out;omega) fun e => by have := HOWN.out b e;omega⟩) HBS.out
  have hsz4 : B ≤ W4.heap.size := by rw [← hW4];simp;have := q2.size;have := HSZV.out;omega
  rw [hW4] at WK3;have HLO := hid (zuG WK3.out HLO0.out HTB.out (by have := HI.out;omega) hm hn HT.out Hk1.out HK.out);have FIN : Hid (∀ Y X',Wk18 B Y bs Bl Bh Ba lv sv' m n (r + 1) (insF p i ρ) (insF p c γ) gs X' kw → Hb18 m n (i + 1) (r + 1) (insF p i ρ) (insF p c γ) X' A → Touch (tl18 gs m) W4 Y → zII B w bs Bl Bh Ba lv m n gs A kw (i + 1) (.returned (.tuple #[])) Y) := fun Y X' q1 q2 q3 => ⟨sv',_,_,_,X',rfl,q1,q2,zXA B4.out (WK3.out.below q3 hsz4)⟩
  have EW4 := hid hW4;obtain ⟨sa',sc',hsv'⟩ := WK3.out.sform;subst hsv';clear HIN q1 q2 c3 hW4 hsz4 WV EV HBV HOWN;go_wp2_with fail;rw [EW4.out];refine HLO.out.mono ?_;rintro e Y ⟨X',rfl,q1,q2,q3⟩;have FF := hid (FIN.out Y X' q1 q2 q3);clear HLO FIN q1 q2 q3;go_wp2;go_end0;exact FF.out
end Go.Proofs.YtmnecbniappnaaaGreat
