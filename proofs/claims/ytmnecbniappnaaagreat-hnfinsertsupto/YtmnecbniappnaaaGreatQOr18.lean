import Derived.Test.YtmnecbniappnaaaGreatQLr18ToSe18
set_option maxRecDepth 100000
set_option maxHeartbeats 6400000
set_option linter.unusedVariables false
set_option linter.unusedSimpArgs false
namespace Go.Proofs.YtmnecbniappnaaaGreat
open Go.RowKit
def updF (f : Nat → Nat) (l v : Nat) : Nat → Nat := fun a => if a = l then v else f a
theorem sc18_set {r l v : Nat} {ρ γ : Nat → Nat} (hl : l < r) (t : List Value) : (sc18 r ρ γ ++ t).set (l * 2) (.int .i64 (v : Int)) = sc18 r (updF ρ l v) γ ++ t := by
 induction r generalizing t with
 | zero => omega
 | succ r ih =>
  rw [sc18_succ,sc18_succ,List.append_assoc,List.append_assoc]
  by_cases q : l < r
  ·rw [ih q]
   unfold updF;rw [if_neg (by omega)]
  ·obtain rfl : l = r := by omega
   rw [List.set_append_right _ _ (by rw [zdA];omega),zdA,Nat.sub_self];have e : sc18 l (updF ρ l v) γ = sc18 l ρ γ := zuC fun a ha => ⟨by unfold updF;rw [if_neg (by omega)],rfl⟩
   rw [e];simp [updF]
theorem Wk18.put {B bs Bl Bh Ba m n r kw Bp cap l v : Nat} {w : World} {lv : Value} {ρ γ gs : Nat → Nat} {X : Nat → Nat → Int} (h : Wk18 B w bs Bl Bh Ba lv (.slice (some ⟨Bp,0,none⟩) r cap) m n r ρ γ gs X kw) (hl : l < r) :
  Wk18 B (w.setCell ⟨Bp,l * 2,none⟩ (.int .i64 (v : Int))) bs Bl Bh Ba lv (.slice (some ⟨Bp,0,none⟩) r cap) m n r (updF ρ l v) γ gs X kw := by
 rcases h.2.2.2.2.1 with ⟨e,_⟩ | ⟨h0,Bp',cap',t,e,e0,e1,e2,e3,e4⟩
 ·omega
 simp only [Value.slice.injEq,Option.some.injEq,Addr.mk.injEq,and_true,true_and] at e;obtain ⟨rfl,rfl⟩ := e;have ty : Ty 65 w (w.setCell ⟨Bp,l * 2,none⟩ (.int .i64 (v : Int))) := Ty.set e4;have c := e4.set (l * 2) (.int .i64 (v : Int));rw [sc18_set hl] at c;exact ⟨h.1.ty13 ty (by decide),h.2.1.ty13 ty (by decide),h.2.2.1.ty13 ty (by decide),h.2.2.2.1.ty13 ty (by decide),.inr ⟨h0,Bp,cap,t,rfl,e0,e1,e2,e3,c⟩,h.2.2.2.2.2.ty ty (by decide) (by decide) (by decide)⟩
theorem Wk18.rows {B bs Bl Bh Ba m n r kw : Nat} {w : World} {lv sv : Value} {ρ ρ' γ gs : Nat → Nat} {X : Nat → Nat → Int} (h : Wk18 B w bs Bl Bh Ba lv sv m n r ρ γ gs X kw) (e : ∀ a,a < r → ρ a = ρ' a) : Wk18 B w bs Bl Bh Ba lv sv m n r ρ' γ gs X kw := by
 refine ⟨h.1,h.2.1,h.2.2.1,h.2.2.2.1,?_,h.2.2.2.2.2⟩;rcases h.2.2.2.2.1 with q | ⟨h0,Bp,cap,t,e',e0,e1,e2,e3,e4⟩
 ·exact .inl q
 ·rw [zuC fun a ha => ⟨e a ha,rfl⟩] at e4
  exact .inr ⟨h0,Bp,cap,t,e',e0,e1,e2,e3,e4⟩
def ExO18 (B : Nat) (w : World) (bs Bl Bh Ba : Nat) (lv sv : Value) (m n r : Nat) (ρ γ : Nat → Nat) (X : Nat → Nat → Int) (kw : Nat) (e : Ending) (w' : World) : Prop :=
 ∃ gs,e = .returned (.tuple #[]) ∧ Wk18 B w' bs Bl Bh Ba lv sv m n r ρ γ gs X kw ∧ Below B w w'
theorem exch18 {B bs Bl Bh Ba m n r kw i j : Nat} {w : World} {lv sv : Value} {ρ γ gs : Nat → Nat} {X : Nat → Nat → Int} (h : Wk18 B w bs Bl Bh Ba lv sv m n r ρ γ gs X kw) (hi : i < m) (hj : j < m) (hm : m ≤ 65) (hB : B ≤ w.heap.size) :
  Calls Tryz.prog 45 #[.pointer (some ⟨bs,0,none⟩),.int .i64 (i : Int),.int .i64 (j : Int)] w (ExO18 B w bs Bl Bh Ba lv sv m n r ρ γ (swpX X i j) kw) := by
 by_cases q : i = j
 ·subst q
  refine (exch_same18 (w := w) (bs := bs) (i := i) (by omega)).mono fun e w' ⟨h1,h2⟩ => ?_
  subst h2;refine ⟨gs,h1,h.congr fun t c _ _ => ?_,Below.refl _ _⟩;unfold swpX
  by_cases q : t = i
  ·rw [if_pos q,q]
  ·rw [if_neg q,if_neg q]
 ·obtain ⟨Lb,cap,rfl⟩ := h.form (by omega)
  have hl := h.2.2.2.2.2.line.1;exact (exchange18 h hi hj q hm).mono fun e w' ⟨h1,h2,h3⟩ => ⟨_,h1,h2,⟨h3.os,h3.tape,h3.output,h3.size,fun b hb => h3.block b (by omega) (by show ¬ b = Lb;omega)⟩⟩
def orL (ρ : Nat → Nat) (k j : Nat) : Nat → Nat := fun l => if l < j ∧ ρ l = k then ρ k else ρ l
def zcH (B : Nat) (w : World) (bs Bl Bh Ba : Nat) (lv sv : Value) (m n r : Nat) (ρ γ gs : Nat → Nat) (X : Nat → Nat → Int) (kw k gk : Nat) (s : Value) (wx : World) : Prop :=
 ∃ l : Nat,s = .int .i64 (l : Int) ∧ l ≤ r ∧ gk = r - l ∧ Wk18 B wx bs Bl Bh Ba lv sv m n r (orL ρ k l) γ gs X kw ∧ Below B w wx ∧ B ≤ wx.heap.size
def zNI (B : Nat) (w : World) (bs Bl Bh Ba : Nat) (lv sv : Value) (m n r : Nat) (γ : Nat → Nat) (A : Nat → Nat → Int) (kw gk : Nat) (s : Value) (wx : World) : Prop :=
 ∃ (k : Nat) (ρ gs : Nat → Nat) (X : Nat → Nat → Int),s = .int .i64 (k : Int) ∧ k ≤ r ∧ gk = r - k ∧ Wk18 B wx bs Bl Bh Ba lv sv m n r ρ γ gs X kw ∧ Hb18 m n m r ρ γ X A ∧ (∀ a,a < k → ρ a = a) ∧ Below B w wx ∧ B ≤ wx.heap.size
def zeI (B : Nat) (w : World) (bs Bl Bh Ba : Nat) (lv sv : Value) (m n r : Nat) (γ : Nat → Nat) (A : Nat → Nat → Int) (kw : Nat) (e : Ending) (w' : World) : Prop :=
 ∃ gs X,e = .returned (.tuple #[]) ∧ Wk18 B w' bs Bl Bh Ba lv sv m n r id γ gs X kw ∧ Hb18 m n m r id γ X A ∧ Below B w w'
theorem zrG {B bs Bl Bh Ba m n r kw : Nat} {w : World} {lv sv : Value} {ρ γ gs : Nat → Nat} {X A : Nat → Nat → Int} (h : Wk18 B w bs Bl Bh Ba lv sv m n r ρ γ gs X kw) (hH : Hb18 m n m r ρ γ X A) (hB : B ≤ w.heap.size) (hm : m ≤ 65) (hn : n ≤ 64) :
  Calls Tryz.prog 21 #[.pointer (some ⟨bs,0,none⟩)] w (zeI B w bs Bl Bh Ba lv sv m n r γ A kw) := by
 obtain ⟨sa,sc,rfl⟩ := h.sform;have hr64 : r ≤ 64 := by have := hH.ec.few;omega
 have s2 := h.1.at (i := 2) rfl;have H0 : Hid (zNI B w bs Bl Bh Ba lv (.slice sa r sc) m n r γ A kw r (.int .i64 ((0 : Nat) : Int)) w) := ⟨0,ρ,gs,X,rfl,Nat.zero_le _,rfl,h,hH,fun a ha => by omega,Below.refl _ _,hB⟩
 clear h hH hB;go_enter Tryz.func21,Tryz.ntmps21;go_wp2_with fail;clear s2
 go_loopg [11] r (fun gk s11 wx => zNI B w bs Bl Bh Ba lv (.slice sa r sc) m n r γ A kw gk s11 wx)
 case atStart => exact H0.out
 case round =>
  clear H0 ρ gs X;obtain ⟨k,ρ,gs,X,rfl,hkr,hgk,hwk,hhb,hid0,hbel,hsz⟩ := hrel;have WK := hid hwk;have HB := hid hhb;have HID := hid hid0;have BL := hid hbel;have SZ := hid hsz;have HG := hid hgk;clear hwk hhb hid0 hbel hsz hgk
  by_cases hlt : k < r
  ·have hlt' : (k : Int) < (r : Int) := by omega
   have hrk := HB.out.ec.rl k hlt;have hkm : k < m := by
    refine Classical.byContradiction fun q => ?_
    have q1 := HID.out (ρ k) (by omega);have q2 := HB.out.ec.inj (ρ k) k (by omega) hlt q1;omega
   obtain ⟨Bp,rfl,hrsc⟩ : ∃ Bp,sa = some ⟨Bp,0,none⟩ ∧ r ≤ sc := by
    rcases WK.out.2.2.2.2.1 with ⟨e,_⟩ | ⟨h0,Bp,cap,t,e,e0,_⟩
    ·omega
    ·simp only [Value.slice.injEq,true_and] at e
     exact ⟨Bp,e.1,by omega⟩
   have CELS : Hid (∀ (wx : World) (ρ' gs' : Nat → Nat) (X' : Nat → Nat → Int),Wk18 B wx bs Bl Bh Ba lv (.slice (some ⟨Bp,0,none⟩) r sc) m n r ρ' γ gs' X' kw → B ≤ Bp ∧ Bp < wx.heap.size ∧ ∀ a,a < r → wx.cell? ⟨Bp,a * 2,none⟩ = some (.int .i64 (ρ' a : Int)) ∧ wx.cell? ⟨Bp,a * 2 + 1,none⟩ = some (.int .i64 (γ a : Int)) ∧ wx.frozen? ⟨Bp,a * 2,none⟩ = false) := fun wx ρ' gs' X' hw => by
    rcases hw.2.2.2.2.1 with ⟨e,_⟩ | ⟨h0,Bp',cap,t,e,e0,e1,e2,e3,e4⟩
    ·omega
    simp only [Value.slice.injEq,Option.some.injEq,Addr.mk.injEq,and_true,true_and] at e;obtain ⟨rfl,rfl⟩ := e;exact ⟨e1,e4.blk,fun a ha => ⟨e4.at (zuB ha t).1,e4.at (zuB ha t).2,e4.fz _⟩⟩
   have HMM : Hid (r - (k + 1) < gk) := by unfold Hid;rw [HG.out];omega
   have hwk1 := zVA (i := k) (by omega);have s2 := WK.out.1.at (i := 2) rfl;have c0 := ((CELS.out wr ρ gs X WK.out).2.2 k hlt).1;have HEX := hid (exch18 WK.out hrk hkm hm SZ.out);have HKM := hid (show ρ k < m ∧ k < m ∧ k < r from ⟨hrk,hkm,hlt⟩);obtain ⟨fr,hfr⟩ : ∃ fr,ρ k = fr := ⟨_,rfl⟩
   rw [hfr] at c0 HEX;have EFR := hid hfr;clear HG hrk hkm hfr;go_wp2_with fail;refine HEX.out.mono ?_;rintro e w2 ⟨gs2,rfl,h1,h2⟩;have WK2 := hid h1;have BL2 := hid (zXA BL.out h2);have SZ2 : Hid (B ≤ w2.heap.size) := Nat.le_trans SZ.out h2.size;have s3 := h1.1.at (i := 2) rfl;have H1 : Hid (zcH B w bs Bl Bh Ba lv (.slice (some ⟨Bp,0,none⟩) r sc) m n r ρ γ gs2 (swpX X fr k) kw k r (.int .i64 ((0 : Nat) : Int)) w2) := ⟨0,rfl,Nat.zero_le _,rfl,h1.rows fun a _ => by unfold orL;rw [if_neg (by omega)],BL2.out,SZ2.out⟩
   clear HEX h1 h2 WK BL SZ c0 s2 WK2;go_wp2_with fail;clear s3
   go_loopg [31] r (fun gk s31 wx => zcH B w bs Bl Bh Ba lv (.slice (some ⟨Bp,0,none⟩) r sc) m n r ρ γ gs2 (swpX X fr k) kw k gk s31 wx)
   case atStart => exact H1.out
   case round =>
    clear H1;obtain ⟨l,rfl,hlr,hgk,hwk,hbel,hsz⟩ := hrel;have WK := hid hwk;have BL := hid hbel;have SZ := hid hsz;have HG2 := hid hgk;clear hwk hbel hsz hgk
    by_cases hll : l < r
    ·have hll' : (l : Int) < (r : Int) := by omega
     obtain ⟨e1,e2,hc⟩ := CELS.out wr _ _ _ WK.out;obtain ⟨d0,d1,-⟩ := hc l hll;have el : orL ρ k l l = ρ l := if_neg (by omega);rw [el] at d0;obtain ⟨V,hV⟩ : ∃ V,wr.alloc (.cells #[.int .i64 (ρ l : Int),.int .i64 (γ l : Int)] 65) = V := ⟨_,rfl⟩
     obtain ⟨bv,szv⟩ := alo1 wr (.cells #[.int .i64 (ρ l : Int),.int .i64 (γ l : Int)] 65);rw [hV] at bv szv;have dV : Cel V wr.heap.size 65 [.int .i64 (ρ l : Int),.int .i64 (γ l : Int)] := by rw [← hV];exact Cel.new wr _ _
     have v0 := dV.at (i := 0) rfl;have WKV := hid (WK.out.now bv);have BLV : Hid (Below B w V) := zXA BL.out ⟨bv.os,bv.tape,bv.output,bv.size,fun b hb => bv.block b (by have := SZ.out;omega)⟩;have SZV : Hid (B ≤ V.heap.size) := by unfold Hid;have := SZ.out;omega
     have HM2 : Hid (r - (l + 1) < gk) := by unfold Hid;rw [HG2.out];omega
     have hwl := zVA (i := l) (by omega);have z2 := WKV.out.1.at (i := 2) rfl;obtain ⟨-,-,hcV⟩ := CELS.out V _ _ _ WKV.out;obtain ⟨y0,-,y2⟩ := hcV l hll;rw [el] at y0;have EV := hid hV;rw [← hV] at v0 z2 y0 y2;have HBP := hid e1;clear HG2 bv szv dV hV WK BL SZ hc hcV e1 e2 el
     by_cases hq : ρ l = k
     ·have hq' : ((ρ l : Nat) : Int) = (k : Int) := by omega
      have HN1 : Hid (zcH B w bs Bl Bh Ba lv (.slice (some ⟨Bp,0,none⟩) r sc) m n r ρ γ gs2 (swpX X fr k) kw k (r - (l + 1)) (.int .i64 ((l + 1 : Nat) : Int)) (V.setCell ⟨Bp,l * 2,none⟩ (.int .i64 (fr : Int)))) := by
       refine ⟨l + 1,rfl,by omega,rfl,(WKV.out.put hll).rows fun a ha => ?_,bset BLV.out HBP.out,by have := SZV.out;simpa using this⟩;unfold updF orL
       by_cases q : a = l
       ·subst q;rw [if_pos rfl,if_pos ⟨by omega,hq⟩,EFR.out]
       ·rw [if_neg q]
        by_cases q2 : a < l ∧ ρ a = k
        ·rw [if_pos q2,if_pos ⟨by omega,q2.2⟩]
        ·rw [if_neg q2,if_neg (by omega)]
      rw [hq] at d0 v0 y0 y2 z2 EV;clear hq hq' WKV BLV SZV;go_wp2_with fail;rw [EV.out];go_roundg (r - (l + 1))
      case rel => exact HN1.out
      case measure => exact HM2.out
     ·have hq' : ¬ ((ρ l : Nat) : Int) = (k : Int) := by omega
      have HN1 : Hid (zcH B w bs Bl Bh Ba lv (.slice (some ⟨Bp,0,none⟩) r sc) m n r ρ γ gs2 (swpX X fr k) kw k (r - (l + 1)) (.int .i64 ((l + 1 : Nat) : Int)) V) := by
       refine ⟨l + 1,rfl,by omega,rfl,WKV.out.rows fun a ha => ?_,BLV.out,SZV.out⟩;unfold orL
       by_cases q : a = l
       ·subst q;rw [if_neg (by omega),if_neg (fun h => hq h.2)]
       ·by_cases q2 : a < l ∧ ρ a = k
        ·rw [if_pos q2,if_pos ⟨by omega,q2.2⟩]
        ·rw [if_neg q2,if_neg (by omega)]
      have hq2 : ¬ ρ l = k := hq;clear WKV BLV SZV y0 y2 z2;go_wp2_with fail;rw [EV.out];go_roundg (r - (l + 1))
      case rel => exact HN1.out
      case measure => exact HM2.out
    ·have hll' : ¬ (l : Int) < (r : Int) := by omega
     obtain rfl : l = r := by omega
     obtain ⟨e1,e2,hc⟩ := CELS.out wr _ _ _ WK.out;obtain ⟨d0,-,d2⟩ := hc k HKM.out.2.2;have z2 := WK.out.1.at (i := 2) rfl;have HN1 : Hid (zNI B w bs Bl Bh Ba lv (.slice (some ⟨Bp,0,none⟩) l sc) m n l γ A kw (l - (k + 1)) (.int .i64 ((k + 1 : Nat) : Int)) (wr.setCell ⟨Bp,k * 2,none⟩ (.int .i64 (k : Int)))) := by
      obtain ⟨q1,q2⟩ := HB.out.swap HKM.out.2.2 HKM.out.2.1 HID.out;rw [EFR.out] at q1;refine ⟨k + 1,ordR ρ k,gs2,_,rfl,by have := HKM.out;omega,rfl,(WK.out.put HKM.out.2.2).rows fun a ha => ?_,q1,q2,bset BL.out e1,by have := SZ.out;simpa using this⟩;unfold updF orL ordR
      by_cases q : a = k
      ·rw [if_pos q,if_pos q]
      ·rw [if_neg q,if_neg q]
       by_cases q2 : ρ a = k
       ·rw [if_pos ⟨ha,q2⟩,if_pos q2]
       ·rw [if_neg (fun h => q2 h.2),if_neg q2]
     obtain ⟨dv,hdv⟩ : ∃ dv,orL ρ k l k = dv := ⟨_,rfl⟩
     rw [hdv] at d0;clear WK BL SZ HG2 e1 e2 hc hdv;go_wp2_with fail;go_roundg (l - (k + 1))
     case rel => exact HN1.out
     case measure => exact HMM.out
  ·have hlt' : ¬ (k : Int) < (r : Int) := by omega
   obtain rfl : k = r := by omega
   have FF : Hid (zeI B w bs Bl Bh Ba lv (.slice sa k sc) m n k γ A kw (.returned (.tuple #[])) wr) := ⟨gs,X,rfl,WK.out.rows fun a ha => HID.out a ha,HB.out.fin HID.out,BL.out⟩
   clear WK HB HID BL SZ HG;go_wp2;go_end0;exact FF.out
def zLI (B : Nat) (w : World) (bs Bl Bh Ba : Nat) (lv : Value) (m n : Nat) (gs : Nat → Nat) (A : Nat → Nat → Int) (kw gk : Nat) (s : Value) (wx : World) : Prop :=
 ∃ (i : Nat) (sv : Value) (r : Nat) (ρ γ : Nat → Nat) (X : Nat → Nat → Int),s = .int .i64 (i : Int) ∧ i ≤ m ∧ gk = m - i ∧ Wk18 B wx bs Bl Bh Ba lv sv m n r ρ γ gs X kw ∧ Hb18 m n i r ρ γ X A ∧ Below B w wx ∧ B ≤ wx.heap.size
def zdI (B : Nat) (w : World) (bs Bl Bh Ba : Nat) (lv : Value) (m n : Nat) (A : Nat → Nat → Int) (kw : Nat) (e : Ending) (w' : World) : Prop :=
 ∃ sv r γ gs X,e = .returned (.tuple #[]) ∧ Wk18 B w' bs Bl Bh Ba lv sv m n r id γ gs X kw ∧ Hb18 m n m r id γ X A ∧ Below B w w'
theorem settleAll18 {B bs Bl Bh Ba m n kw T : Nat} {w : World} {lv : Value} {ρ γ gs : Nat → Nat} {A : Nat → Nat → Int} (h : Wk18 B w bs Bl Bh Ba lv (.slice none 0 0) m n 0 ρ γ gs A kw) (hTb : Tb18 m n A T) (hbs : B ≤ bs) (hB : B ≤ w.heap.size) (hm : m ≤ 65) (hn : n ≤ 64) (hT : ((bd18 T 128 : Nat) : Int) < pw kw) (hk1 : 1 ≤ kw) (hK : kw ≤ 68719476736) :
  Calls Tryz.prog 29 #[.pointer (some ⟨bs,0,none⟩),.int .i64 (m : Int)] w (zdI B w bs Bl Bh Ba lv m n A kw) := by
 have H0 : Hid (zLI B w bs Bl Bh Ba lv m n gs A kw m (.int .i64 ((0 : Nat) : Int)) w) := ⟨0,_,0,ρ,γ,A,rfl,Nat.zero_le _,rfl,h,Hb18.first m n ρ γ A,Below.refl _ _,hB⟩
 have HTB := hid hTb;have HBS := hid hbs;have HT := hid hT;have Hk1 := hid hk1;have HK := hid hK;clear h hTb hbs hB hT hk1 hK;go_enter Tryz.func29,Tryz.ntmps29;go_wp2_with fail
 go_loopg [6] m (fun gk s6 wx => zLI B w bs Bl Bh Ba lv m n gs A kw gk s6 wx)
 case atStart => exact H0.out
 case round =>
  clear H0;obtain ⟨i,sv,r,ρ,γ,X,rfl,him,hgk,hwk,hhb,hbel,hsz⟩ := hrel
  by_cases hlt : i < m
  ·have hlt' : (i : Int) < (m : Int) := by omega
   have hwi := zVA (i := i) (by omega);have HSE := hid (zAG hwk hhb HTB.out hlt HBS.out hsz hm hn HT.out Hk1.out HK.out);have BL := hid hbel;have SZ := hid hsz;have HMM : Hid (m - (i + 1) < gk) := by unfold Hid;omega
   clear hwk hhb hbel hsz hgk;go_wp2_with fail;refine HSE.out.mono ?_;rintro e w2 ⟨sv',r',ρ',γ',X',rfl,h1,h2,h3⟩;have HN1 : Hid (zLI B w bs Bl Bh Ba lv m n gs A kw (m - (i + 1)) (.int .i64 ((i + 1 : Nat) : Int)) w2) := ⟨i + 1,sv',r',ρ',γ',X',rfl,by omega,rfl,h1,h2,zXA BL.out h3,Nat.le_trans SZ.out h3.size⟩
   clear HSE h1 h2 h3 BL SZ;go_wp2_with fail;go_roundg (m - (i + 1))
   case rel => exact HN1.out
   case measure => exact HMM.out
  ·have hlt' : ¬ (i : Int) < (m : Int) := by omega
   obtain rfl : i = m := by omega
   have HOR := hid (zrG hwk hhb hsz hm hn);have BL := hid hbel;clear hwk hhb hbel hsz hgk;go_wp2_with fail;refine HOR.out.mono ?_;rintro e w2 ⟨gs',X',rfl,h1,h2,h3⟩;have FF : Hid (zdI B w bs Bl Bh Ba lv i n A kw (.returned (.tuple #[])) w2) := ⟨sv,r,γ,gs',X',rfl,h1,h2,zXA BL.out h3⟩
   clear HOR h1 h2 h3 BL;go_wp2;go_end0;exact FF.out
end Go.Proofs.YtmnecbniappnaaaGreat
