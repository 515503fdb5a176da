/-
 QPd19ToFw19: Pd19, Aw19, Er13, Ad14, Fw19, joined.
-/
import Derived.Test.YtfeofdpnhhiclaaGreatQTailLToTl19
import Derived.Test.YtfeofdpnhhiclaaGreatQVo19ToSa19
import Derived.Test.YtfeofdpnhhiclaaGreatQZStoreToLst9
import Derived.Test.YtfeofdpnhhiclaaGreatQDu12ToSt13
import Derived.Test.YtfeofdpnhhiclaaGreatQDt13ToSl13
import Derived.Test.YtfeofdpnhhiclaaGreatQPi19ToDg19

set_option maxRecDepth 100000
set_option maxHeartbeats 6400000
set_option linter.unusedVariables false
set_option linter.unusedSimpArgs false
namespace Go.Proofs.YtfeofdpnhhiclaaGreat
theorem Md19.congr {r n : Nat} {A B : Nat → Nat → Int} {D : Int} (e : ∀ i j,i < r → j < n → A i j = B i j) (v : Nat → Int) : Md19 r n A D v ↔ Md19 r n B D v := by
 constructor
 ·rintro ⟨x,y,h⟩
  exact ⟨x,y,fun j hj => by rw [h j hj,zaA fun i hi => by rw [e i j hi hj]]⟩
 ·rintro ⟨x,y,h⟩
  exact ⟨x,y,fun j hj => by rw [h j hj,zaA (g := fun i => x i * A i j) fun i hi => by rw [e i j hi hj]]⟩
def un19 (D : Int) (i j : Nat) : Int := if i = j then D else 0
theorem un_lat {n : Nat} {D : Int} (v : Nat → Int) : Cm19 n n (un19 D) v ↔ ∃ y : Nat → Int,∀ j,j < n → v j = D * y j := by
 constructor
 ·rintro ⟨z,h⟩
  refine ⟨z,fun j hj => ?_⟩;rw [h j hj,zIB hj fun k _ hk => by unfold un19;rw [if_neg hk,Int.mul_zero]];unfold un19;rw [if_pos rfl,Int.mul_comm]
 ·rintro ⟨y,h⟩
  refine ⟨y,fun j hj => ?_⟩;rw [h j hj,zIB hj fun k _ hk => by unfold un19;rw [if_neg hk,Int.mul_zero]];unfold un19;rw [if_pos rfl,Int.mul_comm]
theorem un_red {n : Nat} {D : Int} (hD : 0 < D) : Rd19 n (un19 D) :=
 ⟨⟨fun i j _ h => if_neg (by omega),fun i _ => by unfold un19;rw [if_pos rfl];exact hD⟩,fun i j h _ => by unfold un19;rw [if_neg (by omega),if_pos rfl];omega⟩
theorem per_mul {r n : Nat} {A B : Nat → Nat → Int} {d : Int} (hd : d ≠ 0) (hB : ∀ i j,i < r → j < n → B i j = d * A i j) : Hb19 n (un19 (d.natAbs : Int)) (Md19 r n B (d.natAbs : Int)) := by
 have hp : 0 < (d.natAbs : Int) := by omega
 refine ⟨un_red hp,fun v => ?_⟩;rw [un_lat]
 constructor
 ·rintro ⟨x,y,h⟩
  have hs : ∃ s : Int,d = (d.natAbs : Int) * s := by
   rcases Int.lt_or_le d 0 with q | q
   ·exact ⟨-1,by omega⟩
   ·exact ⟨1,by omega⟩
  obtain ⟨s,hs⟩ := hs;refine ⟨fun j => s * (su r fun i => x i * A i j) + y j,fun j hj => ?_⟩;rw [h j hj,zaA (g := fun i => d * (x i * A i j)) fun i hi => by rw [hB i j hi hj];grind,zJD]
  show _ = (d.natAbs : Int) * (s * (su r fun i => x i * A i j) + y j)
  rw [Int.mul_add,← Int.mul_assoc,← hs]
 ·rintro ⟨y,h⟩
  exact ⟨fun _ => 0,y,fun j hj => by rw [h j hj,zxC fun i _ => by simp];omega⟩
open Go.RowKit
theorem aw_num19 {rs cs : List Nat} {odd : Bool} {H : Nat → Nat → Int} (h : Stz (en 1 [-6]) 1 1 rs cs odd) (hh : Hb19 (srt cs).length H (Md19 1 (srt cs).length (en (srt cs).length (zKB 1 1 [-6] (List.range 1) (srt cs))) ((detS (en 1 [-6]) rs cs odd).natAbs : Int))) : zyA H (srt cs).length = 6 := by
 have hr : rs = [0] := by
  have hl := h.le
  match rs,h,hl with
  | [],h,_ =>
   obtain ⟨k,hk,-,h2⟩ := h.drop 0 (by omega) (by simp);have hk0 : k = 0 := by simpa using hk
   subst hk0;have := h2 0 (by omega);rw [zTG] at this;exact absurd this (by decide)
  | [x],h,_ =>
   have := h.lt x (by simp);have : x = 0 := by omega
   rw [this]
  | _ :: _ :: _,_,hl => simp at hl
 have hc1 : (srt cs).length = 1 := by rw [h.srt.2.1,h.len,hr];rfl
 have hc : srt cs = [0] := by
  match hs : srt cs,hc1 with
  | [x],_ =>
   have := h.cl x ((h.srt.2.2 x).1 (by rw [hs];simp));have : x = 0 := by omega
   rw [this]
 have hd : detS (en 1 [-6]) rs cs odd = -6 := by
  rw [h.core,hr,hc]
  decide
 rw [hd,hc] at hh;rw [hc];have e := hh.one (per_mul (r := 1) (n := 1) (A := fun _ _ => 1) (d := -6) (by decide) (B := en 1 (zKB 1 1 [-6] (List.range 1) [0])) (fun i j hi hj => by
  obtain rfl : i = 0 := by omega
  obtain rfl : j = 0 := by omega
  decide)) (fun v => Iff.rfl) 0 0 (by decide) (by decide)
 show 1 * H 0 0 = 6
 rw [e]
 decide
theorem mx_one19 {V : World} {g : Nat} {n0 : Bool} {a0 : Option Addr} {l0 c0 : Nat} {z0 : Int} {k : Nat} (d : Cel V g 27 [.bool n0,.slice a0 l0 c0]) (h0 : Zi V (.agg #[.bool n0,.slice a0 l0 c0]) z0 k) : Mx V (.agg #[.int .i64 1,.int .i64 1,.slice (some ⟨g,0,none⟩) 1 1]) 1 1 [z0] k := by
 have ar : Arr V g [(.bool n0,.slice a0 l0 c0)] := ⟨d,fun p hp => by
  simp at hp;subst hp;exact ⟨_,_,_,_,rfl⟩⟩
 refine ⟨_,_,rfl,ar.prs (Nat.zero_le _) (by simp) (Nat.le_refl _),⟨rfl,fun j p z hp hz => ?_⟩,rfl,by decide,by decide⟩
 match j,hp,hz with
 | 0,hp,hz => simp at hp hz;subst hp hz;exact h0
 | j + 1,hp,hz => simp at hp
theorem zkG (w : World) : Calls Tryz.prog 6 #[] w fun e w' => e = .returned (.bool true) ∧ Below w.heap.size w w' := by
 obtain ⟨WX,hWX⟩ : ∃ WX,(w.alloc (.cells #[.int .u64 6] 38)).alloc (duo (.bool true) (.slice (some ⟨w.heap.size,0,none⟩) 1 1)) = WX := ⟨_,rfl⟩
 obtain ⟨b0,sz0⟩ := zcA w (.cells #[.int .u64 6] 38) (duo (.bool true) (.slice (some ⟨w.heap.size,0,none⟩) 1 1));rw [hWX] at b0 sz0;have dX : Duo WX (w.heap.size + 1) (.bool true) (.slice (some ⟨w.heap.size,0,none⟩) 1 1) := by rw [← hWX];exact zGA (by simp)
 have sX : Sl WX.heap.size WX (.slice (some ⟨w.heap.size,0,none⟩) 1 1) [6] := by
  have h1 := zQD w 6 ⟨by decide,by decide⟩;rw [← hWX];exact h1.now ((Below.refl _ _).alloc (Nat.le_refl _) _)
 have zX : Zi WX (.agg #[.bool true,.slice (some ⟨w.heap.size,0,none⟩) 1 1]) (-6) 1 := ⟨true,[6],_,_,rfl,sX,by simp [iv,val],by simp⟩
 have HV := hid (ziF (mx_one19 dX zX) (by decide));have EW := hid hWX;have G0 := hid b0;have SZ := hid sz0;clear sX dX zX b0 sz0 hWX;go_enter Tryz.func6,Tryz.ntmps6;go_wp2_with fail;rw [EW.out];clear EW;refine HV.out.mono ?_;rintro e w1 ⟨rs,cs,odd,nv,av,lv,cv,H,rfl,hst,hh,mv,b⟩;rw [aw_num19 hst hh] at mv;obtain ⟨V2,hV⟩ : ∃ V2,w1.alloc (duo (.bool nv) (.slice av lv cv)) = V2 := ⟨_,rfl⟩
 obtain ⟨b2,sz2⟩ := alo1 w1 (duo (.bool nv) (.slice av lv cv));rw [hV] at b2 sz2;have D2 : Duo V2 w1.heap.size (.bool nv) (.slice av lv cv) := by rw [← hV];exact Duo.new w1 _ _
 have M2 := hid (mv.now b2).zc;have G2 := hid (below_step G0.out (below_step b b2));have d0 := D2.c0;have d1 := D2.c1;obtain ⟨bv,hbv⟩ : ∃ bv,w1.heap.size = bv := ⟨_,rfl⟩
 rw [hbv] at d0 d1;have EV := hid hV;have EBV := hid hbv;clear HV hst hh mv b b2 sz2 hV D2 G0 hbv;go_wp2_with fail;rw [EV.out,EBV.out];clear EV EBV;have KB : Hid (∀ w',Below V2.heap.size V2 w' → w'.cell? ⟨bv,0,none⟩ = some (.bool nv) ∧ w'.cell? ⟨bv,1,none⟩ = some (.slice av lv cv)) := fun w' h => ⟨cnow h d0,cnow h d1⟩
 refine zFA (fun w' => w'.cell? ⟨bv,0,none⟩ = some (.bool nv) ∧ w'.cell? ⟨bv,1,none⟩ = some (.slice av lv cv)) 7 (by kernel_rfl) ?_;obtain ⟨D1,hD⟩ : ∃ D1,V2.drew = D1 := ⟨_,rfl⟩
 have GB : Hid (Below V2.heap.size V2 D1) := by unfold Hid;rw [← hD];exact (Below.refl _ _).drew
 rw [hD];clear hD;refine zEA [(0,(.int .i64 0)),(1,(.bool true)),(2,(.bool true)),(3,(.agg #[.bool nv,.slice av lv cv]))] 4 ?_ (KB.out _ GB.out) ?_
 ·simp only [zPA,gA9,g09,g19,Act.put,sI9,s09,s19]
  (repeat' (first | exact trivial | refine And.intro (Or.inl ⟨by rfl,?_⟩) ?_)) <;> (intro w hSw;(try dsimp only at hSw);go_simp)
 simp only [actV,gA9,g09,g19,Act.put,sI9,s09,s19];refine zAA (i := 4) (o := ⟨some 15,.call { callee := .value (.func 13),args := #[.const (.int .u64 6)],argTypes := #[38] },27, "law.go:38",#[⟨2,.chain⟩,⟨2,.guard⟩],some (2,true)⟩) (by kernel_rfl) rfl (fun K hK => ?_);go_simp;go_at_call 13;refine (of19 (n := 6) (by decide) (by decide) _).mono ?_;rintro e w2 ⟨a6,c6,rfl,z6,b⟩;have lz2 := (show Below _ _ _ from b).size;replace GB := hid (below_step GB.out b);have Z6 := hid z6;clear z6;clear b;refine hK.out _ _ (fun _ => KB.out _ GB.out) ?_;clear hK;refine zAA (i := 5) (o := ⟨some 16,.call { callee := .value (.func 26),args := #[.tmp 14,.tmp 15],argTypes := #[27,27] },4, "law.go:38",#[⟨3,.data⟩,⟨4,.data⟩,⟨4,.chain⟩,⟨2,.guard⟩],some (2,true)⟩) (by kernel_rfl) rfl (fun K hK => ?_);go_simp;go_at_call 26;refine (zwE (M2.out.now GB.out) Z6.out rfl).mono ?_;rintro e w3 ⟨rfl,b⟩;have lz3 := (show Below _ _ _ from b).size;replace GB := hid (below_step GB.out b);clear b;refine hK.out _ _ (fun _ => KB.out _ GB.out) ?_;clear hK;refine zEA [(6,(.bool true))] 1 ?_ (KB.out _ GB.out) ?_
 ·simp only [zPA,gA9,g09,g19,Act.put,sI9,s09,s19]
  (repeat' (first | exact trivial | refine And.intro (Or.inl ⟨by rfl,?_⟩) ?_)) <;> (intro w hSw;(try dsimp only at hSw);go_simp)
 simp only [actV,gA9,g09,g19,Act.put,sI9,s09,s19];refine zAA (i := 7) (o := ⟨some 0,.assign (.tmp 17),4, "law.go:38",#[⟨6,.data⟩,⟨5,.chain⟩,⟨0,.phase⟩,⟨1,.phase⟩,⟨2,.phase⟩,⟨3,.phase⟩,⟨4,.phase⟩,⟨5,.phase⟩,⟨6,.phase⟩],none⟩) (by kernel_rfl) rfl (fun K hK => ?_);go_simp;refine hK.out _ _ (fun h => absurd h (by decide)) ?_;clear hK
 try simp only [Act.put]
 refine zCA (by kernel_rfl) ?_ _;have FF := hid (below_step G2.out GB.out);clear GB KB Z6 M2 G2 d0 d1;go_wp2;go_ret;exact ⟨rfl,FF.out⟩
end Go.Proofs.YtfeofdpnhhiclaaGreat
namespace Go.Proofs.YtfeofdpnhhiclaaGreat

def adz (n : Nat) (A : Nat → Nat → Int) (i j : Nat) : Int := det n (stR A j (dlz i))
theorem su_dlz {n c : Nat} (hc : c < n) (f : Nat → Int) : su n (fun k => f k * dlz k c) = f c := by
 rw [zIB (i := c) hc fun k _ hk => by unfold dlz;rw [if_neg hk];simp];unfold dlz;simp
theorem adz_row {n : Nat} (A : Nat → Nat → Int) {j : Nat} (hj : j < n) (u : Nat → Int) : su n (fun k => u k * adz n A k j) = det n (stR A j u) := by
 unfold adz;rw [← (zWB n).sum hj u dlz n];refine zWA fun r c hr hc => ?_
 by_cases q : r = j
 ·subst q;rw [zZA,zZA];exact su_dlz hc u
 ·rw [zUA _ q,zUA _ q]
theorem adz_mul {n r j : Nat} (A : Nat → Nat → Int) (hr : r < n) (hj : j < n) : su n (fun k => A r k * adz n A k j) = if r = j then det n A else 0 := by
 rw [adz_row A hj (A r)]
 by_cases q : r = j
 ·subst q;rw [if_pos rfl,zfC]
 ·rw [if_neg q]
  exact (zWB n).same hr hj q fun c _ => by rw [zUA _ q,zZA]
theorem zQE {n j : Nat} (A : Nat → Nat → Int) (hj : j < n) (x : Nat → Int) : ∀ m,m ≤ n → det n (fun r c => if r < m ∧ r ≠ j then A r c + x r * A j c else A r c) = det n A
 | 0,_ => zWA fun r c _ _ => by rw [if_neg (by omega)]
 | m + 1,hm => by
  rw [← zQE A hj x m (by omega)]
  by_cases q : m = j
  ·exact zWA fun r c _ _ => by
    by_cases c1 : r < m ∧ r ≠ j
    ·rw [if_pos c1,if_pos (by omega)]
    ·rw [if_neg c1,if_neg (by omega)]
  ·obtain ⟨P,hP⟩ : ∃ P : Nat → Nat → Int,P = fun r c => if r < m ∧ r ≠ j then A r c + x r * A j c else A r c := ⟨_,rfl⟩
   have hp := (zWB n).plus (A := P) (show m < n by omega) hj q (x m);rw [← hP,← hp];refine zWA fun r c _ _ => ?_
   by_cases e : r = m
   ·subst e
    rw [zZA,if_pos (by omega),hP];simp only [];rw [if_neg (by omega),if_neg (by omega)]
   ·rw [zUA _ e,hP]
    simp only []
    by_cases c1 : r < m ∧ r ≠ j
    ·rw [if_pos c1,if_pos (by omega)]
    ·rw [if_neg c1,if_neg (by omega)]
theorem zSF {n i j : Nat} (A : Nat → Nat → Int) (hj : j < n) : adz n A i j = det n fun r c => if r = j then dlz i c else if c = i then 0 else A r c := by
 unfold adz;rw [← zQE (stR A j (dlz i)) hj (fun r => - A r i) n (Nat.le_refl _)];refine zWA fun r c hr hc => ?_
 by_cases q : r = j
 ·subst q
  rw [if_neg (by omega),if_pos rfl,zZA]
 ·rw [if_pos ⟨hr,q⟩,if_neg q,zUA _ q,zZA]
  unfold dlz
  by_cases e : c = i
  ·subst e;rw [if_pos rfl,if_pos rfl];omega
  ·rw [if_neg e,if_neg (Ne.symm e)];omega
theorem adz_turn {n i j : Nat} (A : Nat → Nat → Int) (hi : i < n) (hj : j < n) : adz n (fun a b => A b a) j i = adz n A i j := by
 rw [zSF A hj,zSF _ hi,← zeB];refine zWA fun r c hr hc => ?_
 simp only [dlz]
 by_cases q : r = j
 ·by_cases e : c = i
  ·simp [q,e]
  ·simp [q,e,Ne.symm e]
 ·by_cases e : c = i
  ·simp [q,e,Ne.symm q]
  ·simp [q,e]
theorem mul_adz {n i c : Nat} (A : Nat → Nat → Int) (hi : i < n) (hc : c < n) : su n (fun k => adz n A i k * A k c) = if i = c then det n A else 0 := by
 have h := adz_mul (fun a b => A b a) hc hi;rw [zeB] at h;have e : su n (fun k => adz n A i k * A k c) = su n (fun k => A k c * adz n (fun a b => A b a) k i) := zaA fun k hk => by
  rw [adz_turn A hi hk,Int.mul_comm]
 rw [e,h]
 by_cases q : i = c
 ·subst q;rfl
 ·rw [if_neg q,if_neg (Ne.symm q)]
theorem zuD : ∀ (n a : Nat) (l : List Nat),l.Pairwise (· < ·) → (∀ x ∈ l,a ≤ x ∧ x < a + n) → l.length = n → l = List.range' a n
 | 0,a,l,_,_,hl => by rw [List.length_eq_zero_iff.1 hl];rfl
 | n + 1,a,[],_,_,hl => by simp at hl
 | n + 1,a,x :: t,hp,hm,hl => by
  obtain ⟨hx,ht⟩ := List.pairwise_cons.1 hp;have hxa := hm x (by simp);have e := zuD n (a + 1) t ht (fun y hy => by have := hx y hy;have := hm y (by simp [hy]);omega) (by simpa using hl);have : x = a := by
   cases n with
   | zero => omega
   | succ n =>
    have := hx (a + 1) (by rw [e];simp [List.range']);omega
  rw [this,e]
  rfl
theorem zKE {A : Nat → Nat → Int} {n r : Nat} {rs cs : List Nat} {odd : Bool} (h : Stz A n r rs cs odd) (hc : cs.length = n) : srt cs = List.range n := by
 rw [List.range_eq_range'];exact zuD n 0 _ h.srt.1 (fun x hx => by have := h.cl x ((h.srt.2.2 x).1 hx);omega) (by rw [h.srt.2.1,hc])
theorem fol_det {A : Nat → Nat → Int} {n r : Nat} {rs cs : List Nat} {odd : Bool} (h : Stz A n r rs cs odd) (hc : cs.length = n) (q : Nat → Int) : Cm19 r n A fun t => detS A rs cs odd * q t := by
 refine Cm19.units (c := 0) (fun j _ hj => ?_) q fun t ht => by omega
 have hn : rs.length = n := by rw [← h.len,hc]
 have e : detS A rs cs odd = det n fun a b => A (rs.getD a 0) b := by
  rw [h.core,hn,zKE h hc];refine zWA fun a b _ hb => ?_
  simp [List.getD,hb]
 rw [e];refine (Cm19.su (s := n) (q := fun k => adz n (fun a b => A (rs.getD a 0) b) j k) (V := fun k => A (rs.getD k 0)) fun k hk => .inr (Cm19.row A (h.lt _ ?_))).congr fun t ht => ?_
 ·rw [List.getD_eq_getElem?_getD,List.getElem?_eq_getElem (by omega)];simp
 ·show _ = su n fun k => adz n (fun a b => A (rs.getD a 0) b) j k * (fun a b => A (rs.getD a 0) b) k t
  rw [mul_adz (fun a b => A (rs.getD a 0) b) hj ht];unfold dlz
  split <;> simp
theorem Md19.of_cm {A : Nat → Nat → Int} {n r : Nat} {D : Int} {v : Nat → Int} (h : Cm19 r n A v) : Md19 r n A D v := by
 obtain ⟨z,hz⟩ := h;exact ⟨z,fun _ => 0,fun j hj => by rw [hz j hj];simp⟩
theorem zFG (z : Int) : (z.natAbs : Int) = z * 1 ∨ (z.natAbs : Int) = z * -1 := by omega
theorem fol_lat {A : Nat → Nat → Int} {n r : Nat} {rs cs : List Nat} {odd : Bool} (h : Stz A n r rs cs odd) (hc : cs.length = n) (v : Nat → Int) : Md19 r n A ((detS A rs cs odd).natAbs : Int) v ↔ Cm19 r n A v := by
 refine ⟨?_,Md19.of_cm⟩;rintro ⟨x,y,e⟩;have h1 : Cm19 r n A fun j => su r fun i => x i * A i j := ⟨x,fun j _ => rfl⟩
 obtain ⟨s,hs⟩ : ∃ s : Int,((detS A rs cs odd).natAbs : Int) = detS A rs cs odd * s := (zFG _).elim (fun e => ⟨1,e⟩) fun e => ⟨-1,e⟩
 exact (h1.add (fol_det h hc fun t => s * y t)).congr fun j hj => by rw [e j hj,hs,Int.mul_assoc]
theorem zeG {n : Nat} {H : Nat → Nat → Int} (h : Tr19 n H) : ∀ d c,c + d = n → ∃ Q,zyA H n = zyA H c * Q ∧ ∀ j,c ≤ j → j < n → Cm19 n n H fun t => Q * dlz j t
 | 0,c,e => ⟨1,by rw [show c = n by omega];simp,fun j h1 h2 => by omega⟩
 | d + 1,c,e => by
  obtain ⟨Q,h1,h2⟩ := zeG h d (c + 1) (by omega);refine ⟨H c c * Q,by rw [h1];show zyA H c * H c c * Q = _;rw [Int.mul_assoc],fun j hj hjn => ?_⟩
  by_cases hjc : j = c
  ·subst hjc
   have u := Cm19.units (D := Q) h2 (fun t => if t ≤ j then 0 else H j t) fun t ht => by rw [if_pos (by omega)]
   refine (((Cm19.row H hjn).mul Q).add (u.mul (-1))).congr fun t ht => ?_
   unfold dlz
   by_cases h3 : j = t
   ·subst h3;simp [Int.mul_comm]
   ·by_cases h4 : t < j
    ·have := h.low j t hjn h4
     simp [h3,this,show t ≤ j by omega]
    ·simp [h3,show ¬ t ≤ j by omega];omega
  ·exact ((h2 j (by omega) hjn).mul (H c c)).congr fun t _ => by rw [Int.mul_assoc]
theorem fol_cm {n : Nat} {H : Nat → Nat → Int} (h : Tr19 n H) (q : Nat → Int) : Cm19 n n H fun t => zyA H n * q t := by
 obtain ⟨Q,h1,h2⟩ := zeG h n 0 (by omega);rw [h1]
 show Cm19 n n H fun t => 1 * Q * q t
 rw [Int.one_mul];exact Cm19.units h2 q fun t ht => by omega
theorem fol_one {A : Nat → Nat → Int} {n r : Nat} {rs cs : List Nat} {odd : Bool} {k : Int} {H X : Nat → Nat → Int} (h : Stz A n r rs cs odd) (hc : cs.length = n) (hH : Hb19 n H (Md19 r n A ((detS A rs cs odd).natAbs : Int))) (hX : Hb19 n X (Md19 r n A ((zyA H n * k).natAbs : Int))) : ∀ i j,i < n → j < n → X i j = H i j := by
 refine hX.one hH fun v => ⟨?_,fun hv => Md19.of_cm ((fol_lat h hc v).1 hv)⟩
 rintro ⟨x,y,e⟩;have h1 : Cm19 n n H fun j => su r fun i => x i * A i j := (hH.lat _).1 (Md19.of_cm ⟨x,fun j _ => rfl⟩)
 obtain ⟨s,hs⟩ : ∃ s : Int,((zyA H n * k).natAbs : Int) = zyA H n * k * s := (zFG _).elim (fun e => ⟨1,e⟩) fun e => ⟨-1,e⟩
 exact (hH.lat _).2 ((h1.add (fol_cm hH.rd.tri fun t => k * (s * y t))).congr fun j hj => by rw [e j hj,hs,Int.mul_assoc,Int.mul_assoc])
theorem zpC {n : Nat} {H : Nat → Nat → Int} (h : Tr19 n H) : ∀ i,i ≤ n → 0 < zyA H i
 | 0,_ => by show (0 : Int) < 1;decide
 | i + 1,hi => Int.mul_pos (zpC h i (by omega)) (h.piv i (by omega))
end Go.Proofs.YtfeofdpnhhiclaaGreat
