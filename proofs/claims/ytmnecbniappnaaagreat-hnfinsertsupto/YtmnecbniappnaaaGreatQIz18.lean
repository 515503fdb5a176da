import Derived.Test.YtmnecbniappnaaaGreatQIq18
import Derived.Test.YtmnecbniappnaaaGreatQAlikeToShift
import Derived.Test.YtmnecbniappnaaaGreatQCat9ToOpenM9
set_option maxRecDepth 100000
set_option maxHeartbeats 6400000
set_option linter.unusedVariables false
set_option linter.unusedSimpArgs false
namespace Go.Proofs.YtmnecbniappnaaaGreat
open Go.ChangeShapes Go.WideShapes Go.ChangeAt Go.RowKit
theorem open_intsI18 {H : Type} {enc : TypeId × Value → H} {W : World} {a : Option Addr} {len cap : Nat} {d : DataW H} {p : List MemPlace}
  (h0 : DataW.Trod enc Tryz.prog W 0 (fun _ => true) true 22 (.slice a len cap) d p) (hb : Rows.uptoBulk d ≤ 1048576) :
  ∃ zs ks,(Zw W (.slice a len cap) zs ks ∧ ∀ c,Value.slice a len cap = .slice none 0 c → c = 0) ∧ zs.length + ksum ks ≤ 1048576 := by
 obtain ⟨zs,ks,h1,h2⟩ := open_ints h0 hb;refine ⟨zs,ks,⟨h1,fun c e => ?_⟩,h2⟩;obtain ⟨fuel,hf⟩ := h0;rcases Deep.open_slice Tryz.underlying22 hf with ⟨hcs,_⟩ | ⟨x,len',cap',m,n,D,Pl,hcs,_⟩
 ·rw [e] at hcs
  simpa [Value.cells] using hcs
 ·rw [e] at hcs
  simp [Value.cells] at hcs
theorem hnfInserts_any {w : World} {v vx : Value} {r c : Int} {l : Nat} {zs xs : List Int} {ks : List Nat} (h : Raw w v r c l zs) (hx : Zw w vx xs ks ∧ ∀ c,vx = .slice none 0 c → c = 0) (hk : xs.length + ksum ks ≤ 1048576) :
  Calls Tryz.prog 3 #[v,vx] w fun e w' => e = .returned (.bool true) ∧ Below w.heap.size w w' := by
 have h0 := h;have hzx : Zl w vx xs 1048576 := hx.1.zl (by omega);obtain ⟨a,cap,ps,rfl,h2,h3,h4,h5⟩ := h
 by_cases hs : Snd r c l
 ·obtain ⟨r',rfl⟩ : ∃ r' : Nat,r = (r' : Int) := ⟨r.toNat,by have := hs.1;omega⟩
  obtain ⟨c',rfl⟩ : ∃ c' : Nat,c = (c' : Int) := ⟨c.toNat,by have := hs.2.2.1;omega⟩
  exact hnfInserts_ok rfl (h0.mx hs) hzx hx.2
 ·obtain ⟨ax,cx,rfl,-,-,-⟩ := hzx.form9
  exact hnfInserts_un h5 hs
end Go.Proofs.YtmnecbniappnaaaGreat
