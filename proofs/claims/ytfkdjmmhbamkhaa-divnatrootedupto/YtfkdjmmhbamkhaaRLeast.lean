/-
  RLeast: the reference's Least and Cmp.
-/
import Derived.Test.YtfkdjmmhbamkhaaJoin
import Derived.Test.YtfkdjmmhbamkhaaROrder
namespace Go.Proofs.Ytfkdjmmhbamkhaa
open Go.RowKit

theorem rleast_any {w : World} {v : Value} {xs : List Int} (h : Sl w.heap.size w v xs) (hlen : xs.length ≤ 8796093022208) :
    Calls Try.prog 15 #[v] w (Told w (val xs)) := by
  have HS := hid (split_any h hlen)
  clear h
  go_enter Try.func15, Try.ntmps15
  go_wp2_with fail
  refine HS.out.mono ?_
  rintro e w1 ⟨ds, r, rfl, hs, hc, hv, _, hb⟩
  have HV := hid hv
  clear hv HS
  go_wp2_with fail
  refine (join_any hs hc.1).mono ?_
  rintro e w2 ⟨zs, q, rfl, ho, hcz, hvz, hb2⟩
  have HVZ := hid hvz
  clear hvz
  go_wp2
  go_ret
  refine ⟨zs, q, rfl, ⟨ho.1, ?_⟩, hcz, by rw [HVZ.out, HV.out], below_step hb hb2⟩
  rcases ho.2 with h1 | ⟨g, r', h1, h2, h3, h4⟩
  · exact .inl h1
  · exact .inr ⟨g, r', Nat.le_trans hb.size h1, h2, h3, h4⟩

theorem rcmp_any {w : World} {v u : Value} {xs ys : List Int} (h : Sl w.heap.size w v xs) (h' : Sl w.heap.size w u ys) (hlen : xs.length ≤ 8796093022208) (hlen' : ys.length ≤ 8796093022208) :
    Calls Try.prog 20 #[v, u] w fun e w' => e = .returned (.int .i64 (cmpI (val xs) (val ys))) ∧ Below w.heap.size w w' := by
  go_enter Try.func20, Try.ntmps20
  go_wp2_with fail
  refine (split_any h hlen).mono ?_
  rintro e w1 ⟨ds, r, rfl, hs, hc, hv, _, hb⟩
  have h1 := h'.now hb
  have HV := hid hv
  clear hv h h'
  go_wp2_with fail
  refine (split_any h1 hlen').mono ?_
  rintro e w2 ⟨ds', r', rfl, hs', hc', hv', _, hb2⟩
  have h2 := hs.now hb2
  have HV' := hid hv'
  have hb12 := below_step hb hb2
  clear hv' h1 hs hb hb2
  go_wp2_with fail
  refine (rorder_any h2 hs' hc hc').mono ?_
  rintro e w3 ⟨rfl, n, rfl⟩
  rw [HV.out, HV'.out]
  go_wp2
  go_ret
  exact ⟨rfl, below_drewN hb12 n⟩
end Go.Proofs.Ytfkdjmmhbamkhaa
