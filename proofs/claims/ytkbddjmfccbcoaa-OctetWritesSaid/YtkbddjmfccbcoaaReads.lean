/- The helper 'reads' of the first layer's laws. -/
import Derived.Test.YtkbddjmfccbcoaaSet
namespace Go.Proofs.Ytkbddjmfccbcoaa
open Go.RowKit

/-- Behind a new block, and what leaves it as it is. -/
theorem below_after {w w1 : World} {o : Obj} (h : Below (w.alloc o).heap.size (w.alloc o) w1) : Below w.heap.size w w1 :=
  ((Below.refl _ _).alloc (Nat.le_refl _) o).trans (h.mono (by simp))

theorem reads_any (w : World) : Calls Try.prog 15 #[] w fun e w' => e = .returned (.bool true) ∧ Below w.heap.size w w' := by
  go_enter Try.func15, Try.ntmps15
  go_wp2_with fail
  have hD := RdB.of_blk (l := [1, 2, 3, 4, 5]) (Blk.fresh w 5 ([1, 2, 3, 4, 5].map isB))
  refine (new_rd hD (by decide) (by decide)).mono ?_
  rintro e w1 ⟨p, rfl, hR, hb, hp⟩
  have hb1 := below_after hb
  clear hb hD
  have hpw : w.heap.size ≤ p := by simp at hp; omega
  clear hp
  go_wp2_with fail
  refine (num_ok (width := 2) hR false (by decide) (by decide) (by decide)).mono ?_
  rintro e w2 ⟨rfl, hR2, hg2⟩
  rw [show ofB false (([1, 2, 3, 4, 5].drop 0).take 2) = 258 from by decide]
  have hb2 := below_grown hb1 hg2 hb1.size hpw
  go_wp2_with fail
  refine (num_ok (width := 2) hR2 true (by decide) (by decide) (by decide)).mono ?_
  rintro e w3 ⟨rfl, hR3, hg3⟩
  rw [show ofB true (([1, 2, 3, 4, 5].drop (0 + 2)).take 2) = 1027 from by decide]
  have hb3 := below_grown hb2 hg3 hb2.size hpw
  go_wp2_with fail
  refine (peek_yes hR3 (by decide)).mono ?_
  rintro e w4 ⟨rfl, k, rfl⟩
  rw [show (([1, 2, 3, 4, 5] : List UInt8)[0 + 2 + 2]'(by decide)).toNat = 5 from by decide]
  have hb4 := below_drewN hb3 k
  have hR4 := hR3.drewN k
  go_wp2_with fail
  have hD := RdB.of_blk (l := [9]) (Blk.fresh (w3.drewN k) 5 ([9].map isB))
  refine (put_at 258 2 false hD (by decide) (by decide) (by decide) (by decide)).mono ?_
  rintro e w5 ⟨g, rfl, hG, hb, hg⟩
  have hb5' := below_after hb
  have hb5 : Below w.heap.size w w5 := hb4.trans (hb5'.mono hb4.size)
  have hR5 := hR4.below hb5'
  have e1 : ([9] ++ digits false 258 2).map isB = [.int .u8 9, .int .u8 1, .int .u8 2] := by rw [show ([9] ++ digits false 258 2 : List UInt8) = [9, 1, 2] from by decide]; rfl
  rw [e1] at hG
  have g1 : w5.cell? ⟨g, 1, none⟩ = some (.int .u8 1) := hG.at 1
  have g2 : w5.cell? ⟨g, 2, none⟩ = some (.int .u8 2) := hG.at 2
  clear hb hg hb5' hG e1 hb4 hb3 hb2 hb1 hR hR2 hR3 hR4 hg2 hg3 hD
  go_wp2_with fail
  refine (at_any hR5).mono ?_
  rintro e w6 ⟨rfl, rfl⟩
  go_wp2_with fail
  refine (left_any hR5).mono ?_
  rintro e w6 ⟨rfl, k6, rfl⟩
  go_wp2_with fail
  refine (most_ok 2 (by decide) (by decide)).mono ?_
  rintro e w7 ⟨rfl, rfl⟩
  rw [show mostN 2 = 65535 from by decide]
  go_wp2_with fail
  have hD := RdB.of_blk (l := [1, 2]) (Blk.fresh (w5.drewN k6) 5 ([1, 2].map isB))
  refine (of_any true hD (by decide)).mono ?_
  rintro e w8 ⟨rfl, rfl⟩
  rw [show ofB true [1, 2] = 513 from by decide]
  go_wp2
  go_ret
  exact ⟨rfl, (below_drewN hb5 k6).alloc (Nat.le_trans hb5.size (Nat.le_refl _)) _⟩
end Go.Proofs.Ytkbddjmfccbcoaa
