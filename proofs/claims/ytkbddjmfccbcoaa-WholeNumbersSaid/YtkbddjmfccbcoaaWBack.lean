/- The walk of LebBack. -/
import Derived.Test.YtkbddjmfccbcoaaWLeb
namespace Go.Proofs.Ytkbddjmfccbcoaa
open Go.RowKit

/-- All digits but the last are no number: it ends too soon. -/
theorem rd_short (n k : Nat) (h1 : 1 ≤ k) (h10 : k ≤ 10) : RdRes ((padD n k).take (k - 1)) true 0 0 10 := by
  have hl := padD_len n k h1
  have hT : ((padD n k).take (k - 1)).length = k - 1 := by rw [List.length_take]; omega
  refine ⟨k - 1, by omega, ⟨by omega, fun i hi hik => ?_⟩, .inr (.inl ⟨hT.symm, rfl, rfl, rfl⟩)⟩
  have h := pad_at_lt n k i (by omega)
  rw [List.getElem_take, (List.getElem?_eq_some_iff.1 h).2, hiD_nat]
  omega

theorem own_cap {w : World} {base : Nat} {e : TypeId} {A : Option Addr} {n c : Nat} {xs : List Value} (h : w.ownsRow base e 1 (.slice A n c) n xs) : n ≤ c ∧ c ≤ 9223372036854775807 := by
  rcases h.2 with ⟨hv, h0⟩ | ⟨g, cap, cur, hv, hb, hg, hnc, hcm, hcs, ht⟩
  · injection hv with h1 h2 h3
    omega
  · injection hv with h1 h2 h3
    simp only [maxLen] at hcm
    omega

theorem RdB.lt {w : World} {A : Option Addr} {n : Nat} {l : List UInt8} (h : RdB w A n l) : 0 < n → ∀ a, A = some a → a.block < w.heap.size := by
  intro hn a ha
  obtain ⟨b, o, e, hb, _⟩ := h.2 hn
  rw [ha] at e
  injection e with e
  subst e
  exact hb

theorem lebBack_law {w : World} (n : Nat) (hn : n < 18446744073709551616) {A : Option Addr} {m c : Nat} {lb : List UInt8} (hR : RdB w A m lb) :
    Calls Try.prog 8 #[.int .u64 n, .slice A m c] w fun e w' => e = .returned (.bool true) ∧ Below w.heap.size w w' := by
  by_cases h100 : 100 < m
  · go_enter Try.func8, Try.ntmps8
    go_wp2_with (go_at_call 34; refine (folds_any _).mono ?_; rintro e w1 ⟨rfl, hb1⟩)
    go_ret
    exact ⟨rfl, hb1⟩
  · obtain ⟨g1, g10, gk, gd⟩ := lenD_spec n hn
    have hS := hid (rd_pad n (lenD n) false lb hn g1 g10 gk (.inr gd))
    have hS2 := hid (rd_short n (lenD n) g1 g10)
    have HP := hid (fun w => refput_ok (w := w) n hn)
    have HQ := hid (fun (w : World) (hX : RdB w A m lb) => lebput_ok (w := w) (c := c) n hn hX (by omega))
    have HL := hid (len_ok n hn)
    have hpl := hid (padD_len n (lenD n) g1)
    have hbl := hid hR.1
    clear gk gd hn
    go_enter Try.func8, Try.ntmps8
    go_wp2_with (go_at_call 34; refine (folds_any _).mono ?_; rintro e w1 ⟨rfl, hb1⟩)
    go_wp2_with fail
    refine (HP.out _).mono ?_
    rintro e w2 ⟨A2, c2, rfl, hO, hb⟩
    have hb2 := hb1.trans (hb.mono hb1.size)
    have hW2 := RdB.of_own hO
    have hcap2 := own_cap hO
    clear hO hb
    go_wp2_with fail
    refine (HQ.out _ (hR.below hb2)).mono ?_
    rintro e w3 ⟨g, rfl, hG, hb, hg⟩
    have hb3 := hb2.trans (hb.mono hb2.size)
    have hW3 := hW2.below hb
    have hR3 := hR.below hb3
    have hB3 := RdB.of_blk hG
    rw [List.length_append, hpl.out, hbl.out] at hB3
    have hs1 := run_str hB3 (m + lenD n)
    have hs2 := run_str hR3 c
    have hs3 := run_str hW3 c2
    have hS3 : (⟨(lb ++ padD n (lenD n)).toArray⟩ : ByteArray) = ⟨lb.toArray⟩ ++ ⟨(padD n (lenD n)).toArray⟩ := by
      apply ByteArray.ext
      simp
    rw [hS3] at hs1
    have hz1 : (⟨lb.toArray⟩ : ByteArray).size ≤ 500 := by have := hbl.out; show lb.length ≤ 500; omega
    have hz2 : (⟨(padD n (lenD n)).toArray⟩ : ByteArray).size ≤ 500 := by have := hpl.out; show (padD n (lenD n)).length ≤ 500; omega
    clear hS3 hG hb hg hb2 hb1 hB3 hW2
    generalize (⟨lb.toArray⟩ : ByteArray) = S1 at *
    generalize (⟨(padD n (lenD n)).toArray⟩ : ByteArray) = S2 at *
    have hz3 : S1.size + S2.size ≤ 9223372036854775807 := by omega
    have hown := own_made w3 w3.heap.size [] (Nat.le_refl _) (by simp)
    have hb3a := hb3.alloc hb3.size (.cells (([] : List UInt8).map isB).toArray 5)
    have hW3a := hW3.alloc (.cells (([] : List UInt8).map isB).toArray 5)
    have hb3b : Below w3.heap.size w3 (w3.alloc (.cells (([] : List UInt8).map isB).toArray 5)) := (Below.refl _ _).alloc (Nat.le_refl _) _
    go_wp2_with (first
      | (go_at_call 37; refine (HL.out _).mono ?_; rintro e w4 ⟨rfl, rfl⟩)
      | (at_builtin; refine wpList_appB rfl (.tmp 37) (.tmp 38) rfl w3.heap.size (.slice (some ⟨w3.heap.size, 0, none⟩) 0 0) 0 _ rfl hown A2 (lenD n) c2 _ rfl hW3a (by omega) (hb3b.size) ?_; intro A4 c4 w4 HO hg HV; rw [Nat.zero_add] at HO HV ⊢; have hb4 := hb3b.grown hg hb3b.size (fun j hj => by simp [Value.ownBlock] at hj; omega))
      | (at_builtin; refine wpList_appB rfl (.tmp 39) (.tmp 40) rfl w3.heap.size (.slice A4 (lenD n) c4) (lenD n) _ rfl HO.out A m c _ rfl (hR3.below hb4) (by omega) (hb4.size) ?_; intro A5 c5 w5 HO5 hg5 HV5))
    have hb5 : Below w3.heap.size w3 w5 := hb4.grown hg5 hb4.size (fun j hj => by
      rcases HV.out with h | h
      · rw [h] at hj; simp [Value.ownBlock] at hj; omega
      · rw [h] at hj; simp at hj; omega)
    have hcap := own_cap HO5.out
    have hD := RdB.of_own (l := padD n (lenD n) ++ lb) (by have := HO5.out; rw [List.map_nil, List.nil_append, ← List.map_append] at this; exact this)
    have hW5 := hW3.below hb5
    have hb5' := hb3.trans (hb5.mono hb3.size)
    clear HO HV hg HO5 hg5 HV5 hown hb3a hW3a hb3b hb4 hb5 hb3 hW3 hs1 hs2 hs3 hR3
    refine (new_rd hD hcap.1 hcap.2).mono ?_
    rintro e w6 ⟨p, rfl, hR6, hb, hp⟩
    have hb6 := hb5'.trans (hb.mono hb5'.size)
    have hpw : w.heap.size ≤ p := by have := hb5'.size; omega
    have hW6 := hW5.below hb
    have hW5l := hW5.lt
    clear hb hW5
    go_wp2_with fail
    refine (read_ok (rd := 0) hR6 (by rw [List.drop_zero]; exact hS.out)).mono ?_
    rintro e w7 ⟨rfl, hR7, hg7⟩
    have hb7 := below_grown hb6 hg7 hb6.size hpw
    have hW7 := hW6.grown hg7 (fun hn0 a ha e => by have := hW5l hn0 a ha; injection e with e; omega)
    have hT := hW7.front (lenD n - 1) (by omega)
    have hTl := fun k => (hT.drewN k)
    have hsl := run_sliceB_to A2 (lenD n) c2 (lenD n - 1)
    have hc2' : lenD n - 1 ≤ c2 := by omega
    have hcc := hsl hc2'
    rw [show ((lenD n - 1 : Nat) : Int) = (lenD n : Int) - 1 by omega] at hcc
    have hleft : ((((lenD n + m : Nat) : Int) - ((0 + lenD n : Nat) : Int)) != (m : Int)) = false := by simp; omega
    clear hR6 hg7 hb6 hb5' hW6 hW7 hW5l hT hp hpw hsl hc2'
    go_wp2_with (go_at_call 22; refine (left_any hR7).mono ?_; rintro e w8 ⟨rfl, k, rfl⟩)
    have hb8 := below_drewN hb7 k
    refine (new_rd (hTl k) (by omega) hcap2.2).mono ?_
    rintro e w9 ⟨p9, rfl, hR9, hb, hp⟩
    have hb9 := hb8.trans (hb.mono hb8.size)
    have hpw : w.heap.size ≤ p9 := by have := hb8.size; omega
    go_wp2_with fail
    refine (read_ok (rd := 0) hR9 (by rw [List.drop_zero]; exact hS2.out)).mono ?_
    rintro e w10 ⟨rfl, hR10, hg10⟩
    have hb10 := below_grown hb9 hg10 hb9.size hpw
    go_wp2
    go_ret
    exact ⟨rfl, hb10⟩
end Go.Proofs.Ytkbddjmfccbcoaa
