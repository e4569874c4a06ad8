/- The walk of WholeNumbers. -/
import Derived.Test.YtkbddjmfccbcoaaWBack
import Derived.Test.YtkbddjmfccbcoaaWNum
import Derived.Test.YtkbddjmfccbcoaaRow
namespace Go.Proofs.Ytkbddjmfccbcoaa
open Go.RowKit

/-- One number, as the law writes it: in so many bytes, if there is room, else in as few as can be. -/
def Fits (q : Nat) (v : Int) : Prop := 1 ≤ v ∧ v ≤ 8 ∧ q ≤ mostN v.toNat
instance (q : Nat) (v : Int) : Decidable (Fits q v) := by unfold Fits; exact inferInstance
def oneD (q : Nat) (v : Int) (i : Nat) : List UInt8 := if Fits q v then digits (decide (i % 2 = 0)) q v.toNat else padD q (lenD q)
theorem oneD_yes {q : Nat} {j : Nat} (i : Nat) (h : Fits q j) : oneD q j i = digits (decide (i % 2 = 0)) q j := by unfold oneD; rw [if_pos h, Int.toNat_natCast]
theorem oneD_no {q : Nat} {v : Int} (i : Nat) (h : ¬ Fits q v) : oneD q v i = padD q (lenD q) := by unfold oneD; rw [if_neg h]
def allD (L V : List Int) : Nat → List UInt8
  | 0 => []
  | k + 1 => allD L V k ++ oneD (L.getD k 0).toNat (V.getD k 0) k
theorem oneD_len (q : Nat) (v : Int) (i : Nat) (hq : q < 18446744073709551616) : (oneD q v i).length ≤ 10 := by
  unfold oneD
  split
  · rename_i h
    rw [digits_len]
    have := h.1
    have := h.2.1
    omega
  · obtain ⟨h1, h10, _, _⟩ := lenD_spec q hq
    rw [padD_len _ _ h1]
    exact h10
theorem allD_len (L V : List Int) (hL : ∀ k, (L.getD k 0).toNat < 18446744073709551616) (k : Nat) : (allD L V k).length ≤ 10 * k := by
  induction k with
  | zero => simp [allD]
  | succ k ih =>
    have := oneD_len (L.getD k 0).toNat (V.getD k 0) k (hL k)
    simp only [allD, List.length_append]
    omega
theorem allD_pre (L V : List Int) (k d : Nat) : ∃ t, allD L V (k + d) = allD L V k ++ t := by
  induction d with
  | zero => exact ⟨[], by simp⟩
  | succ d ih =>
    obtain ⟨t, ht⟩ := ih
    exact ⟨t ++ oneD (L.getD (k + d) 0).toNat (V.getD (k + d) 0) (k + d), by rw [← Nat.add_assoc]; simp only [allD, ht, List.append_assoc]⟩
theorem allD_drop (L V : List Int) (k m : Nat) (h : k < m) : ∃ t, (allD L V m).drop (allD L V k).length = oneD (L.getD k 0).toNat (V.getD k 0) k ++ t := by
  obtain ⟨t, ht⟩ := allD_pre L V (k + 1) (m - (k + 1))
  rw [show k + 1 + (m - (k + 1)) = m by omega] at ht
  refine ⟨t, ?_⟩
  rw [ht]
  simp [allD]

theorem even_eq (k : Nat) : ((k : Int) % 2 == 0) = decide (k % 2 = 0) := by
  rcases Nat.mod_two_eq_zero_or_one k with h | h
  · rw [show (k : Int) % 2 = 0 by omega, h]; rfl
  · rw [show (k : Int) % 2 = 1 by omega, h]; rfl

theorem whole_law {w : World} {A B : Option Addr} {n c m d : Nat} {L V : List Int} (hL : RdI .u64 w A n L) (hV : RdI .i64 w B m V) (hLw : ∀ x ∈ L, (Lit.int .u64 x).wf = true) :
    Calls Try.prog 14 #[.slice A n c, .slice B m d] w fun e w' => e = .returned (.bool true) ∧ Below w.heap.size w w' := by
  have hLn := hid hL.1
  have hVn := hid hV.1
  have HU := hid (fun (k : Nat) => show (L.getD k 0).toNat < 18446744073709551616 by
    by_cases h : k < L.length
    · have := wf_u64_bounds (hLw _ (List.getElem_mem h))
      rw [show L.getD k 0 = L[k] by simp [List.getD, h]]
      omega
    · rw [show L.getD k 0 = 0 by simp [List.getD, h]]
      decide)
  have HLw := hid hLw
  clear hLw
  have HQ := hid (fun w => show Calls Try.prog 37 #[.int .u64 300] w fun e w' => e = .returned (.int .i64 2) ∧ w = w' from by
    have h := len_ok 300 (by decide) w
    rw [len_300] at h
    exact h)
  by_cases hbad : 100 < n ∨ m ≠ n
  · rcases (show 100 < n ∨ decide (100 < (n : Int)) = false ∧ (((m : Int) != (n : Int)) = true) by simp; omega) with h1 | ⟨h1, h2⟩
    all_goals
      go_enter Try.func14, Try.ntmps14
      go_wp2_with (first
        | (go_at_call 17; refine (new_any _ 1 1 _).mono ?_; rintro e w1 ⟨rfl, rfl⟩)
        | (go_at_call 37; refine (HQ.out _).mono ?_; rintro e w1 ⟨rfl, rfl⟩))
      go_ret
      exact ⟨rfl, ((Below.refl _ _).alloc (Nat.le_refl _) _).alloc (by simp) _⟩
  · have h100 : n ≤ 100 := by omega
    obtain rfl : m = n := by omega
    clear hbad
    have d0 : decide (100 < (m : Int)) = false := by simp; omega
    go_enter Try.func14, Try.ntmps14
    go_wp2_with (first
      | (go_at_call 17; refine (new_any _ 1 1 _).mono ?_; rintro e w1 ⟨rfl, rfl⟩)
      | (go_at_call 37; refine (HQ.out _).mono ?_; rintro e w1 ⟨rfl, rfl⟩))
    obtain ⟨w1, hw1⟩ : ∃ w1, w1 = ((w.alloc (Obj.cells #[Value.int IntKind.u8 1] 5)).alloc (Obj.cells #[Value.slice (some { block := w.heap.size, off := 0 }) 1 1, Value.int IntKind.i64 0] 76)) := ⟨_, rfl⟩
    have hb1 : Below w.heap.size w w1 := by rw [hw1]; exact ((Below.refl _ _).alloc (Nat.le_refl _) _).alloc (by simp) _
    rw [← hw1]
    clear hw1
    refine (write_wt 2000 w.heap.size (by omega) hb1.size).mono ?_
    rintro e w2 ⟨p, rfl, hW2, hb2, hp⟩
    have hb2' := hb1.trans (hb2.mono hb1.size)
    clear hb1 hb2 hp
    go_wp2_with fail
    go_loopw [37] (fun i wr => ∃ k : Nat, k ≤ m ∧ i = .int .i64 k ∧ (∃ C cC, Wtr wr w.heap.size p C cC 2000 (allD L V k)) ∧ Below w.heap.size w wr) (fun i _ => m - (intOf i).toNat)
    case atStart => exact ⟨0, Nat.zero_le _, rfl, ⟨_, _, hW2⟩, hb2'⟩
    case round =>
      obtain ⟨k, hk, rfl, ⟨C, cC, hW⟩, hbr⟩ := hrel
      by_cases hlt : k < m
      · obtain ⟨b, o, rfl, hb, hc1⟩ := (hL.below hbr).2 (by omega)
        obtain ⟨b', o', rfl, hb', hc2⟩ := (hV.below hbr).2 (by omega)
        have hck := hc1 k (by rw [hLn.out]; exact hlt)
        have hcv := hc2 k (by rw [hVn.out]; exact hlt)
        have hkL : k < L.length := by rw [hLn.out]; exact hlt
        have hkV : k < V.length := by rw [hVn.out]; exact hlt
        obtain ⟨q, hq⟩ : ∃ q : Nat, L[k]'hkL = (q : Int) := ⟨_, (Int.toNat_of_nonneg (wf_u64_bounds (HLw.out _ (List.getElem_mem hkL))).1).symm⟩
        obtain ⟨v, hv⟩ : ∃ v : Int, v = V[k]'hkV := ⟨_, rfl⟩
        have hqD : (L.getD k 0).toNat = q := by simp [List.getD, hkL, hq]
        have hvD : V.getD k 0 = v := by simp [List.getD, hkV, hv]
        have HD := hid (show allD L V (k + 1) = allD L V k ++ oneD q v k by simp only [allD, hqD, hvD])
        have hq64 := HU.out k
        rw [hqD] at hq64
        have HQ64 := hid hq64
        have HA := hid (allD_len L V HU.out k)
        rw [hq] at hck
        rw [← hv] at hcv
        clear hc1 hc2 hb hb' hqD hvD hq hv hq64 hkL hkV
        by_cases hf : Fits q v
        · obtain ⟨j, rfl⟩ := Int.eq_ofNat_of_zero_le (show 0 ≤ v by have := hf.1; omega)
          have HY := hid (oneD_yes k hf)
          obtain ⟨h1, h8, hmo⟩ := hf
          rw [Int.toNat_natCast] at hmo
          have h1' : 1 ≤ j := by omega
          have h8' : j ≤ 8 := by omega
          have HM := hid hmo
          have hle : decide ((q : Int) ≤ (mostN j : Int)) = true := by simp; exact hmo
          clear hmo
          go_wp2_with (first
            | (go_at_call 20; refine (width_yes _ h1 h8).mono ?_; rintro e w3 ⟨rfl, rfl⟩)
            | (go_at_call 19; refine (most_ok j h1' h8').mono ?_; rintro e w3 ⟨rfl, rfl⟩))
          rw [even_eq]
          have hal : (allD L V k).length ≤ 1000 := by have := HA.out; omega
          refine (wnum_ok hW q j (decide (k % 2 = 0)) h1' h8' HM.out (by omega) (by omega)).mono ?_
          rintro e w3 ⟨rfl, C', c', hW', hC, _⟩
          have hb3 := Chg.below hbr hC hbr.size hW.ge
          rw [← HY.out, ← HD.out] at hW'
          go_wp2_with fail
          go_roundw
          case rel => exact ⟨k + 1, by omega, by go_num, ⟨_, _, hW'⟩, hb3⟩
          case measure => simp [intOf]; omega
        · have HN := hid (oneD_no k hf)
          have hcase : (v < 1 ∨ 8 < v) ∨ ∃ j : Nat, v = j ∧ 1 ≤ j ∧ j ≤ 8 ∧ mostN j < q := by
            by_cases h : v < 1 ∨ 8 < v
            · exact .inl h
            · obtain ⟨j, rfl⟩ := Int.eq_ofNat_of_zero_le (show 0 ≤ v by omega)
              refine .inr ⟨j, rfl, by omega, by omega, ?_⟩
              refine Nat.lt_of_not_le fun hh => hf ⟨by omega, by omega, ?_⟩
              rw [Int.toNat_natCast]
              exact hh
          obtain ⟨g1, g10, _, _⟩ := lenD_spec q HQ64.out
          have hpl := padD_len q (lenD q) g1
          have hal : (allD L V k).length ≤ 1000 := by have := HA.out; omega
          have HX := hid (fun w => lebput_ok (w := w) (c := 0) q HQ64.out (RdB.nil_ w none) (Nat.zero_le _))
          rcases hcase with h | ⟨j, rfl, h1, h8, hno⟩
          all_goals
            go_wp2_with (first
              | (go_at_call 20; refine (width_no _ h).mono ?_; rintro e w3 ⟨rfl, rfl⟩)
              | (go_at_call 20; refine (width_yes _ (by omega) (by omega)).mono ?_; rintro e w3 ⟨rfl, rfl⟩)
              | (go_at_call 19; refine (most_ok j h1 h8).mono ?_; rintro e w3 ⟨rfl, rfl⟩))
            refine (HX.out _).mono ?_
            rintro e w3 ⟨g, rfl, hG, hb3, hg⟩
            rw [List.nil_append] at hG
            rw [Nat.zero_add]
            have hX := RdB.of_blk hG
            rw [hpl] at hX
            have hW3 := hW.below hb3
            have hb3' := hbr.trans (hb3.mono hbr.size)
            clear hb3 hg hG hW
            go_wp2_with fail
            refine (add_ok hW3 _ (lenD q) (lenD q) _ hX (by omega) (by omega)).mono ?_
            rintro e w4 ⟨rfl, C', c', hW', hC, _⟩
            have hb4 := Chg.below hb3' hC hb3'.size hW3.ge
            rw [← HN.out, ← HD.out] at hW'
            go_wp2_with fail
            go_roundw
            case rel => exact ⟨k + 1, by omega, by go_num, ⟨_, _, hW'⟩, hb4⟩
            case measure => simp [intOf]; omega
      · obtain rfl : k = m := by omega
        have HA := hid (allD_len L V HU.out k)
        have hal : (allD L V k).length ≤ 1000 := by have := HA.out; omega
        go_wp2_with fail
        refine (bytes_at hW (by omega)).mono ?_
        rintro e w3 ⟨g, rfl, hG, hb3, hg⟩
        have hb3' := hbr.trans (hb3.mono hbr.size)
        have hD := RdB.of_blk hG
        clear hbr hb3 hg hG hW
        go_wp2_with fail
        refine (new_rd hD (Nat.le_refl _) (by omega)).mono ?_
        rintro e w4 ⟨p4, rfl, hR, hb, hp⟩
        have hb4 := hb3'.trans (hb.mono hb3'.size)
        have hpw : w.heap.size ≤ p4 := by have := hb3'.size; omega
        clear hD hb hp hb3' hW2 hb2' hlt
        go_wp2_with fail
        have HT := hid (fun k' (h : k' < k) => allD_drop L V k' k h)
        go_loopw [78] (fun i wr => ∃ k' : Nat, k' ≤ k ∧ i = .int .i64 k' ∧ Rdr wr p4 (some ⟨g, 0, none⟩) (allD L V k).length (allD L V k).length (allD L V k').length (allD L V k) ∧ Below w.heap.size w wr) (fun i _ => k - (intOf i).toNat)
        case atStart => exact ⟨0, Nat.zero_le _, rfl, hR, hb4⟩
        case round =>
          obtain ⟨k', hk', rfl, hR', hbr⟩ := hrel
          by_cases hlt : k' < k
          · obtain ⟨b, o, rfl, hb, hc1⟩ := (hL.below hbr).2 (by omega)
            obtain ⟨b', o', rfl, hb', hc2⟩ := (hV.below hbr).2 (by omega)
            have hck := hc1 k' (by rw [hLn.out]; exact hlt)
            have hcv := hc2 k' (by rw [hVn.out]; exact hlt)
            have hkL : k' < L.length := by rw [hLn.out]; exact hlt
            have hkV : k' < V.length := by rw [hVn.out]; exact hlt
            obtain ⟨q, hq⟩ : ∃ q : Nat, L[k']'hkL = (q : Int) := ⟨_, (Int.toNat_of_nonneg (wf_u64_bounds (HLw.out _ (List.getElem_mem hkL))).1).symm⟩
            obtain ⟨v, hv⟩ : ∃ v : Int, v = V[k']'hkV := ⟨_, rfl⟩
            have hqD : (L.getD k' 0).toNat = q := by simp [List.getD, hkL, hq]
            have hvD : V.getD k' 0 = v := by simp [List.getD, hkV, hv]
            have HD := hid (show allD L V (k' + 1) = allD L V k' ++ oneD q v k' by simp only [allD, hqD, hvD])
            obtain ⟨t, ht⟩ := HT.out k' hlt
            rw [hqD, hvD] at ht
            have HE := hid ht
            have hq64 := HU.out k'
            rw [hqD] at hq64
            have HQ64 := hid hq64
            rw [hq] at hck
            rw [← hv] at hcv
            have hfit : (allD L V k').length + (oneD q v k').length ≤ (allD L V k).length := by
              have h := congrArg List.length ht
              rw [List.length_drop, List.length_append] at h
              have := hR'.le
              omega
            have hnext : (allD L V (k' + 1)).length = (allD L V k').length + (oneD q v k').length := by rw [HD.out, List.length_append]
            have HF := hid hfit
            have HX := hid hnext
            clear hc1 hc2 hb hb' hqD hvD hq hv hq64 hkL hkV ht hfit hnext
            by_cases hf : Fits q v
            · obtain ⟨j, rfl⟩ := Int.eq_ofNat_of_zero_le (show 0 ≤ v by have := hf.1; omega)
              have HY := hid (oneD_yes k' hf)
              obtain ⟨h1, h8, hmo⟩ := hf
              rw [Int.toNat_natCast] at hmo
              have h1' : 1 ≤ j := by omega
              have h8' : j ≤ 8 := by omega
              have hlo := lt_of_most q j hmo
              have hol : (oneD q (j : Int) k').length = j := by rw [HY.out, digits_len]
              have hval : ofB (decide (k' % 2 = 0)) (((allD L V k).drop (allD L V k').length).take j) = q := by
                rw [HE.out, HY.out, List.take_append_of_le_length (by rw [digits_len]; exact Nat.le_refl _), List.take_of_length_le (by rw [digits_len]; exact Nat.le_refl _), ofB_digits _ _ _ h8' hlo]
              have hfit := HF.out
              have hnext := HX.out
              rw [hol] at hfit hnext
              have HV2 := hid hval
              clear hval hlo hol
              have hle : decide ((q : Int) ≤ (mostN j : Int)) = true := by simp; exact hmo
              have HMo := hid hmo
              clear hmo
              go_wp2_with (first
                | (go_at_call 20; refine (width_yes _ h1 h8).mono ?_; rintro e w3 ⟨rfl, rfl⟩)
                | (go_at_call 19; refine (most_ok j h1' h8').mono ?_; rintro e w3 ⟨rfl, rfl⟩))
              rw [even_eq]
              refine (num_ok (width := j) hR' (decide (k' % 2 = 0)) h1' h8' hfit).mono ?_
              rintro e w5 ⟨rfl, hR5, hg5⟩
              rw [HV2.out]
              have hb5 := below_grown hbr hg5 hbr.size hpw
              rw [← hnext] at hR5
              clear hR' hbr hg5 hfit hnext
              go_wp2_with fail
              go_roundw
              case rel => exact ⟨k' + 1, by omega, by go_num, hR5, hb5⟩
              case measure => simp [intOf]; omega
            · have HN := hid (oneD_no k' hf)
              have hcase : (v < 1 ∨ 8 < v) ∨ ∃ j : Nat, v = j ∧ 1 ≤ j ∧ j ≤ 8 ∧ mostN j < q := by
                by_cases h : v < 1 ∨ 8 < v
                · exact .inl h
                · obtain ⟨j, rfl⟩ := Int.eq_ofNat_of_zero_le (show 0 ≤ v by omega)
                  refine .inr ⟨j, rfl, by omega, by omega, ?_⟩
                  refine Nat.lt_of_not_le fun hh => hf ⟨by omega, by omega, ?_⟩
                  rw [Int.toNat_natCast]
                  exact hh
              obtain ⟨g1, g10, gk, gd⟩ := lenD_spec q HQ64.out
              have hS := rd_pad q (lenD q) false t HQ64.out g1 g10 gk (.inr gd)
              rw [← HN.out, ← HE.out] at hS
              have hnext := HX.out
              rw [HN.out, padD_len q (lenD q) g1] at hnext
              have HSS := hid hS
              clear hS gk gd
              rcases hcase with h | ⟨j, rfl, h1, h8, hno⟩
              all_goals
                go_wp2_with (first
                  | (go_at_call 20; refine (width_no _ h).mono ?_; rintro e w3 ⟨rfl, rfl⟩)
                  | (go_at_call 20; refine (width_yes _ (by omega) (by omega)).mono ?_; rintro e w3 ⟨rfl, rfl⟩)
                  | (go_at_call 19; refine (most_ok j h1 h8).mono ?_; rintro e w3 ⟨rfl, rfl⟩))
                refine (read_ok hR' HSS.out).mono ?_
                rintro e w5 ⟨rfl, hR5, hg5⟩
                have hb5 := below_grown hbr hg5 hbr.size hpw
                rw [← hnext] at hR5
                clear hR' hbr hg5 hnext
                go_wp2_with fail
                go_roundw
                case rel => exact ⟨k' + 1, by omega, by go_num, hR5, hb5⟩
                case measure => simp [intOf]; omega
          · obtain rfl : k' = k := by omega
            go_wp2_with (go_at_call 22; refine (left_any hR').mono ?_; rintro e w5 ⟨rfl, k5, rfl⟩)
            go_ret
            exact ⟨rfl, below_drewN hbr k5⟩
end Go.Proofs.Ytkbddjmfccbcoaa
