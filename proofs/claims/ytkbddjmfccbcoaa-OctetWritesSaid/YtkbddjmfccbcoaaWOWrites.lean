/- The walk of OctetWrites. -/
import Derived.Test.YtkbddjmfccbcoaaReads
import Derived.Test.YtkbddjmfccbcoaaGrid
import Derived.Deep.RegionHeld
namespace Go.Proofs.Ytkbddjmfccbcoaa
open Go.RowKit

/-- What is written behind k pieces, if no more than 'most' bytes are. -/
def kept (most : Nat) (ls : Nat → List UInt8) : Nat → List UInt8
  | 0 => []
  | k + 1 => if (kept most ls k).length + (ls k).length ≤ most then kept most ls k ++ ls k else kept most ls k
theorem kept_yes {most : Nat} {ls : Nat → List UInt8} {k : Nat} (h : (kept most ls k).length + (ls k).length ≤ most) : kept most ls (k + 1) = kept most ls k ++ ls k := by
  simp only [kept, if_pos h]
theorem kept_no {most : Nat} {ls : Nat → List UInt8} {k : Nat} (h : most < (kept most ls k).length + (ls k).length) : kept most ls (k + 1) = kept most ls k := by
  simp only [kept, if_neg (Nat.not_le.2 h)]

theorem wnum_a (w : World) (p : Nat) : Calls Try.prog 32 #[.pointer (some ⟨p, 0, none⟩), .int .u64 256, .int .i64 1, .bool true] w fun e w' => e = .returned (.int .i64 40) ∧ w = w' :=
  wnum_over 256 1 true (by decide) (by decide) (by decide)
theorem wnum_b (w : World) (p : Nat) : Calls Try.prog 32 #[.pointer (some ⟨p, 0, none⟩), .int .u64 1, .int .i64 9, .bool true] w fun e w' => e = .returned (.int .i64 1) ∧ w = w' :=
  wnum_range 1 9 true (by omega)

set_option maxHeartbeats 3000000 in
theorem octetWrites_law {w : World} {B : Option Addr} {m d : Nat} {ls : Nat → List UInt8} (most : Int) (hmost : most ≤ 9223372036854775807) (hG : RdG w B m ls) :
    Calls Try.prog 6 #[.int .i64 most, .slice B m d] w fun e w' => e = .returned (.bool true) ∧ Below w.heap.size w w' := by
  by_cases h60 : 60 < m
  · go_enter Try.func6, Try.ntmps6
    go_wp2_with (go_at_call 15; refine (reads_any _).mono ?_; rintro e w1 ⟨rfl, hb1⟩)
    go_ret
    exact ⟨rfl, hb1⟩
  · have hm : m ≤ 60 := by omega
    obtain ⟨mo, hmo⟩ : ∃ mo : Nat, Hid (mo = most.toNat) := ⟨_, rfl⟩
    have hif : (if 0 < most then most else 0) = (mo : Int) := by
      have := hmo.out
      split <;> omega
    go_enter Try.func6, Try.ntmps6
    go_wp2_with (go_at_call 15; refine (reads_any _).mono ?_; rintro e w1 ⟨rfl, hb1⟩)
    go_wp2_with fail
    refine (write_wt most w.heap.size hmost hb1.size).mono ?_
    rintro e w2 ⟨p, rfl, hW2, hb2, hp⟩
    rw [← hmo.out] at hW2
    have hb2' := hb1.trans (hb2.mono hb1.size)
    clear hb1 hb2 hp
    go_wp2_with fail
    go_loopw [6, 24] (fun x i wr => ∃ k : Nat, k ≤ m ∧ i = .int .i64 k ∧ (kept mo ls k).length ≤ 200 * k ∧ (∃ C cC, Wtr wr w.heap.size p C cC mo (kept mo ls k) ∧ ∀ j, x.ownBlock = some j → ¬ Wown p C j) ∧
      (∃ D cD, x = .slice D (kept mo ls k).length cD ∧ wr.ownsRow w.heap.size 5 1 x (kept mo ls k).length ((kept mo ls k).map isB)) ∧ Below w.heap.size w wr) (fun _ i _ => m - (intOf i).toNat)
    case atStart => exact ⟨0, Nat.zero_le _, rfl, Nat.le_refl _, ⟨_, _, hW2, fun j hj => by simp [Value.ownBlock] at hj⟩, ⟨none, 0, rfl, World.ownsRow_nil _ _ _ _⟩, hb2'⟩
    case round =>
      obtain ⟨k, hk, rfl, hkl, ⟨C, cC, hW, hne⟩, ⟨D, cD, rfl, hO⟩, hbr⟩ := hrel
      by_cases hlt : k < m
      · obtain ⟨b, o, rfl, hb, hr⟩ := hG (by omega)
        obtain ⟨A, n, c, hck0, hR, hnc, hc⟩ := hr k hlt
        have hck : wr.cell? ⟨b, o + k, none⟩ = some (.slice A n c) := (World.cell?_of_block (w := w) (w' := wr) (a := ⟨b, o + k, none⟩) (hbr.block b hb)).trans hck0
        have hln := hR.1
        clear hr hb hck0
        by_cases h200 : 200 < n
        · go_wp2_with fail
          go_ret
          exact ⟨rfl, hbr⟩
        · by_cases hroom : (kept mo ls k).length + (ls k).length ≤ mo
          · have HK := hid (kept_yes hroom)
            rw [hln] at hroom
            have hk4 : (kept mo ls (k + 1)).length = (kept mo ls k).length + n := by rw [HK.out, List.length_append, hln]
            have HLN := hid hln
            clear hln
            go_wp2_with fail
            refine (add_ok hW A n c (ls k) (hR.below hbr) hroom (by omega)).mono ?_
            rintro e w3 ⟨rfl, C4, cC4, hW3, hC, hnew⟩
            rw [← HK.out] at hW3
            have hb3 := Chg.below hbr hC hbr.size hW.ge
            have hO3 := owns_chg hO hC hne
            have hR3 := hR.below hb3
            have hlt3 := hO3.lt
            have hne3 : ∀ j, (Value.slice D (kept mo ls k).length cD).ownBlock = some j → ¬ Wown p C4 j := by
              intro j hj hw
              rcases hnew j hw with h | h
              · exact hne j hj h
              · have := (hO.lt j hj).2; omega
            have HNE := hid hne3
            have HC := hid hC
            have HNW := hid hnew
            have HLT := hid hlt3
            have HH := hid hne
            clear hO hW hbr hne hne3 hC hnew hlt3
            have hwr : wrap64 (((kept mo ls k).length : Int) + (n : Int)) = ((kept mo ls k).length : Int) + (n : Int) := by unfold wrap64; omega
            go_wp2_with (at_builtin; refine wpList_appB rfl (.tmp 44) (.tmp 45) rfl w.heap.size (.slice D (kept mo ls k).length cD) (kept mo ls k).length _ rfl hO3 A n c _ rfl hR3 (by omega) hb3.size ?_; intro D4 cD4 w4 HO4 hg HV)
            have hW4 := hW3.chg (Chg.of_grown hg) (fun j hw e => HNE.out j e hw)
            have hb4 := hb3.grown hg hb3.size (fun j hj => (HLT.out j hj).1)
            rw [← hk4] at HO4 HV
            have hO4 := HO4.out
            rw [← List.map_append, ← HK.out] at hO4
            have hne4 : ∀ j, (Value.slice D4 (kept mo ls (k + 1)).length cD4).ownBlock = some j → ¬ Wown p C4 j := by
              intro j hj hw
              rcases HV.out with h | h
              · rw [h] at hj; exact HNE.out j hj hw
              · rw [h] at hj
                injection hj with hj
                have := hW3.lt j hw
                omega
            have HNE4 := hid hne4
            rw [← hk4]
            clear hW3 hb3 hO3 hR3 hg HV HO4 hne4 HNE HC HNW HLT HH HK hwr hck hR hif
            have hkl' : (kept mo ls (k + 1)).length ≤ 200 * (k + 1) := by omega
            have hKL : (kept mo ls (k + 1)).length ≤ 12000 := by omega
            obtain ⟨S, hS⟩ : ∃ S : ByteArray, S = ⟨(kept mo ls (k + 1)).toArray⟩ := ⟨_, rfl⟩
            have hRw := RdB.of_own hO4
            have hs0 := run_str (show RdB w4.drew D4 (kept mo ls (k + 1)).length (kept mo ls (k + 1)) from hRw) cD4
            rw [← hS] at hs0
            have HS := hid (fun (w6 : World) (hb6 : Below w4.heap.size w4 w6) => by
              have h := run_str (hRw.below hb6) cD4
              rw [← hS] at h
              exact h)
            have hWd : Wtr w4.drew w.heap.size p C4 cC4 mo (kept mo ls (k + 1)) := ⟨hW4.blk, hW4.own, hW4.le, hW4.lim, hW4.base⟩
            have HWd := hid hWd
            have HL := hid (len_any hWd)
            have HB := hid (bytes_at hWd (by omega))
            have HO := hid hO4
            have HSS := hid hS
            have HKL := hid hk4
            clear hWd hW4 hO4 hRw hS hk4
            go_wp2_with fail
            go_region_held (fun w' => (convert 24 9 (.slice D4 (kept mo ls (k + 1)).length cD4)).run Try.prog w' = .ok (.string S) w' ∧ Wtr w' w.heap.size p C4 cC4 mo (kept mo ls (k + 1)))
              (first | exact ⟨hs0, HWd.out⟩ | exact ⟨hs2, hW6⟩ | assumption)
              (first
              | (go_at_call 30; refine HL.out.mono ?_; rintro e w6 ⟨rfl, rfl⟩)
              | (go_at_call 31; refine HB.out.mono ?_; rintro e w6 ⟨g, rfl, hG6, hb6, hg6⟩; have hs1 := run_str (RdB.of_blk hG6) (kept mo ls (k + 1)).length; rw [← HSS.out] at hs1; have hb6' : Below w4.heap.size w4 w6 := ⟨hb6.os, hb6.tape, hb6.output, hb6.size, hb6.block⟩; have hW6 := HWd.out.below hb6; have hs2 := HS.out w6 hb6'; clear hb6 hG6 hg6))
            have hb6f := hb4.trans (hb6'.mono hb4.size)
            have hO6 := owns_chg HO.out (Chg.of_below hb6' (fun _ => False)) (fun _ _ => id)
            have HF := hid (And.intro hW6 (And.intro hO6 hb6f))
            clear hW6 hO6 hb6f hb6' hs0 hs1 hs2
            go_wp2_with fail
            go_roundw
            case rel => exact ⟨k + 1, by omega, by go_num, hkl', ⟨C4, cC4, HF.out.1, HNE4.out⟩, ⟨D4, cD4, rfl, HF.out.2.1⟩, HF.out.2.2⟩
            case measure => simp [intOf]; omega
          · have hno : mo < (kept mo ls k).length + (ls k).length := by omega
            have HK := hid (kept_no hno)
            rw [hln] at hno
            have hk4 : (kept mo ls (k + 1)).length = (kept mo ls k).length := by rw [HK.out]
            have hwr : wrap64 (((kept mo ls k).length : Int) + (n : Int)) = ((kept mo ls k).length : Int) + (n : Int) := by unfold wrap64; omega
            clear hroom hln
            go_wp2_with fail
            refine (add_no hW A n c hno).mono ?_
            rintro e w3 ⟨rfl, k3, rfl⟩
            go_wp2_with fail
            have hW4 := hW.drewN k3
            have hO4 := owns_chg hO ((Chg.refl wr (fun _ => False)).drewN k3) (fun _ _ => id)
            have hb4 := below_drewN hbr k3
            generalize wr.drewN k3 = w4 at hW4 hO4 hb4 ⊢
            rw [← HK.out] at hW4 hO4 hne
            rw [← hk4]
            have HNE4 := hid hne
            clear hW hO hbr hne HK hwr hck hR hif hno
            have hkl' : (kept mo ls (k + 1)).length ≤ 200 * (k + 1) := by omega
            have hKL : (kept mo ls (k + 1)).length ≤ 12000 := by omega
            obtain ⟨S, hS⟩ : ∃ S : ByteArray, S = ⟨(kept mo ls (k + 1)).toArray⟩ := ⟨_, rfl⟩
            have hRw := RdB.of_own hO4
            have hs0 := run_str (show RdB w4.drew D (kept mo ls (k + 1)).length (kept mo ls (k + 1)) from hRw) cD
            rw [← hS] at hs0
            have HS := hid (fun (w6 : World) (hb6 : Below w4.heap.size w4 w6) => by
              have h := run_str (hRw.below hb6) cD
              rw [← hS] at h
              exact h)
            have hWd : Wtr w4.drew w.heap.size p C cC mo (kept mo ls (k + 1)) := ⟨hW4.blk, hW4.own, hW4.le, hW4.lim, hW4.base⟩
            have HWd := hid hWd
            have HL := hid (len_any hWd)
            have HB := hid (bytes_at hWd (by omega))
            have HO := hid hO4
            have HSS := hid hS
            have HKL := hid hk4
            clear hWd hW4 hO4 hRw hS hk4
            go_wp2_with fail
            go_region_held (fun w' => (convert 24 9 (.slice D (kept mo ls (k + 1)).length cD)).run Try.prog w' = .ok (.string S) w' ∧ Wtr w' w.heap.size p C cC mo (kept mo ls (k + 1)))
              (first | exact ⟨hs0, HWd.out⟩ | exact ⟨hs2, hW6⟩ | assumption)
              (first
              | (go_at_call 30; refine HL.out.mono ?_; rintro e w6 ⟨rfl, rfl⟩)
              | (go_at_call 31; refine HB.out.mono ?_; rintro e w6 ⟨g, rfl, hG6, hb6, hg6⟩; have hs1 := run_str (RdB.of_blk hG6) (kept mo ls (k + 1)).length; rw [← HSS.out] at hs1; have hb6' : Below w4.heap.size w4 w6 := ⟨hb6.os, hb6.tape, hb6.output, hb6.size, hb6.block⟩; have hW6 := HWd.out.below hb6; have hs2 := HS.out w6 hb6'; clear hb6 hG6 hg6))
            have hb6f := hb4.trans (hb6'.mono hb4.size)
            have hO6 := owns_chg HO.out (Chg.of_below hb6' (fun _ => False)) (fun _ _ => id)
            have HF := hid (And.intro hW6 (And.intro hO6 hb6f))
            clear hW6 hO6 hb6f hb6' hs0 hs1 hs2
            go_wp2_with fail
            go_roundw
            case rel => exact ⟨k + 1, by omega, by go_num, hkl', ⟨C, cC, HF.out.1, HNE4.out⟩, ⟨D, cD, rfl, HF.out.2.1⟩, HF.out.2.2⟩
            case measure => simp [intOf]; omega
      · obtain rfl : k = m := by omega
        have hl12 : (kept mo ls k).length ≤ 12000 := by omega
        have hwr : wrap64 (((kept mo ls k).length : Int) + 2) = ((kept mo ls k).length : Int) + 2 := by unfold wrap64; omega
        clear hO hne hW2 hb2'
        by_cases hroom : (kept mo ls k).length + 2 ≤ mo
        · have hd52 : digits true 5 2 = [5, 0] := by decide
          have HD := hid hd52
          clear hd52
          go_wp2_with fail
          refine (wnum_ok hW 5 2 true (by decide) (by decide) (by decide) hroom (by omega)).mono ?_
          rintro e w3 ⟨rfl, C4, cC4, hW3, hC, _⟩
          have hb3 := Chg.below hbr hC hbr.size hW.ge
          rw [HD.out] at hW3
          clear hW hC hbr
          go_wp2_with fail
          refine (bytes_at hW3 (by simp; omega)).mono ?_
          rintro e w4 ⟨g, rfl, hG4, hb, hg⟩
          have hb4 := hb3.trans (hb.mono hb3.size)
          have hlen : (kept mo ls k ++ [5, 0]).length = (kept mo ls k).length + 2 := by simp
          have c0 : w4.cell? ⟨g, (kept mo ls k).length, none⟩ = some (.int .u8 5) := by
            rw [hG4.at, List.map_append, List.getElem?_append_right (by simp)]
            simp [isB]
          have c1 : w4.cell? ⟨g, (kept mo ls k).length + 1, none⟩ = some (.int .u8 0) := by
            rw [hG4.at, List.map_append, List.getElem?_append_right (by simp)]
            simp [isB]
          rw [hlen]
          have hwr1 : wrap64 (((kept mo ls k).length : Int) + 1) = ((kept mo ls k).length : Int) + 1 := by unfold wrap64; omega
          clear hlen hG4 hb hg hb3 hW3
          go_wp2_with fail
          refine (wnum_a _ _).mono ?_
          rintro e w5 ⟨rfl, rfl⟩
          go_wp2_with fail
          refine (wnum_b _ _).mono ?_
          rintro e w5 ⟨rfl, rfl⟩
          go_wp2
          go_ret
          exact ⟨rfl, hb4⟩
        · have hno : mo < (kept mo ls k).length + 2 := by omega
          go_wp2_with fail
          refine (wnum_long hW 5 2 true (by decide) (by decide) (by decide) hno).mono ?_
          rintro e w3 ⟨rfl, hb⟩
          have hW3 := hW.below hb
          have hb3 := hbr.trans (hb.mono hbr.size)
          go_wp2_with (go_at_call 30; refine (len_any hW3).mono ?_; rintro e w4 ⟨rfl, rfl⟩)
          go_ret
          exact ⟨rfl, hb3⟩
end Go.Proofs.Ytkbddjmfccbcoaa
