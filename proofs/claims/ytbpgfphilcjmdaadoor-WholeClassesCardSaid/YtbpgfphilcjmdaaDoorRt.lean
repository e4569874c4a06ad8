/- regex: how often something may come. -/
import Derived.Test.YtbpgfphilcjmdaaDoorRn
namespace Go.Proofs.YtbpgfphilcjmdaaDoor
open Go.RowKit

set_option maxRecDepth 100000 in
set_option maxHeartbeats 4000000 in
theorem bounds_any {w : World} {g : Nat} {s : ByteArray} {i nd : Nat} {c p : Int} (h : Rd w g s i nd c p) (hi : i ≤ s.size) (hs : s.size ≤ 512) :
    Calls Tryd.prog 70 #[.pointer (some ⟨g, 0, none⟩)] w (Post2 (pBounds s.data.toList i) (fun x => .int .i64 ((x.1 : Nat) : Int)) (fun x => .int .i64 x.2) w g s nd) := by
  have HN := hid (num_any h hi hs)
  have hlt : ∀ x j, pNum s.data.toList i = .ok (x, j) → j ≤ s.size ∧ x ≤ 256 := fun x j e => ⟨(pNum_lt e).2.1, (pNum_lt e).2.2⟩
  have HNum := hid (fun (W : World) (j : Nat) (c p : Int) (h : Rd W g s j nd c p) (hj : j ≤ s.size) => num_any h hj hs)
  have HNx := hid (fun (W : World) (j : Nat) (c p : Int) (h : Rd W g s j nd c p) (hj : j ≤ s.size) => next_any h hj hs)
  have hlt2 : Hid (∀ k x j, pNum s.data.toList k = .ok (x, j) → j ≤ s.size ∧ x ≤ 256) := hid (fun k x j e => ⟨(pNum_lt e).2.1, (pNum_lt e).2.2⟩)
  have HNX : Hid (∀ j, nx s.data.toList j = 44 → j < s.size) := hid (fun j e => nx_lt (l := s.data.toList) (by omega))
  have HP := hid (show pBounds s.data.toList i = match pNum s.data.toList i with
    | .error e => .error e
    | .ok (lo, j) =>
      if nx s.data.toList j = 44 then
        if nx s.data.toList (j + 1) = 125 then .ok ((lo, -1), j + 2)
        else match pNum s.data.toList (j + 1) with
          | .error e => .error e
          | .ok (hi, k) => if hi < lo then .error (1, i) else if nx s.data.toList k = 125 then .ok ((lo, (hi : Int)), k + 1) else .error (5, k)
      else if nx s.data.toList j = 125 then .ok ((lo, (lo : Int)), j + 1) else .error (5, j) from rfl)
  generalize pBounds s.data.toList i = P at *
  generalize pNum s.data.toList i = r at *
  obtain ⟨k0, k1, k2, k3, k4, f1, f2, f3, f4⟩ := h.cells
  clear h
  go_enter Tryd.func70, Tryd.ntmps70
  go_wp2_with fail
  refine HN.out.mono ?_
  rintro e w1 ⟨hg1, hp1⟩
  clear HN k0 k1 k2 k3 k4 f1 f2 f3 f4
  cases r with
  | error v =>
    have HP2 : Hid (P = .error v) := HP
    obtain ⟨⟨v', ⟨n, rfl⟩, rfl⟩, j', nd', hr1⟩ := hp1
    go_wp2_with fail
    go_ret3
    rw [HP2.out]
    exact ⟨hg1, ⟨_, _, rfl⟩, _, _, hr1⟩
  | ok v =>
    obtain ⟨lo, j⟩ := v
    obtain ⟨rfl, c1, p1, hr1⟩ := hp1
    obtain ⟨hj, hlo⟩ := hlt lo j rfl
    have HP2 : Hid (P = if nx s.data.toList j = 44 then
        if nx s.data.toList (j + 1) = 125 then .ok ((lo, -1), j + 2)
        else match pNum s.data.toList (j + 1) with
          | .error e => .error e
          | .ok (hi, k) => if hi < lo then .error (1, i) else if nx s.data.toList k = 125 then .ok ((lo, (hi : Int)), k + 1) else .error (5, k)
      else if nx s.data.toList j = 125 then .ok ((lo, (lo : Int)), j + 1) else .error (5, j)) := HP
    clear HP hlt
    by_cases h44 : nx s.data.toList j = 44
    · have HP3 := hid (HP2.out.trans (if_pos h44))
      clear HP2
      have hj1 := HNX.out j h44
      go_wp2_with fail
      refine (took_yes hr1 hj hs 44 h44).mono ?_
      rintro e w2 ⟨rfl, hr2, hg2⟩
      have HG2 := hid (grown_trans hg1 hg2)
      go_wp2_with fail
      refine (HNx.out w2 (j + 1) c1 p1 hr2 (by omega)).mono ?_
      rintro e w3 ⟨rfl, hr3, hg3⟩
      have HG3 := hid (grown_trans HG2.out hg3)
      have HR3 := hid hr3
      clear hr1 hr2 hr3 hg1 hg2 hg3 HG2 HNX h44
      by_cases h125 : nx s.data.toList (j + 1) = 125
      · have HP4 := hid (HP3.out.trans (if_pos h125))
        have HH := hid h125
        rw [h125]
        clear HP3 HNum HNx h125
        go_wp2_with fail
        refine (must_yes HR3.out (by omega) hs 125 HH.out).mono ?_
        rintro e w9 ⟨rfl, hr9, hg9⟩
        go_wp2_with fail
        go_ret3
        rw [HP4.out]
        exact ⟨grown_trans HG3.out hg9, rfl, _, _, hr9⟩
      · have HP4 := hid (HP3.out.trans (if_neg h125))
        have hne : ¬ ((nx s.data.toList (j + 1) : Nat) : Int) = 125 := by omega
        have HC := hid (HNum.out w3 (j + 1) c1 p1 HR3.out (by omega))
        have hl2 := fun x k => hlt2.out (j + 1) x k
        generalize nx s.data.toList (j + 1) = y at *
        generalize pNum s.data.toList (j + 1) = r2 at *
        clear HP3 HNum HNx h125 hlt2
        go_wp2_with fail
        refine HC.out.mono ?_
        rintro e w4 ⟨hg4, hp4⟩
        clear HC
        cases r2 with
        | error v =>
          have HP5 : Hid (P = .error v) := HP4
          obtain ⟨⟨v', ⟨n, rfl⟩, rfl⟩, j', nd', hr4⟩ := hp4
          go_wp2_with fail
          go_ret3
          rw [HP5.out]
          exact ⟨grown_trans HG3.out hg4, ⟨_, _, rfl⟩, _, _, hr4⟩
        | ok v =>
          obtain ⟨hi2, k⟩ := v
          obtain ⟨rfl, c4, p4, hr4⟩ := hp4
          obtain ⟨hk, hh⟩ := hl2 hi2 k rfl
          have HP5 : Hid (P = if hi2 < lo then .error (1, i) else if nx s.data.toList k = 125 then .ok ((lo, (hi2 : Int)), k + 1) else .error (5, k)) := HP4
          have HG4 := hid (grown_trans HG3.out hg4)
          clear HP4 hl2 hg4
          by_cases hlt3 : hi2 < lo
          · have HP6 := hid (HP5.out.trans (if_pos hlt3))
            go_wp2_with fail
            refine (fail_any hr4 1 (i : Int)).mono ?_
            rintro e w5 ⟨rfl, hr5, hg5⟩
            go_wp2_with fail
            go_ret3
            rw [HP6.out]
            exact ⟨grown_trans HG4.out hg5, ⟨_, _, rfl⟩, _, _, hr5⟩
          · have HP6 := hid (HP5.out.trans (if_neg hlt3))
            clear HP5
            by_cases h125 : nx s.data.toList k = 125
            · have HP7 := hid (HP6.out.trans (if_pos h125))
              have HH := hid h125
              clear h125 HP6
              go_wp2_with fail
              refine (must_yes hr4 (by omega) hs 125 HH.out).mono ?_
              rintro e w9 ⟨rfl, hr9, hg9⟩
              go_wp2_with fail
              go_ret3
              rw [HP7.out]
              exact ⟨grown_trans HG4.out hg9, rfl, _, _, hr9⟩
            · have HP7 := hid (HP6.out.trans (if_neg h125))
              have HH := hid h125
              clear h125 HP6
              go_wp2_with fail
              refine (must_no hr4 (by omega) hs 125 HH.out).mono ?_
              rintro e w9 ⟨rfl, hr9, hg9⟩
              go_wp2_with fail
              go_ret3
              rw [HP7.out]
              exact ⟨grown_trans HG4.out hg9, ⟨_, _, rfl⟩, _, _, hr9⟩
    · have HP3 := hid (HP2.out.trans (if_neg h44))
      clear HP2 HNum HNx hlt2 HNX
      go_wp2_with fail
      refine (took_no hr1 hj hs 44 h44).mono ?_
      rintro e w2 ⟨rfl, hr2, hg2⟩
      have HG2 := hid (grown_trans hg1 hg2)
      clear hr1 hg1 hg2 h44
      by_cases h125 : nx s.data.toList j = 125
      · have HP4 := hid (HP3.out.trans (if_pos h125))
        have HH := hid h125
        clear h125 HP3
        go_wp2_with fail
        refine (must_yes hr2 (by omega) hs 125 HH.out).mono ?_
        rintro e w9 ⟨rfl, hr9, hg9⟩
        go_wp2_with fail
        go_ret3
        rw [HP4.out]
        exact ⟨grown_trans HG2.out hg9, rfl, _, _, hr9⟩
      · have HP4 := hid (HP3.out.trans (if_neg h125))
        have HH := hid h125
        clear h125 HP3
        go_wp2_with fail
        refine (must_no hr2 (by omega) hs 125 HH.out).mono ?_
        rintro e w9 ⟨rfl, hr9, hg9⟩
        go_wp2_with fail
        go_ret3
        rw [HP4.out]
        exact ⟨grown_trans HG2.out hg9, ⟨_, _, rfl⟩, _, _, hr9⟩

set_option maxRecDepth 100000 in
set_option maxHeartbeats 4000000 in
theorem times_any {w : World} {g : Nat} {s : ByteArray} {i nd : Nat} {c p : Int} (h : Rd w g s i nd c p) (hi : i < s.size) (hs : s.size ≤ 512) :
    Calls Tryd.prog 64 #[.pointer (some ⟨g, 0, none⟩)] w (Post2 (pTimes s.data.toList i) (fun x => .int .i64 ((x.1 : Nat) : Int)) (fun x => .int .i64 x.2) w g s nd) := by
  have HN := hid (next_any h (by omega) hs)
  have HB := hid (fun (W : World) (h : Rd W g s (i + 1) nd c p) => bounds_any h (by omega) hs)
  have HP0 := hid (show pTimes s.data.toList i = if nx s.data.toList i = 42 then .ok ((0, -1), i + 1) else if nx s.data.toList i = 43 then .ok ((1, -1), i + 1) else if nx s.data.toList i = 63 then .ok ((0, 1), i + 1) else pBounds s.data.toList (i + 1) from rfl)
  have hi2 : i ≤ 512 := by omega
  generalize pTimes s.data.toList i = P at *
  clear h
  by_cases h42 : nx s.data.toList i = 42
  · have HP2 := hid (HP0.out.trans (if_pos h42))
    clear HP0
    rw [h42] at HN
    go_enter Tryd.func64, Tryd.ntmps64
    go_wp2_with fail
    refine HN.out.mono ?_
    rintro e w1 ⟨rfl, hr1, hg1⟩
    obtain ⟨k0, k1, k2, k3, k4, f1, f2, f3, f4⟩ := hr1.cells
    have HS := hid (show Rd (w1.setCell ⟨g, 1, none⟩ (.int .i64 ((i : Int) + 1))) g s (i + 1) nd c p by simpa [Rd] using Blk.put hr1 1 (.int .i64 ((i : Int) + 1)))
    have HG := hid (grown_trans hg1 (grown_set1 w1 g 1 (.int .i64 ((i : Int) + 1))))
    clear hr1 hg1 HN
    go_wp2_with fail
    go_ret3
    rw [HP2.out]
    exact ⟨HG.out, rfl, _, _, HS.out⟩
  have HP42 := hid (HP0.out.trans (if_neg h42))
  clear HP0
  by_cases h43 : nx s.data.toList i = 43
  · have HP2 := hid (HP42.out.trans (if_pos h43))
    clear HP42
    rw [h43] at HN
    go_enter Tryd.func64, Tryd.ntmps64
    go_wp2_with fail
    refine HN.out.mono ?_
    rintro e w1 ⟨rfl, hr1, hg1⟩
    obtain ⟨k0, k1, k2, k3, k4, f1, f2, f3, f4⟩ := hr1.cells
    have HS := hid (show Rd (w1.setCell ⟨g, 1, none⟩ (.int .i64 ((i : Int) + 1))) g s (i + 1) nd c p by simpa [Rd] using Blk.put hr1 1 (.int .i64 ((i : Int) + 1)))
    have HG := hid (grown_trans hg1 (grown_set1 w1 g 1 (.int .i64 ((i : Int) + 1))))
    clear hr1 hg1 HN
    go_wp2_with fail
    go_ret3
    rw [HP2.out]
    exact ⟨HG.out, rfl, _, _, HS.out⟩
  have HP43 := hid (HP42.out.trans (if_neg h43))
  clear HP42
  by_cases h63 : nx s.data.toList i = 63
  · have HP2 := hid (HP43.out.trans (if_pos h63))
    clear HP43
    rw [h63] at HN
    go_enter Tryd.func64, Tryd.ntmps64
    go_wp2_with fail
    refine HN.out.mono ?_
    rintro e w1 ⟨rfl, hr1, hg1⟩
    obtain ⟨k0, k1, k2, k3, k4, f1, f2, f3, f4⟩ := hr1.cells
    have HS := hid (show Rd (w1.setCell ⟨g, 1, none⟩ (.int .i64 ((i : Int) + 1))) g s (i + 1) nd c p by simpa [Rd] using Blk.put hr1 1 (.int .i64 ((i : Int) + 1)))
    have HG := hid (grown_trans hg1 (grown_set1 w1 g 1 (.int .i64 ((i : Int) + 1))))
    clear hr1 hg1 HN
    go_wp2_with fail
    go_ret3
    rw [HP2.out]
    exact ⟨HG.out, rfl, _, _, HS.out⟩
  have HP63 := hid (HP43.out.trans (if_neg h63))
  clear HP43
  have n42 : ¬ ((nx s.data.toList i : Nat) : Int) = 42 := by omega
  have n43 : ¬ ((nx s.data.toList i : Nat) : Int) = 43 := by omega
  have n63 : ¬ ((nx s.data.toList i : Nat) : Int) = 63 := by omega
  generalize nx s.data.toList i = x at *
  generalize pBounds s.data.toList (i + 1) = r at *
  go_enter Tryd.func64, Tryd.ntmps64
  go_wp2_with fail
  refine HN.out.mono ?_
  rintro e w1 ⟨rfl, hr1, hg1⟩
  obtain ⟨k0, k1, k2, k3, k4, f1, f2, f3, f4⟩ := hr1.cells
  have HS := hid (show Rd (w1.setCell ⟨g, 1, none⟩ (.int .i64 ((i : Int) + 1))) g s (i + 1) nd c p by simpa [Rd] using Blk.put hr1 1 (.int .i64 ((i : Int) + 1)))
  have HG := hid (grown_trans hg1 (grown_set1 w1 g 1 (.int .i64 ((i : Int) + 1))))
  clear hr1 hg1 HN
  go_wp2_with fail
  refine (HB.out _ HS.out).mono ?_
  rintro e w2 ⟨hg2, hp2⟩
  cases r with
  | error v =>
    obtain ⟨⟨u, v', rfl⟩, j', nd', hr2⟩ := hp2
    go_wp2_with fail
    go_ret3
    rw [HP63.out]
    exact ⟨grown_trans HG.out hg2, ⟨_, _, rfl⟩, _, _, hr2⟩
  | ok v =>
    obtain ⟨rfl, c2, p2, hr2⟩ := hp2
    go_wp2_with fail
    go_ret3
    rw [HP63.out]
    exact ⟨grown_trans HG.out hg2, rfl, _, _, hr2⟩
end Go.Proofs.YtbpgfphilcjmdaaDoor
