/- lex: the gap, and one token whatever it is. -/
import Derived.Test.YtmefllfmcjjbaaaLxD
import Derived.WalkMore
namespace Go.Proofs.Ytmefllfmcjjbaaa
open Go.RowKit

theorem gap_at {l : List UInt8} {i : Nat} (h : i < l.length) : gap false (l.drop i) = if (l[i]).toNat = 10 ∨ (l[i]).toNat = 32 ∨ (l[i]).toNat = 9 ∨ (l[i]).toNat = 13 then gap false (l.drop (i + 1)) + 1 else if (l[i]).toNat = 35 then span nlB (l.drop i) + gap false ((l.drop i).drop (span nlB (l.drop i))) else 0 := by
  rw [drop_eq h, gap_cons]
  by_cases h10 : (l[i]).toNat = 10
  · rw [if_pos h10, if_pos (.inl h10)]
  · rw [if_neg h10]
    by_cases hb : (l[i]).toNat = 32 ∨ (l[i]).toNat = 9 ∨ (l[i]).toNat = 13
    · rw [if_pos (.inr hb), if_pos (.inr hb)]
    · rw [if_neg (show ¬ (false = true ∨ (l[i]).toNat = 32 ∨ (l[i]).toNat = 9 ∨ (l[i]).toNat = 13) by simpa using hb), if_neg (show ¬ ((l[i]).toNat = 10 ∨ (l[i]).toNat = 32 ∨ (l[i]).toNat = 9 ∨ (l[i]).toNat = 13) from fun h => h.elim h10 hb)]
      by_cases h35 : (l[i]).toNat = 35
      · rw [if_pos h35, if_pos h35, gap_note, span_cons, if_pos (by unfold nlB; simp [h10]), List.drop_succ_cons]
        omega
      · rw [if_neg h35, if_neg h35]
theorem gap_end {l : List UInt8} {i : Nat} (h : l.length ≤ i) : gap false (l.drop i) = 0 := by
  rw [List.drop_eq_nil_of_le h]; rfl
set_option maxRecDepth 100000 in
set_option maxHeartbeats 4000000 in
theorem skip_any {w : World} {g : Nat} {s : ByteArray} {i : Nat} (h : Cu w g s i) (hi : i ≤ s.size) (hs : s.size ≤ 65536) :
    Calls Try.prog 17 #[.pointer (some ⟨g, 0, none⟩)] w fun e w' => e = .returned (.tuple #[]) ∧ Cu w' g s (i + gap false (s.data.toList.drop i)) ∧ w.grownBy w' (some g) := by
  have HP := hid (fun (W : World) (j : Nat) (h : Cu W g s j) (hj : j ≤ s.size) => past_any h hj hs 30 nlB skip1_tells (enters_of Try.func30 (by kernel_rfl) rfl))
  obtain ⟨E, hE⟩ : ∃ E, E = i + gap false (s.data.toList.drop i) := ⟨_, rfl⟩
  rw [← hE]
  have HE := hid hE
  have HC := hid h
  have HG := hid (grown_refl w (some g))
  clear h hE
  go_enter Try.func17, Try.ntmps17
  go_wp2_with fail
  go_step3
  go_wp2_with fail
  go_step3
  go_wp2_with fail
  go_loopg [] (s.size + 1) (fun m wr => ∃ j : Nat, j ≤ s.size ∧ s.size < m + j ∧ Hid (E = j + gap false (s.data.toList.drop j)) ∧ Hid (Cu wr g s j) ∧ Hid (w.grownBy wr (some g)))
  case atStart => exact ⟨i, hi, by omega, HE, HC, HG⟩
  case round =>
    clear HE HC HG
    obtain ⟨j, hj, hm, HE, HC, HG⟩ := hrel
    obtain ⟨m, rfl⟩ : ∃ m, gk = m + 1 := ⟨gk - 1, by omega⟩
    obtain ⟨h0, h1, f1⟩ := HC.out.cells
    rcases Nat.lt_or_ge j s.size with hlt | hge
    · have hlt2 : j < s.data.toList.length := hlt
      have n1 : (j : Int) < (s.size : Int) := by omega
      have hga := gap_at hlt2
      obtain ⟨x, hx⟩ : ∃ x, x = (s.data.toList[j]'hlt2).toNat := ⟨_, rfl⟩
      have hx1 : ((s[j]'hlt).toNat : Int) = (x : Int) := by rw [hx]; rfl
      rw [← hx] at hga
      have hxx := hx.symm
      clear hx
      by_cases hb : x = 10 ∨ x = 32 ∨ x = 9 ∨ x = 13
      · rw [if_pos hb] at hga
        have HE2 := hid (show E = (j + 1) + gap false (s.data.toList.drop (j + 1)) by rw [HE.out, hga]; omega)
        clear hga HE hlt2 hxx
        have hw : wrap64 ((j : Int) + 1) = (j : Int) + 1 := by unfold wrap64; omega
        have e1 : ((j + 1 : Nat) : Int) = (j : Int) + 1 := by omega
        go_wp2_with fail
        go_quiet (fail)
        have HCd := hid (HC.out.drewN nq)
        have HGd := hid (grown_trans HG.out (grown_drewN wr nq _))
        clear HC HG h0 h1 f1
        generalize wr.drewN nq = wd at *
        obtain ⟨h0, h1, f1⟩ := HCd.out.cells
        go_wp2_with fail
        go_quiet (fail)
        have HC := hid (HCd.out.drewN nq)
        have HG := hid (grown_trans HGd.out (grown_drewN wd nq _))
        clear HCd HGd h0 h1 f1
        generalize wd.drewN nq = we at *
        obtain ⟨h0, h1, f1⟩ := HC.out.cells
        have HC2 := hid (HC.out.put (j + 1))
        have HG2 := hid (grown_trans HG.out (grown_set1 we g 1 (.int .i64 ((j + 1 : Nat) : Int))))
        rw [e1] at HC2 HG2
        clear HC HG hx1
        rcases hb with rfl | rfl | rfl | rfl
        all_goals
          go_wp2_with fail
          go_roundg m
          case measure => omega
          case rel => exact ⟨j + 1, by omega, by omega, HE2, HC2.out, HG2.out⟩
      · rw [if_neg hb] at hga
        have hb1 : ¬ (x : Int) = 9 := by omega
        have hb2 : ¬ (x : Int) = 10 := by omega
        have hb3 : ¬ (x : Int) = 13 := by omega
        have hb4 : ¬ (x : Int) = 32 := by omega
        by_cases h35 : x = 35
        · rw [if_pos h35] at hga
          have hsp := span_at (p := nlB) hlt2
          have hsl := span_le nlB (s.data.toList.drop j)
          have hsj : 0 < span nlB (s.data.toList.drop j) := by
            rw [hsp, if_pos (by unfold nlB; rw [hxx, h35]; rfl)]; omega
          rw [List.length_drop, show s.data.toList.length = s.size from rfl] at hsl
          have HE2 := hid (show E = (j + span nlB (s.data.toList.drop j)) + gap false (s.data.toList.drop (j + span nlB (s.data.toList.drop j))) by rw [HE.out, hga, List.drop_drop]; omega)
          have HPj := hid (fun W (h : Cu W g s j) => HP.out W j h hj)
          clear hga hsp HE hlt2 hxx
          generalize span nlB (s.data.toList.drop j) = n at *
          go_wp2_with fail
          go_quiet (fail)
          have HCd := hid (HC.out.drewN nq)
          have HGd := hid (grown_trans HG.out (grown_drewN wr nq _))
          clear HC HG h0 h1 f1
          generalize wr.drewN nq = wd at *
          obtain ⟨h0, h1, f1⟩ := HCd.out.cells
          go_wp2_with fail
          go_quiet (fail)
          have HC := hid (HCd.out.drewN nq)
          have HG := hid (grown_trans HGd.out (grown_drewN wd nq _))
          clear HCd HGd h0 h1 f1
          generalize wd.drewN nq = we at *
          obtain ⟨h0, h1, f1⟩ := HC.out.cells
          obtain rfl := h35
          clear hx1
          go_wp2_with fail
          refine (HPj.out _ HC.out).mono ?_
          rintro e w5 ⟨rfl, hc5, hg5⟩
          have HC2 := hid hc5
          have HG2 := hid (grown_trans HG.out hg5)
          clear hc5 hg5 HC HG h0 h1 f1
          go_wp2_with fail
          go_roundg m
          case measure => omega
          case rel => exact ⟨j + n, by omega, by omega, HE2, HC2, HG2⟩
        · rw [if_neg h35] at hga
          have h35' : ¬ (x : Int) = 35 := by omega
          have HE2 := hid (show E = j by rw [HE.out, hga]; omega)
          clear hga HE hlt2 hxx
          go_wp2_with fail
          go_quiet (fail)
          have HCd := hid (HC.out.drewN nq)
          have HGd := hid (grown_trans HG.out (grown_drewN wr nq _))
          clear HC HG h0 h1 f1
          generalize wr.drewN nq = wd at *
          obtain ⟨h0, h1, f1⟩ := HCd.out.cells
          go_wp2_with fail
          go_quiet (fail)
          have HC := hid (HCd.out.drewN nq)
          have HG := hid (grown_trans HGd.out (grown_drewN wd nq _))
          clear HCd HGd h0 h1 f1
          generalize wd.drewN nq = we at *
          obtain ⟨h0, h1, f1⟩ := HC.out.cells
          clear hx1
          obtain rfl := HE2.out
          go_wp2_with fail
          go_end0
          exact ⟨rfl, HC.out, HG.out⟩
    · obtain rfl : j = s.size := by omega
      have HE2 := hid (show E = s.size by rw [HE.out, gap_end (show s.data.toList.length ≤ s.size from Nat.le_refl _)]; omega)
      clear HE
      go_wp2_with fail
      go_quiet (fail)
      obtain rfl := HE2.out
      have HCd := hid (HC.out.drewN nq)
      have HGd := hid (grown_trans HG.out (grown_drewN wr nq _))
      clear HC HG h0 h1 f1
      generalize wr.drewN nq = wd at *
      go_wp2_with fail
      go_end0
      exact ⟨rfl, HCd.out, HGd.out⟩
end Go.Proofs.Ytmefllfmcjjbaaa
