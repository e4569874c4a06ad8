/- The walk of the law CrcPieces. -/
import Derived.Test.YtmbbjhlpfgpibaaChk
import Derived.Test.YtmbbjhlpfgpibaaRSum
import Derived.Test.YtmbbjhlpfgpibaaGrid
namespace Go.Proofs.Ytmbbjhlpfgpibaa
open Go.RowKit

/-- The bytes of so many pieces. -/
def catL (ls : Nat → List UInt8) : Nat → List UInt8
  | 0 => []
  | k + 1 => catL ls k ++ ls k

set_option maxRecDepth 8000 in
theorem pieces_many {w : World} {A : Option Addr} {n c : Nat} (h : 60 < n) :
    Calls Try.prog 4 #[.slice A n c] w fun e w' => e = .returned (.bool true) ∧ Below w.heap.size w w' := by
  have d0 : decide ((60 : Int) < n) = true := by simp; omega
  go_enter Try.func4, Try.ntmps4
  go_wp2_with (go_at_call 15; refine (checks_any _).mono ?_; rintro e w1 ⟨rfl, hb1⟩)
  go_ret
  exact ⟨rfl, hb1⟩

set_option maxRecDepth 8000 in
set_option maxHeartbeats 2000000 in
theorem pieces_go {w : World} {A : Option Addr} {n c : Nat} {ls : Nat → List UInt8} (hG : RdG w A n ls) (hn : n ≤ 60) :
    Calls Try.prog 4 #[.slice A n c] w fun e w' => e = .returned (.bool true) ∧ Below w.heap.size w w' := by
  have d0 : decide ((60 : Int) < n) = false := by simp; omega
  have HG := hid hG
  clear hG
  go_enter Try.func4, Try.ntmps4
  go_wp2_with (go_at_call 15; refine (checks_any _).mono ?_; rintro e w1 ⟨rfl, hb1⟩)
  have hT := hid (tab_new w1)
  have hb2 := hid (hb1.alloc hb1.size (.cells Try.zeroCells45 45))
  have hs1 := hb1.size
  clear hb1
  generalize w1.alloc (.cells Try.zeroCells45 45) = w2 at *
  generalize w1.heap.size = g at *
  refine (start_any _).mono ?_
  rintro e w3 ⟨rfl, hb3⟩
  go_wp2
  have hT4 := hid (((hT.out.below hb3)).alloc (.cells #[.int .u32 0] 51))
  have hgl := hT.out.lt
  have hQ4 : Blk (w3.alloc (.cells #[.int .u32 0] 51)) w3.heap.size 51 [.int .u32 ((crcN (catL ls 0) : Nat) : Int)] := by
    show Blk _ _ _ [.int .u32 ((crcN [] : Nat) : Int)]
    rw [crcN_nil]
    exact Blk.fresh w3 51 [.int .u32 0]
  have HQ4 := hid hQ4
  have hb4 := (hb2.out.trans (hb3.mono hb2.out.size)).alloc (by have := hb2.out.size; have := hb3.size; omega) (.cells #[.int .u32 0] 51)
  have hqw : w.heap.size ≤ w3.heap.size := by have := hb2.out.size; have := hb3.size; omega
  have hqg : g < w3.heap.size := by have := hb3.size; omega
  clear hT hb2 hb3 hQ4
  generalize w3.alloc (.cells #[.int .u32 0] 51) = w4 at *
  generalize w3.heap.size = q at *
  go_loopw [5, 17] (fun s i wr => ∃ k : Nat, k ≤ n ∧ i = .int .i64 k ∧ (∃ md, Hid (Tab wr g md (catL ls k).length)) ∧ Hid (Blk wr q 51 [.int .u32 ((crcN (catL ls k) : Nat) : Int)]) ∧ (catL ls k).length ≤ 200 * k ∧
    (∃ A' c', s = .slice A' (catL ls k).length c' ∧ Hid (wr.ownsRow w.heap.size 5 1 (.slice A' (catL ls k).length c') (catL ls k).length ((catL ls k).map isB))) ∧ Below w.heap.size w wr) (fun _ i _ => n - (intOf i).toNat)
  case atStart => exact ⟨0, by omega, rfl, ⟨false, hT4⟩, HQ4, Nat.le_refl _, ⟨_, _, rfl, hid (World.ownsRow_nil _ _ _ _)⟩, hb4⟩
  case round =>
    obtain ⟨k, hk, rfl, ⟨md, hTk⟩, hQk, hlk, ⟨A2, c2, rfl, hOk⟩, hbk⟩ := hrel
    by_cases hlt : k < n
    · obtain ⟨bb, oo, rfl, hbb, hr⟩ := HG.out (by omega)
      obtain ⟨A3, n3, c3, hcell, hP, hn3, hc3⟩ := hr k hlt
      have hck := (World.cell?_of_block (w := w) (w' := wr) (a := ⟨bb, oo + k, none⟩) (hbk.block bb hbb)).trans hcell
      have HPw := hid hP
      have HP := hid (hP.below hbk)
      clear hr hcell hP
      by_cases h200 : 200 < n3
      · have d1 : decide ((200 : Int) < n3) = true := by simp; omega
        go_wp2
        go_ret
        exact ⟨rfl, hbk⟩
      have d1 : decide ((200 : Int) < n3) = false := by simp; omega
      have c0 := hQk.out.at 0
      simp only [List.getElem?_cons_zero] at c0
      have f0 := hQk.out.free 0
      go_wp2_with fail
      refine (add_any hTk.out HP.out (crcN_lt _) (by omega) (by omega)).mono ?_
      rintro e w5 ⟨rfl, hT5, hC5⟩
      have hcat := hid (show more (crcN (catL ls k)) (ls k) = crcN (catL ls (k + 1)) from (crcN_append _ _).symm)
      rw [hcat.out]
      have hpl := hid HP.out.1
      have hb5 := Chg.below hbk hC5 hbk.size (fun j hj => by omega)
      have hQ5 := hQk.out.chg hC5 (by omega)
      have c5 := hQ5.at 0
      simp only [List.getElem?_cons_zero] at c5
      have f5 := hQ5.free 0
      have hO5 := owns_chg hOk.out hC5 (fun j hj e => by
        subst e
        obtain ⟨R, _, hB, _⟩ := hTk.out
        exact own_ne hOk.out hB (by decide) hj)
      have hT6 := hid (hT5.chg (Chg.of_grown (grown_set w5 0 q 0 (.int .u32 ((crcN (catL ls (k + 1)) : Nat) : Int)))) (by intro h; injection h with h; omega))
      have hQ6 := hid (hQ5.put 0 (.int .u32 ((crcN (catL ls (k + 1)) : Nat) : Int)))
      have hO6 := hid (owns_chg hO5 (Chg.of_grown (grown_set w5 0 q 0 (.int .u32 ((crcN (catL ls (k + 1)) : Nat) : Int)))) (fun j hj e => by
        injection e with e
        subst e
        exact own_ne hO5 hQ5 (by decide) hj))
      have hb6 : Below w.heap.size w (w5.setCell ⟨q, 0, none⟩ (.int .u32 ((crcN (catL ls (k + 1)) : Nat) : Int))) := hb5.setCell hqw _
      have HB6 := hid hb6
      change Hid (Tab (w5.setCell _ _) _ _ _) at hT6
      change Hid ((w5.setCell _ _).ownsRow _ _ _ _ _ _) at hO6
      change Hid (Blk _ _ _ [.int .u32 ((crcN (catL ls (k + 1)) : Nat) : Int)]) at hQ6
      clear hC5 hb5 hQ5 hO5 hT5 hb6 c0 f0 hTk hQk hOk
      go_wp2_with (first
        | (with_reducible refine wpList_appB rfl (.tmp 28) (.tmp 29) rfl w.heap.size (.slice A2 (catL ls k).length c2) (catL ls k).length ((catL ls k).map isB) rfl hO6.out A3 n3 c3 (ls k) rfl (HPw.out.below HB6.out) (by omega) HB6.out.size ?_; intro A7 c7 w7 hO7 hg7 hV7))
      have hL := hid (show (catL ls k).length + n3 = (catL ls (k + 1)).length by simp [catL, hpl.out])
      have hT7 := hid (hT6.out.chg (Chg.of_grown hg7) (fun e => by
        obtain ⟨R, _, hB, _⟩ := hT6.out
        exact own_ne hO6.out hB (by decide) e))
      have hQ7 := hid (hQ6.out.grown hg7 (fun e => own_ne hO6.out hQ6.out (by decide) e.symm))
      have hB7 := hid (HB6.out.grown hg7 HB6.out.size (fun j hj => (hO6.out.lt j hj).1))
      have hO7' := hid (show w7.ownsRow w.heap.size 5 1 (.slice A7 (catL ls (k + 1)).length c7) (catL ls (k + 1)).length ((catL ls (k + 1)).map isB) by
        have h := hO7.out
        rw [hL.out, ← List.map_append] at h
        exact h)
      rw [hL.out] at hT7
      rw [hL.out]
      have hlk1 : (catL ls (k + 1)).length ≤ 200 * (k + 1) := by rw [← hL.out]; omega
      clear hT6 hQ6 hO6 hO7 hg7 hV7 HB6 c5 f5 hcat hL hpl HP HPw hck hbk
      refine (made_any hT7.out).mono ?_
      rintro e w8 ⟨rfl, rfl⟩
      simp only [if_true]
      go_wp2_with fail
      refine (bytes_any hT7.out).mono ?_
      rintro e w8 ⟨rfl, rfl⟩
      go_wp2
      go_roundw
      case rel => exact ⟨k + 1, by omega, by go_num, ⟨true, hT7⟩, hQ7, hlk1, ⟨A7, c7, rfl, hO7'⟩, hB7.out⟩
      case measure => simp [intOf]; omega
    · obtain rfl : k = n := by omega
      have hAll := hid (RdB.of_own hOk.out)
      generalize hcl : catL ls k = L at *
      clear hcl hTk hOk hT4 HQ4 hb4
      have c0 := hQk.out.at 0
      simp only [List.getElem?_cons_zero] at c0
      go_wp2_with fail
      refine (value_any _ _).mono ?_
      rintro e wa ⟨rfl, hba⟩
      have hbw := hbk.trans (hba.mono hbk.size)
      have hTn := hid (tab_new wa)
      have hA5 := hid ((hAll.out.below hba).alloc (.cells Try.zeroCells45 45))
      have hQ5 := hid (((hQk.out.keep hba)).alloc (.cells Try.zeroCells45 45))
      have hb5 := hid (hbw.alloc hbw.size (.cells Try.zeroCells45 45))
      have hqn : q < wa.heap.size := Nat.lt_of_lt_of_le hQk.out.lt hba.size
      have hwn : w.heap.size ≤ wa.heap.size := hbw.size
      clear hbw hba hbk hAll hQk c0
      go_wp2_with fail
      generalize wa.alloc (.cells Try.zeroCells45 45) = wb at *
      generalize wa.heap.size = g2 at *
      refine (of_any hTn.out hA5.out (by omega) (by omega)).mono ?_
      rintro e wc ⟨rfl, hTc, hCc⟩
      have hbc := hid (Chg.below hb5.out hCc hb5.out.size (fun j hj => by omega))
      have hA6 := hid (hA5.out.chg hCc (fun h0 x hx e => hTn.out.ne hA5.out h0 x hx e))
      have hQ6 := hid (hQ5.out.chg hCc (by omega))
      clear hCc hTc hTn hA5 hQ5 hb5
      by_cases h300 : 300 < L.length
      · have d2 : decide (300 < L.length) = true := by simp [h300]
        have d3 : decide ((300 : Int) < (L.length : Int)) = true := by simp; omega
        go_wp2
        go_ret
        exact ⟨rfl, hbc.out⟩
      · have d2 : decide (300 < L.length) = false := by simp; omega
        have d3 : decide ((300 : Int) < (L.length : Int)) = false := by simp; omega
        have c0 := hQ6.out.at 0
        simp only [List.getElem?_cons_zero] at c0
        go_wp2_with fail
        refine (value_any _ _).mono ?_
        rintro e wd ⟨rfl, hbd⟩
        have hbe := hid (hbc.out.trans (hbd.mono hbc.out.size))
        have hA7 := hid (hA6.out.below hbd)
        clear hbd hbc hQ6 c0 hA6
        go_wp2_with fail
        refine (refsum_any hA7.out (by omega)).mono ?_
        rintro e wf ⟨rfl, hbf⟩
        go_wp2
        go_ret
        exact ⟨rfl, hbe.out.trans (hbf.mono hbe.out.size)⟩

theorem crcPieces_law {w : World} {A : Option Addr} {n c : Nat} {ls : Nat → List UInt8} (hG : RdG w A n ls) :
    Calls Try.prog 4 #[.slice A n c] w fun e w' => e = .returned (.bool true) ∧ Below w.heap.size w w' := by
  by_cases h : 60 < n
  · exact pieces_many h
  · exact pieces_go hG (by omega)
end Go.Proofs.Ytmbbjhlpfgpibaa
