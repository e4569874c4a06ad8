/- The walk of the law WholeSums. -/
import Derived.Test.YtmbbjhlpfgpibaaJoin
import Derived.Test.YtmbbjhlpfgpibaaWSums
import Derived.Test.YtmbbjhlpfgpibaaPut
import Derived.Test.YtmbbjhlpfgpibaaGrid
namespace Go.Proofs.Ytmbbjhlpfgpibaa
open Go.RowKit

/-- A piece behind its length. -/
def pieceB (l : List UInt8) : List UInt8 := digits false l.length 2 ++ l
/-- So many pieces. -/
def allB (ls : Nat → List UInt8) : Nat → List UInt8
  | 0 => []
  | k + 1 => allB ls k ++ pieceB (ls k)
theorem pieceB_len (l : List UInt8) : (pieceB l).length = 2 + l.length := by simp [pieceB, digits_len]
theorem allB_pre (ls : Nat → List UInt8) (k d : Nat) : ∃ t, allB ls (k + d) = allB ls k ++ t := by
  induction d with
  | zero => exact ⟨[], by simp⟩
  | succ d ih =>
    obtain ⟨t, ht⟩ := ih
    exact ⟨t ++ pieceB (ls (k + d)), by rw [← Nat.add_assoc]; simp only [allB, ht, List.append_assoc]⟩
theorem allB_drop (ls : Nat → List UInt8) (k m : Nat) (h : k < m) : ∃ t, (allB ls m).drop (allB ls k).length = pieceB (ls k) ++ t := by
  obtain ⟨t, ht⟩ := allB_pre ls (k + 1) (m - (k + 1))
  rw [show k + 1 + (m - (k + 1)) = m by omega] at ht
  refine ⟨t, ?_⟩
  rw [ht]
  simp [allB]
theorem allB_le (ls : Nat → List UInt8) (k m : Nat) (h : k ≤ m) : (allB ls k).length ≤ (allB ls m).length := by
  obtain ⟨t, ht⟩ := allB_pre ls k (m - k)
  rw [show k + (m - k) = m by omega] at ht
  rw [ht]
  simp

theorem own_of_blk {w : World} {base g : Nat} {l : List UInt8} (h : Blk w g 5 (l.map isB)) (hb : base ≤ g) (hl : l.length ≤ 4294967296) :
    w.ownsRow base 5 1 (.slice (some ⟨g, 0, none⟩) l.length l.length) l.length (l.map isB) :=
  ⟨by simp, .inr ⟨g, l.length, _, rfl, hb, h, Nat.le_refl _, by simp only [maxLen]; omega, by simp, by rw [Nat.mul_one]; exact List.take_of_length_le (by simp)⟩⟩

theorem below_fresh0 (w : World) (o : Obj) : Below w.heap.size w (w.alloc o) := (Below.refl _ _).alloc (Nat.le_refl _) o
theorem rdU_two (w : World) (x y : Nat) (hx : x < 18446744073709551616) (hy : y < 18446744073709551616) : RdU (w.alloc (.cells #[.int .u64 x, .int .u64 y] 41)) (some ⟨w.heap.size, 0, none⟩) 2 [x, y] := by
  refine ⟨rfl, by simp [hx, hy], fun _ => ⟨w.heap.size, 0, rfl, by simp, fun j hj => ?_⟩⟩
  have h := Blk.fresh w 41 [.int .u64 (x : Int), .int .u64 (y : Int)]
  rw [Nat.zero_add, h.at]
  rcases (show j = 0 ∨ j = 1 by simp at hj; omega) with rfl | rfl <;> rfl

set_option maxRecDepth 8000 in
theorem wholes_many {w : World} {A : Option Addr} {n c : Nat} (h : 30 < n) :
    Calls Try.prog 14 #[.slice A n c] w fun e w' => e = .returned (.bool true) ∧ Below w.heap.size w w' := by
  have d0 : decide ((30 : Int) < n) = true := by simp; omega
  have c1 := hid (fun w => add_ok 2 3 (by decide) w)
  have c2 := hid (fun w => join_none 7 0 0 (Int.le_refl 0) w)
  go_enter Try.func14, Try.ntmps14
  go_wp2_with fail
  refine (c1.out _).mono ?_
  rintro e w' ⟨rfl, rfl⟩
  go_wp2_with fail
  refine (c2.out _).mono ?_
  rintro e w' ⟨rfl, rfl⟩
  go_wp2
  go_ret
  exact ⟨rfl, Below.refl _ _⟩

set_option maxRecDepth 8000 in
set_option maxHeartbeats 4000000 in
theorem wholes_go {w : World} {A : Option Addr} {n c : Nat} {ls : Nat → List UInt8} (hG : RdG w A n ls) (hn : n ≤ 30) :
    Calls Try.prog 14 #[.slice A n c] w fun e w' => e = .returned (.bool true) ∧ Below w.heap.size w w' := by
  have d0 : decide ((30 : Int) < n) = false := by simp; omega
  have HG := hid hG
  clear hG
  have c1 := hid (fun w => add_ok 2 3 (by decide) w)
  have c2 := hid (fun w => join_none 7 0 0 (Int.le_refl 0) w)
  have hT := hid (tab_new w)
  have hb2 := (Below.refl w.heap.size w).alloc (Nat.le_refl _) (.cells Try.zeroCells45 45)
  go_enter Try.func14, Try.ntmps14
  go_wp2_with fail
  refine (c1.out _).mono ?_
  rintro e w' ⟨rfl, rfl⟩
  go_wp2_with fail
  refine (c2.out _).mono ?_
  rintro e w' ⟨rfl, rfl⟩
  go_wp2
  generalize w.alloc (.cells Try.zeroCells45 45) = w2 at *
  have hgw := Nat.le_refl w.heap.size
  generalize hgg : w.heap.size = g at hT hgw ⊢
  have HGG := hid hgg
  clear hgg c1 c2
  have hT0 : Hid (Tab w2 g false (allB ls 0).length) := hT
  go_loopw [6, 7, 8, 42] (fun s x y i wr => ∃ k : Nat, k ≤ n ∧ i = .int .i64 k ∧ (∃ md, Hid (Tab wr g md (allB ls k).length)) ∧ x = .int .u32 ((crcN (allB ls k) : Nat) : Int) ∧ y = .int .u64 (((allB ls k).length : Nat) : Int) ∧ (allB ls k).length ≤ 202 * k ∧
    (∃ A' c', s = .slice A' (allB ls k).length c' ∧ Hid (wr.ownsRow w.heap.size 5 1 (.slice A' (allB ls k).length c') (allB ls k).length ((allB ls k).map isB))) ∧ Below w.heap.size w wr) (fun _ _ _ i _ => n - (intOf i).toNat)
  case atStart => exact ⟨0, by omega, rfl, ⟨false, hT0⟩, by rw [show allB ls 0 = [] from rfl, crcN_nil]; rfl, rfl, Nat.le_refl _, ⟨_, _, rfl, hid (World.ownsRow_nil _ _ _ _)⟩, hb2⟩
  case round =>
    obtain ⟨k, hk, rfl, ⟨md, hTk⟩, rfl, rfl, hlk, ⟨A2, c2, rfl, hOk⟩, hbk⟩ := hrel
    by_cases hlt : k < n
    · obtain ⟨bb, oo, rfl, hbb, hr⟩ := HG.out (by omega)
      obtain ⟨A3, n3, c3, hcell, hP, hn3, hc3⟩ := hr k hlt
      have hck := (World.cell?_of_block (w := w) (w' := wr) (a := ⟨bb, oo + k, none⟩) (hbk.block bb hbb)).trans hcell
      have HPw := hid hP
      have hpl := hid hP.1
      clear hr hcell hP
      by_cases h200 : 200 < n3
      · have d1 : decide ((200 : Int) < n3) = true := by simp; omega
        go_wp2
        go_ret
        exact ⟨rfl, hbk⟩
      have d1 : decide ((200 : Int) < n3) = false := by simp; omega
      have hbw0 := hbk.size
      have hput := put_at (w := wr) (A := none) (m := 0) (c := 0) (pre := []) n3 2 false ⟨rfl, fun h => absurd h (by omega)⟩ (by omega) (by omega) (by omega) (by unfold mostN; omega)
      simp only [Nat.zero_add, List.nil_append] at hput
      have HPut := hid hput
      clear hput
      go_wp2_with fail
      refine HPut.out.mono ?_
      rintro e w3 ⟨q, rfl, hB3, hb3, hq⟩
      have hgw3 := hTk.out.lt
      have hO3 := own_of_blk (base := w.heap.size) hB3 (Nat.le_trans hbk.size hq) (by rw [digits_len]; omega)
      rw [digits_len] at hO3
      have HO3 := hid hO3
      have hT3 := hid (hTk.out.below hb3)
      have hA3 := hid (owns_chg hOk.out (Chg.of_below hb3 (fun _ => False)) (fun _ _ h => h))
      have hAq := hid (show ∀ j, (Value.slice A2 (allB ls k).length c2).ownBlock = some j → ¬ some q = some j from fun j hj e => by
        injection e with e
        have := (hOk.out.lt j hj).2
        omega)
      have hbw3 := hid (hbk.trans (hb3.mono hbk.size))
      clear hO3 hB3 HPut hTk hOk hb3 hbk
      go_wp2_with (first
        | (with_reducible refine wpList_appB rfl (.tmp 58) (.tmp 59) rfl w.heap.size (.slice (some ⟨q, 0, none⟩) 2 2) 2 ((digits false n3 2).map isB) rfl HO3.out A3 n3 c3 (ls k) rfl (HPw.out.below hbw3.out) (by omega) hbw3.out.size ?_; intro A7 c7 w7 hO7 hg7 hV7))
      have hT7 := hid (hT3.out.chg (Chg.of_grown hg7) (by intro h; injection h with h; have h2 : q = g := h; omega))
      have hA7 := hid (owns_chg hA3.out (Chg.of_grown hg7) hAq.out)
      have hbw7 := hid (hbw3.out.grown hg7 hbw3.out.size (fun j hj => by injection hj with hj; subst hj; exact Nat.le_trans hbw0 hq))
      have hO7' := hid (show w7.ownsRow w.heap.size 5 1 (.slice A7 (2 + n3) c7) (2 + n3) ((pieceB (ls k)).map isB) by
        have h := hO7.out
        rw [← List.map_append] at h
        unfold pieceB
        rw [hpl.out]
        exact h)
      have hpB := hid (show (pieceB (ls k)).length = 2 + n3 by rw [pieceB_len, hpl.out])
      have hAll : allB ls (k + 1) = allB ls k ++ pieceB (ls k) := rfl
      generalize pieceB (ls k) = B at *
      clear hT3 hA3 hbw3 hO7 hg7 hV7 HO3 hAq hck
      refine (of_any hT7.out (RdB.of_own hO7'.out) (by omega) (by omega)).mono ?_
      rintro e w8 ⟨rfl, hT8, hC8⟩
      have hA8 := hid (owns_chg hA7.out hC8 (fun j hj e => by
        subst e
        obtain ⟨R, _, hB, _⟩ := hT7.out
        exact own_ne hA7.out hB (by decide) hj))
      have hR8 := hid ((RdB.of_own hO7'.out).chg hC8 (fun h0 x hx e => hT7.out.ne (RdB.of_own hO7'.out) h0 x hx e))
      have HT8 := hid hT8
      have hbw8 := hid (Chg.below hbw7.out hC8 hbw7.out.size (fun j hj => by have := HGG.out; omega))
      clear hT7 hA7 hbw7 hO7' hT8 hC8
      go_wp2_with fail
      refine (join_any (crcN (allB ls k)) (crcN B) (2 + n3) (crcN_lt _) (crcN_lt _) (by omega) (by omega) _).mono ?_
      rintro e w9 ⟨rfl, hb9⟩
      have hJ := hid (show zN (2 + n3) (crcN (allB ls k)) ^^^ crcN B = crcN (allB ls (k + 1)) by rw [hAll, crcN_join, hpB.out])
      rw [hJ.out]
      have hA9 := hid (owns_chg hA8.out (Chg.of_below hb9 (fun _ => False)) (fun _ _ h => h))
      have hR9 := hid (hR8.out.below hb9)
      have hT9 := hid (HT8.out.below hb9)
      have hbw9 := hid (hbw8.out.trans (hb9.mono hbw8.out.size))
      clear hJ hA8 hR8 HT8 hbw8 hb9
      go_wp2_with (first
        | (with_reducible refine wpList_appB rfl (.tmp 68) (.tmp 69) rfl w.heap.size (.slice A2 (allB ls k).length c2) (allB ls k).length ((allB ls k).map isB) rfl hA9.out A7 (2 + n3) c7 B rfl hR9.out (by omega) hbw9.out.size ?_; intro A10 c10 w10 hO10 hg10 hV10))
      have hT10 := hid (hT9.out.chg (Chg.of_grown hg10) (fun e => by
        obtain ⟨R, _, hB, _⟩ := hT9.out
        exact own_ne hA9.out hB (by decide) e))
      have hbw10 := hid (hbw9.out.grown hg10 hbw9.out.size (fun j hj => (hA9.out.lt j hj).1))
      have hO10' := hid (show w10.ownsRow w.heap.size 5 1 (.slice A10 ((allB ls k).length + (2 + n3)) c10) ((allB ls k).length + (2 + n3)) ((allB ls k ++ B).map isB) by
        rw [List.map_append]
        exact hO10.out)
      have hLen := hid (show (allB ls k).length + (2 + n3) = (allB ls (k + 1)).length by rw [hAll, List.length_append, hpB.out])
      have hRU := rdU_two w10 (allB ls k).length (2 + n3) (by omega) (by omega)
      rw [Int.natCast_add, show ((2 : Nat) : Int) = 2 from rfl] at hRU
      have hS := sum_ok (c := 2) hRU (by omega) (by simp [sumL]; omega)
      rw [show sumL [(allB ls k).length, 2 + n3] = (allB ls (k + 1)).length by rw [← hLen.out]; simp [sumL]] at hS
      have HS := hid hS
      rw [← hAll] at hO10' ⊢
      rw [hLen.out] at hT10 hO10'
      rw [hLen.out]
      have hlk1 : (allB ls (k + 1)).length ≤ 202 * (k + 1) := by rw [← hLen.out]; omega
      clear hAll hLen hpB hT9 hA9 hR9 hbw9 hO10 hg10 hV10 hRU hS
      have hT11 := hid (hT10.out.alloc (.cells #[.int .u64 ((allB ls k).length : Nat), .int .u64 (2 + (n3 : Int))] 41))
      have hbw11 := hid (hbw10.out.alloc hbw10.out.size (.cells #[.int .u64 ((allB ls k).length : Nat), .int .u64 (2 + (n3 : Int))] 41))
      have hO11 := hid (owns_chg hO10'.out (Chg.of_below (below_fresh0 w10 (.cells #[.int .u64 ((allB ls k).length : Nat), .int .u64 (2 + (n3 : Int))] 41)) (fun _ => False)) (fun _ _ h => h))
      clear hT10 hbw10 hO10'
      refine HS.out.mono ?_
      rintro e w11 ⟨rfl, rfl⟩
      clear HS
      generalize w10.alloc (.cells #[.int .u64 ((allB ls k).length : Nat), .int .u64 (2 + (n3 : Int))] 41) = w11 at *
      go_wp2
      go_roundw
      case rel => exact ⟨k + 1, by omega, by go_num, ⟨true, hT11⟩, rfl, rfl, hlk1, ⟨A10, c10, rfl, hO11⟩, hbw11.out⟩
      case measure => simp [intOf]; omega
    · obtain rfl : k = n := by omega
      have hlt := hTk.out.lt
      have hR0 := RdB.of_own hOk.out
      have HR0 := hid hR0
      have hlen := hid (show (allB ls k).length = (allB ls k).length from rfl)
      have hmax : (allB ls k).length ≤ 6060 := by omega
      generalize hN : (allB ls k).length = N at hTk HR0 hlk hmax hlen ⊢
      clear hOk hR0
      go_wp2_with fail
      refine (seal_any hTk.out HR0.out (by omega) (by omega)).mono ?_
      rintro e w3 ⟨p, rfl, hB3, hp, hT3, hC3⟩
      have hbw3 := hid (Chg.below hbk hC3 hbk.size (fun j hj => by have := HGG.out; omega))
      have HR1 := hid (HR0.out.chg hC3 (fun h0 x hx e => hTk.out.ne HR0.out h0 x hx e))
      have HT3 := hid hT3
      have hpw : w.heap.size ≤ p := Nat.le_trans hbk.size hp
      have hv : crcN ((allB ls k ++ sumD (crcN (allB ls k))).take N) = getN ((allB ls k ++ sumD (crcN (allB ls k))).drop N) := by
        rw [List.take_left' hN, List.drop_left' hN, getN_sumD _ (crcN_lt _)]
      have hR3 := RdB.of_blk hB3
      rw [show (allB ls k ++ sumD (crcN (allB ls k))).length = N + 4 by rw [List.length_append, hN]; rfl] at hR3
      have HR3 := hid hR3
      have HV := hid hv
      clear hR3 hv hB3 hC3 hT3 hTk HR0 hbk
      go_wp2_with fail
      refine (open_yes HT3.out HR3.out (Nat.le_refl _) (by omega) (by omega) HV.out).mono ?_
      rintro e w4 ⟨q, rfl, hB4, hq, hT4, hC4⟩
      rw [List.take_left' hN] at hB4
      have hR4 := RdB.of_blk hB4
      rw [hN] at hR4
      have HR4 := hid hR4
      have hbw4 := hid (Chg.below hbw3.out hC4 hbw3.out.size (fun j hj => by have := HGG.out; omega))
      have HR1' := hid (HR1.out.chg hC4 (fun h0 x hx e => HT3.out.ne HR1.out h0 x hx e))
      have HT4 := hid hT4
      clear hB4 hR4 hC4 hT4 HT3 HR1 HR3 HV hbw3
      go_wp2_with fail
      refine (of_any HT4.out HR1'.out (by omega) (by omega)).mono ?_
      rintro e w5 ⟨rfl, hT5, hC5⟩
      have hbw5 := hid (Chg.below hbw4.out hC5 hbw4.out.size (fun j hj => by have := HGG.out; omega))
      have HR5 := hid (HR4.out.chg hC5 (fun h0 x hx e => HT4.out.ne HR4.out h0 x hx e))
      clear hT5 hC5 HT4 HR1' HR4 hbw4
      go_wp2_with fail
      refine (new_rd HR5.out (Nat.le_refl _) (by omega)).mono ?_
      rintro e w6 ⟨r, rfl, hD6, hb6, hr6⟩
      have hrw : w.heap.size ≤ r := Nat.le_trans hbw5.out.size hr6
      have hbw6 := hid (hbw5.out.trans (hb6.mono hbw5.out.size))
      have HD6 := hid hD6
      clear hD6 hb6 hbw5 HR5
      go_wp2_with fail
      have HD0 : Hid (Rdr w6 r (some ⟨q, 0, none⟩) N N (allB ls 0).length (allB ls k)) := HD6
      clear hT hT0 hb2 hk hlen
      go_loopw [111] (fun i wr => ∃ j : Nat, j ≤ k ∧ i = .int .i64 j ∧ Hid (Rdr wr r (some ⟨q, 0, none⟩) N N (allB ls j).length (allB ls k)) ∧ Hid (Below w.heap.size w wr)) (fun i _ => k - (intOf i).toNat)
      case atStart => exact ⟨0, by omega, rfl, HD0, hbw6⟩
      case round =>
        obtain ⟨j, hj, rfl, hDj, hbj⟩ := hrel
        by_cases hjk : j < k
        · obtain ⟨bb, oo, rfl, hbb, hr⟩ := HG.out (by omega)
          obtain ⟨A3, n3, c3, hcell, hP, hn3, hc3⟩ := hr j hjk
          have hck := (World.cell?_of_block (w := w) (w' := wr) (a := ⟨bb, oo + j, none⟩) (hbj.out.block bb hbb)).trans hcell
          have HPw := hid hP
          have hpl := hid hP.1
          clear hr hcell hP
          have hle := allB_le ls (j + 1) k hjk
          have hl1 : (allB ls (j + 1)).length = (allB ls j).length + (2 + n3) := by
            show (allB ls j ++ pieceB (ls j)).length = _
            rw [List.length_append, pieceB_len, hpl.out]
          obtain ⟨t, ht⟩ := allB_drop ls j k hjk
          have hv1 := hid (show ofB false (((allB ls k).drop (allB ls j).length).take 2) = n3 by
            rw [ht]
            unfold pieceB
            rw [List.append_assoc, List.take_left' (digits_len _ _ _), hpl.out, ofB_digits false n3 2 (by omega) (by omega)])
          have hv2 := hid (show ((allB ls k).drop ((allB ls j).length + 2)).take n3 = ls j by
            rw [← List.drop_drop, ht]
            unfold pieceB
            rw [List.append_assoc, List.drop_left' (digits_len _ _ _), List.take_left' hpl.out])
          have hnx := hid (show (allB ls j).length + 2 + n3 = (allB ls (j + 1)).length by omega)
          have hf1 := hid (show (allB ls j).length + 2 ≤ N by omega)
          have hf2 := hid (show (allB ls j).length + 2 + n3 ≤ N by omega)
          have hn4 : n3 ≤ 6060 := by omega
          clear ht hl1 hle
          go_wp2_with fail
          refine (num_ok (width := 2) hDj.out false (by omega) (by omega) hf1.out).mono ?_
          rintro e w7 ⟨rfl, hD7, hg7⟩
          rw [hv1.out]
          have hb7 := hid (below_grown hbj.out hg7 hbj.out.size hrw)
          have HD7 := hid hD7
          clear hD7 hg7 hbj hDj hck
          go_wp2_with fail
          refine (take_ok (m := n3) HD7.out hf2.out (by omega)).mono ?_
          rintro e w8 ⟨g2, rfl, hB8, hg8, hD8, hg8'⟩
          rw [hv2.out] at hB8
          have hb8 := hid (below_grown hb7.out hg8' hb7.out.size hrw)
          have hR8 := RdB.of_blk hB8
          rw [hpl.out] at hR8
          have hst := run_str hR8 n3
          have hst2 := run_str (HPw.out.below hb8.out) c3
          have HD8 := hid hD8
          rw [hnx.out] at HD8
          clear hB8 hR8 hD8 hg8' HD7 hb7
          go_wp2
          go_roundw
          case rel => exact ⟨j + 1, by omega, by go_num, HD8, hb8⟩
          case measure => simp [intOf]; omega
        · obtain rfl : j = k := by omega
          go_wp2_with fail
          refine (left_any hDj.out).mono ?_
          rintro e w5 ⟨rfl, k5, rfl⟩
          rw [hN]
          go_wp2
          go_ret
          exact ⟨rfl, below_drewN hbj.out k5⟩

theorem wholeSums_law {w : World} {A : Option Addr} {n c : Nat} {ls : Nat → List UInt8} (hG : RdG w A n ls) :
    Calls Try.prog 14 #[.slice A n c] w fun e w' => e = .returned (.bool true) ∧ Below w.heap.size w w' := by
  by_cases h : 30 < n
  · exact wholes_many h
  · exact wholes_go hG (by omega)
end Go.Proofs.Ytmbbjhlpfgpibaa
