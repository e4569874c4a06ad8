/- class: And, Or, Not. -/
import Derived.Test.YtbpgfphilcjmdaaDoorSetV
import Derived.Laws.Unary
namespace Go.Proofs.YtbpgfphilcjmdaaDoor
open Go.RowKit

set_option maxRecDepth 8000 in
theorem or_any (a b : BS) (w : World) :
    Calls Tryd.prog 21 #[setV a, setV b] w fun e w' => e = .returned (setV (a ||| b)) ∧ Below w.heap.size w w' := by
  rw [setV_eq, setV_eq]
  have hb := @below_alloc3 w (.cells (setL a).toArray 40) (.cells (setL b).toArray 40) (.cells (four (fun _ => 0)).toArray 40)
  have hA := ((Blk.fresh w 40 (setL a)).alloc (.cells (setL b).toArray 40)).alloc (.cells (four (fun _ => 0)).toArray 40)
  have hB := (Blk.fresh (w.alloc (.cells (setL a).toArray 40)) 40 (setL b)).alloc (.cells (four (fun _ => 0)).toArray 40)
  have hC := Blk.fresh ((w.alloc (.cells (setL a).toArray 40)).alloc (.cells (setL b).toArray 40)) 40 (four (fun _ => 0))
  rw [show (w.alloc (.cells (setL a).toArray 40)).heap.size = w.heap.size + 1 by simp] at hB
  rw [show ((w.alloc (.cells (setL a).toArray 40)).alloc (.cells (setL b).toArray 40)).heap.size = w.heap.size + 1 + 1 by simp] at hC
  have HA := hid hA
  have HB := hid hB
  have HC := hid hC
  clear hA hB hC
  go_enter Tryd.func21, Tryd.ntmps21
  go_wp2
  change Code.wp _ _ _ _ (((w.alloc (.cells (setL a).toArray 40)).alloc (.cells (setL b).toArray 40)).alloc (.cells (four (fun _ => 0)).toArray 40))
  generalize ((w.alloc (.cells (setL a).toArray 40)).alloc (.cells (setL b).toArray 40)).alloc (.cells (four (fun _ => 0)).toArray 40) = w3 at *
  generalize (setL a).toArray = Va
  generalize (setL b).toArray = Vb
  go_loopw [6] (fun i wr => ∃ k : Nat, k ≤ 4 ∧ i = .int .i64 k ∧ Hid (Blk wr w.heap.size 40 (mix (wd (a ||| b)) (wd a) k)) ∧ Hid (Blk wr (w.heap.size + 1) 40 (setL b)) ∧ Hid (Blk wr (w.heap.size + 1 + 1) 40 (four (fun _ => 0))) ∧ Below w.heap.size w wr) (fun i _ => 4 - (intOf i).toNat)
  case atStart => exact ⟨0, by omega, rfl, by rw [mix_zero]; exact HA, HB, HC, hb⟩
  case round =>
    obtain ⟨k, hk, rfl, HA, HB, HC, hbk⟩ := hrel
    by_cases hlt : k < 4
    · have hca := (HA.out.at k).trans (mix_get (wd (a ||| b)) (wd a) k hlt)
      have hcb := (HB.out.at k).trans (four_get (wd b) k hlt)
      have hfr := HA.out.free k
      have hS := HA.out.put k (u64V (wd (a ||| b) k))
      rw [mix_set (wd (a ||| b)) (wd a) k hlt] at hS
      have HS := hid hS
      have HB2 := hid (HB.out.other (p := ⟨w.heap.size, k, none⟩) (show w.heap.size + 1 ≠ w.heap.size by omega) (u64V (wd (a ||| b) k)))
      have HC2 := hid (HC.out.other (p := ⟨w.heap.size, k, none⟩) (show w.heap.size + 1 + 1 ≠ w.heap.size by omega) (u64V (wd (a ||| b) k)))
      have hop := or64 (wd a k) (wd b k) (wd_lt a k) (wd_lt b k)
      rw [← wd_or] at hop
      unfold u64V at hca hcb HS HB2 HC2
      clear hS HA HB HC
      generalize wd (a ||| b) k = y at *
      generalize wd a k = x1 at *
      generalize wd b k = x2 at *
      go_wp2
      go_region
      all_goals
        go_wp2
        go_roundw
        case rel => exact ⟨k + 1, by omega, by go_num, HS, HB2, HC2, (hbk.setCell (p := ⟨w.heap.size, k, none⟩) (Nat.le_refl _) _).drew⟩
        case measure => simp [intOf]; omega
    · obtain rfl : k = 4 := by omega
      have hA := HA.out
      rw [mix_all] at hA
      have hg : wr.heap[w.heap.size]? = some (.cells (four (wd (a ||| b))).toArray 40) := hA
      have hz : wr.heap[w.heap.size + 1 + 1]? = some (.cells (four (fun _ => 0)).toArray 40) := HC.out
      have hR := hid (blk_row HC.out (four (wd (a ||| b))))
      have hB := hid (below_row hbk (show w.heap.size ≤ w.heap.size + 1 + 1 by omega) (four (wd (a ||| b))).toArray)
      go_wp2_with (first
        | refine wpList_load_row rfl 40 _ rfl w.heap.size rfl 40 _ (0, 0) _ hg Tryd.underlying40 rfl (set_info _) ?_
        | refine wpList_store_row rfl 40 _ _ rfl (w.heap.size + 1 + 1) (four (wd (a ||| b))).toArray rfl rfl 40 _ hz (set_info _) rfl (four_one _) ?_)
      exact bodyPost_ret (v := .agg (setL (a ||| b)).toArray) (results_cell_row (P := Tryd.prog) (fn := Tryd.f21) rfl _ _ (w.heap.size + 1 + 1) 40 _ (0, 0) _ rfl hR.out Tryd.underlying40 rfl (set_info _)) rfl ⟨rfl, hB.out⟩

set_option maxRecDepth 8000 in
theorem not_any (a : BS) (w : World) :
    Calls Tryd.prog 17 #[setV a] w fun e w' => e = .returned (setV (~~~a)) ∧ Below w.heap.size w w' := by
  rw [setV_eq]
  have hb := @below_alloc2 w (.cells (setL a).toArray 40) (.cells (four (fun _ => 0)).toArray 40)
  have hA := (Blk.fresh w 40 (setL a)).alloc (.cells (four (fun _ => 0)).toArray 40)
  have hC := Blk.fresh (w.alloc (.cells (setL a).toArray 40)) 40 (four (fun _ => 0))
  rw [show (w.alloc (.cells (setL a).toArray 40)).heap.size = w.heap.size + 1 by simp] at hC
  have HA := hid hA
  have HC := hid hC
  clear hA hC
  go_enter Tryd.func17, Tryd.ntmps17
  go_wp2
  change Code.wp _ _ _ _ ((w.alloc (.cells (setL a).toArray 40)).alloc (.cells (four (fun _ => 0)).toArray 40))
  generalize (w.alloc (.cells (setL a).toArray 40)).alloc (.cells (four (fun _ => 0)).toArray 40) = w3 at *
  generalize (setL a).toArray = Va
  go_loopw [4] (fun i wr => ∃ k : Nat, k ≤ 4 ∧ i = .int .i64 k ∧ Hid (Blk wr w.heap.size 40 (mix (wd (~~~a)) (wd a) k)) ∧ Hid (Blk wr (w.heap.size + 1) 40 (four (fun _ => 0))) ∧ Below w.heap.size w wr) (fun i _ => 4 - (intOf i).toNat)
  case atStart => exact ⟨0, by omega, rfl, by rw [mix_zero]; exact HA, HC, hb⟩
  case round =>
    obtain ⟨k, hk, rfl, HA, HC, hbk⟩ := hrel
    by_cases hlt : k < 4
    · have hca := (HA.out.at k).trans (mix_get (wd (~~~a)) (wd a) k hlt)
      have hfr := HA.out.free k
      have hS := HA.out.put k (u64V (wd (~~~a) k))
      rw [mix_set (wd (~~~a)) (wd a) k hlt] at hS
      have HS := hid hS
      have HC2 := hid (HC.out.other (p := ⟨w.heap.size, k, none⟩) (show w.heap.size + 1 ≠ w.heap.size by omega) (u64V (wd (~~~a) k)))
      have hx1 := wd_lt a k
      have HX := hid (show bits .xor .u64 (if IntKind.u64.signed = true then -1 else IntKind.u64.max) ((wd a k : Nat) : Int) = ((wd (~~~a) k : Nat) : Int) by rw [wd_not a k hlt]; exact not64 _ hx1)
      unfold u64V at hca HS HC2
      clear hS HA HC
      generalize wd (~~~a) k = y at *
      generalize wd a k = x1 at *
      go_wp2
      go_roundw
      case rel => exact ⟨k + 1, by omega, by go_num, by rw [HX.out]; exact HS, by rw [HX.out]; exact HC2, (hbk.setCell (p := ⟨w.heap.size, k, none⟩) (Nat.le_refl _) _)⟩
      case measure => simp [intOf]; omega
    · obtain rfl : k = 4 := by omega
      have hA := HA.out
      rw [mix_all] at hA
      have hg : wr.heap[w.heap.size]? = some (.cells (four (wd (~~~a))).toArray 40) := hA
      have hz : wr.heap[w.heap.size + 1]? = some (.cells (four (fun _ => 0)).toArray 40) := HC.out
      have hR := hid (blk_row HC.out (four (wd (~~~a))))
      have hB := hid (below_row hbk (show w.heap.size ≤ w.heap.size + 1 by omega) (four (wd (~~~a))).toArray)
      go_wp2_with (first
        | refine wpList_load_row rfl 40 _ rfl w.heap.size rfl 40 _ (0, 0) _ hg Tryd.underlying40 rfl (set_info _) ?_
        | refine wpList_store_row rfl 40 _ _ rfl (w.heap.size + 1) (four (wd (~~~a))).toArray rfl rfl 40 _ hz (set_info _) rfl (four_one _) ?_)
      exact bodyPost_ret (v := .agg (setL (~~~a)).toArray) (results_cell_row (P := Tryd.prog) (fn := Tryd.f17) rfl _ _ (w.heap.size + 1) 40 _ (0, 0) _ rfl hR.out Tryd.underlying40 rfl (set_info _)) rfl ⟨rfl, hB.out⟩

set_option maxRecDepth 8000 in
theorem all_any (w : World) :
    Calls Tryd.prog 20 #[] w fun e w' => e = .returned (setV (~~~(0#256))) ∧ Below w.heap.size w w' := by
  have hn := fun W => not_any (0#256) W
  rw [show setV (0#256) = .agg #[.int .u64 0, .int .u64 0, .int .u64 0, .int .u64 0] by simp [setV, wd_zero]] at hn
  have hC := Blk.fresh w 40 (four (fun _ => 0))
  have HC := hid hC
  have hb := ((Below.refl w.heap.size w).alloc (Nat.le_refl _) (.cells (four (fun _ => 0)).toArray 40))
  clear hC
  rw [setV_eq (~~~(0#256))] at *
  have HN := hid hn
  clear hn
  go_enter Tryd.func20, Tryd.ntmps20
  go_wp2_with fail
  refine (HN.out _).mono ?_
  rintro e w1 ⟨rfl, hb1⟩
  have hC1 := HC.out.keep hb1
  have hz : w1.heap[w.heap.size]? = some (.cells (four (fun _ => 0)).toArray 40) := hC1
  have hR := hid (blk_row hC1 (four (wd (~~~(0#256)))))
  have hB := hid (below_row (hb.trans (hb1.mono hb.size)) (Nat.le_refl _) (four (wd (~~~(0#256)))).toArray)
  clear hC1
  go_wp2_with (refine wpList_store_row rfl 40 _ _ rfl w.heap.size (four (wd (~~~(0#256)))).toArray rfl rfl 40 _ hz (set_info _) rfl (four_one _) ?_)
  exact bodyPost_ret (v := .agg (setL (~~~(0#256))).toArray) (results_cell_row (P := Tryd.prog) (fn := Tryd.f20) rfl _ _ w.heap.size 40 _ (0, 0) _ rfl hR.out Tryd.underlying40 rfl (set_info _)) rfl ⟨rfl, hB.out⟩
end Go.Proofs.YtbpgfphilcjmdaaDoor
