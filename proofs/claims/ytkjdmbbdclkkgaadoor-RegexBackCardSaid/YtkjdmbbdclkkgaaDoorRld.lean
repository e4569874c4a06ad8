/- regex: the laws' own 'deep'. -/
import Derived.Test.YtkjdmbbdclkkgaaDoorRlw
namespace Go.Proofs.YtkjdmbbdclkkgaaDoor
open Go.RowKit

theorem dpL_take (ks : List RT) (j : Nat) (h : j < ks.length) : dpL (ks.take (j + 1)) = max (dpL (ks.take j)) (dpT ks[j]) := by
  induction ks generalizing j with
  | nil => simp at h
  | cons t ts ih =>
    cases j with
    | zero =>
      rw [List.take_succ_cons, List.take_zero, List.take_zero, dpL, dpL]
      simp [dpL]
    | succ j =>
      rw [List.take_succ_cons, List.take_succ_cons, dpL, dpL, ih j (by simpa using h), Nat.max_assoc]
      rfl
theorem dp_sz : ∀ t, dpT t ≤ szT t := by
  refine RT.ind fun k s ks lo hi ih => ?_
  rw [dpT, szT]
  have : dpL ks ≤ szL ks := by
    clear s lo hi
    induction ks with
    | nil => simp [dpL, szL]
    | cons t ts ih2 =>
      rw [dpL, szL]
      have h1 := ih t (by simp)
      have h2 := ih2 (fun x hx => ih x (List.mem_cons_of_mem _ hx))
      omega
  omega
theorem dpL_sz (ks : List RT) : dpL ks ≤ szL ks := by
  induction ks with
  | nil => simp [dpL, szL]
  | cons t ts ih2 =>
    rw [dpL, szL]
    have h1 := dp_sz t
    omega
set_option maxRecDepth 100000 in
set_option maxHeartbeats 8000000 in
theorem deep_any : ∀ (t : RT) (v : RV) (w : World) (P : Nat → Prop), Rep w P v t → (∀ b, P b → b < w.heap.size) → szT t ≤ 512 →
    Calls Tryd.prog 16 #[v.val] w fun e w' => e = .returned (.int .i64 (dpT t : Nat)) ∧ Below w.heap.size w w' := by
  refine RT.ind fun k s ks lo hi ih => ?_
  intro v w P hR hP hsz
  obtain ⟨rfl, rfl, rfl, rfl, hn, vs, hA, hk⟩ := hR.inv
  have hRL := Rep.row hn hA hk
  rw [szT] at hsz
  rw [dpT]
  clear hR hA hk
  obtain ⟨hb, hN⟩ := box_new w v
  have hx := Blk.cells8' (v := v) hN
  have HX := hid hN
  have HBX := hid hb
  have HRL := hid hRL
  have hnl := szL_len ks
  clear hN hb hRL
  unfold RV.val
  rw [show (#[.int .i64 v.k, .int .u64 ((wd v.s 0 : Nat) : Int), .int .u64 ((wd v.s 1 : Nat) : Int), .int .u64 ((wd v.s 2 : Nat) : Int), .int .u64 ((wd v.s 3 : Nat) : Int), .slice v.A v.n v.c, .int .i64 v.lo, .int .i64 v.hi] : Array Value) = v.cells.toArray from rfl]
  go_enter Tryd.func16, Tryd.ntmps16
  go_upto_region 1 with (fail)
  change Code.wp _ _ _ _ (w.alloc (.cells v.cells.toArray 26))
  generalize w.alloc (.cells v.cells.toArray 26) = w1 at *
  generalize v.cells.toArray = cs at *
  obtain ⟨k, s, A, n, c, lo, hi⟩ := v
  simp only at *
  obtain ⟨x0, x1, x2, x3, x4, x5, x6, x7⟩ := hx
  have hn511 : n ≤ 511 := by omega
  go_wp2_with fail
  clear x0 x1 x2 x3 x4 x5 x6 x7
  go_loopw [3, 9] (fun d i wr => ∃ (j q : Nat), j ≤ n ∧ i = .int .i64 j ∧ d = .int .i64 q ∧ q ≤ 512 ∧ Hid (q = dpL (ks.take j)) ∧ Hid (Below w.heap.size w wr)) (fun _ i _ => n - (intOf i).toNat)
  case atStart => exact ⟨0, 0, by omega, rfl, rfl, by omega, hid (by rw [List.take_zero, dpL]), HBX⟩
  case round =>
    clear HBX
    obtain ⟨j, q, hj, rfl, rfl, hq, HQ, HB⟩ := hrel
    by_cases hlt : j < n
    · obtain ⟨b, o, hAe, hbl, hp, hrow⟩ := HRL.out.1 (by omega)
      have hjk : j < ks.length := by omega
      have hrw := (hrow j hjk).block (HB.out.block b (hP b hp))
      obtain ⟨y0, y1, y2, y3, y4, y5, y6, y7⟩ := hrw.cells8
      have hRk := (HRL.out.2 j hjk).mono HB.out.size (fun b hb _ => HB.out.block b (hP b hb)) (fun _ h _ => h)
      generalize hx : vs j = x at *
      have hbx := row_new wr 26 #[.int .i64 0, .int .u64 0, .int .u64 0, .int .u64 0, .int .u64 0, .slice none 0 0, .int .i64 0, .int .i64 0] x.cells.toArray
      have HX5 := hid (show Blk ((wr.alloc (.cells #[.int .i64 0, .int .u64 0, .int .u64 0, .int .u64 0, .int .u64 0, .slice none 0 0, .int .i64 0, .int .i64 0] 26)).setRow wr.heap.size x.cells.toArray) wr.heap.size 26 x.cells from setRow_heap _ _ _ _ _ (0, 0) (heap_alloc_new wr _))
      have HSz := hid (rx_size x)
      have HOne := hid (rx_one x)
      have HB5 := hid (HB.out.trans (hbx.mono HB.out.size))
      have hs5 := HB5.out.size
      have hsj : szT ks[j] ≤ 512 := by have h1 := szL_take ks j hjk; have h2 := szL_take_le ks (j + 1); omega
      have HIH := hid (ih ks[j] (List.getElem_mem _) x _ P (hRk.keep hbx) (fun b hb => by have := hP b hb; omega) hsj)
      have HT := hid (dpL_take ks j hjk)
      have hdj := dp_sz ks[j]
      clear hRk hbx hrow hrw ih HRL HB hs5
      generalize dpT ks[j] = z at *
      unfold RV.val at HIH
      rw [hAe]
      go_wp2_with (refine wpList_store_row rfl 26 _ _ rfl wr.heap.size x.cells.toArray ?_ ?_ 26 #[.int .i64 0, .int .u64 0, .int .u64 0, .int .u64 0, .int .u64 0, .slice none 0 0, .int .i64 0, .int .i64 0] (heap_alloc_new wr _) HSz.out ?_ HOne.out ?_; exact rfl; exact rfl; exact rfl; generalize (wr.alloc (.cells #[.int .i64 0, .int .u64 0, .int .u64 0, .int .u64 0, .int .u64 0, .slice none 0 0, .int .i64 0, .int .i64 0] 26)).setRow wr.heap.size x.cells.toArray = w5 at *; obtain ⟨x0, x1, x2, x3, x4, x5, x6, x7⟩ := Blk.cells8' HX5.out)
      refine HIH.out.mono ?_
      rintro e w6 ⟨rfl, hb6⟩
      have HB6 := hid (HB5.out.trans (hb6.mono HB5.out.size))
      clear x0 x1 x2 x3 x4 x5 x6 x7 y0 y1 y2 y3 y4 y5 y6 y7 hb6 HIH HB5 HX5
      go_wp2
      go_roundw
      case rel => exact ⟨j + 1, max q z, by omega, by go_num, by simp; omega, by omega, hid (by rw [HT.out, ← HQ.out]), HB6⟩
      case measure => simp [intOf]; omega
    · obtain rfl : j = n := by omega
      have htk : ks.take j = ks := List.take_of_length_le (by omega)
      rw [htk] at HQ
      go_wp2
      go_ret
      exact ⟨by rw [← HQ.out]; simp, HB.out⟩
end Go.Proofs.YtkjdmbbdclkkgaaDoor
