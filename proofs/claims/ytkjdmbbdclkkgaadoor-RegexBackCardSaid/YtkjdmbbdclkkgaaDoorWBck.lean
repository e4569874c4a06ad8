/- The law RegexBack, walked. -/
import Derived.Test.YtkjdmbbdclkkgaaDoorRld
import Derived.Test.YtkjdmbbdclkkgaaDoorWChk
namespace Go.Proofs.YtkjdmbbdclkkgaaDoor
open Go.RowKit

/-- The law's own variables, kept. -/
structure Hw (w : World) (b : Nat) (v : RV) (t : RT) (x : RV) (c p : Int) (W : World) : Prop where
  bel : Below w.heap.size w W
  tab : TabAt W
  fv : Blk W w.heap.size 26 v.cells
  r : Rep W (· < w.heap.size) v t
  fx : Blk W b 26 x.cells
  ff : Blk W (b + 1) 35 (faultC c p).toList
theorem Hw.step {w W W' : World} {b : Nat} {v : RV} {t : RT} {x : RV} {c p : Int} (h : Hw w b v t x c p W) (hb : Below W.heap.size W W') : Hw w b v t x c p W' :=
  ⟨h.bel.trans (hb.mono h.bel.size), h.tab.keep hb, h.fv.keep hb, h.r.keep hb, h.fx.keep hb, h.ff.keep hb⟩
theorem nr_sz : ∀ t, szT (nrT t) = szT t := by
  refine RT.ind fun k s ks lo hi ih => ?_
  have key : szL (nrL ks) = szL ks := by
    induction ks with
    | nil => rw [nrL]
    | cons t ts ih2 => rw [nrL, szL, szL, ih t (by simp), ih2 (fun x hx => ih x (List.mem_cons_of_mem _ hx))]
  rw [nrT, szT, szT, key]
theorem ckF_nr (k : Int) (s : BS) (n : Nat) (lo hi : Int) (h : ckF k s n lo hi = 0) : ckF k (if k = 2 then s else 0#256) n (if k = 5 then lo else 0) (if k = 5 then (if hi < 0 then -1 else hi) else 0) = 0 := by
  unfold ckF at h ⊢
  by_cases hf : fmB k n = true
  · rw [if_pos hf] at h ⊢
    by_cases h2 : k = 2
    · rw [if_pos h2] at h ⊢
      rw [if_pos h2]
      exact h
    · rw [if_neg h2] at h ⊢
      by_cases h5 : k = 5
      · rw [if_pos h5] at h ⊢
        rw [if_pos h5, if_pos h5]
        by_cases hc : lo < 0 ∨ 256 < lo ∨ 256 < hi ∨ (0 ≤ hi ∧ hi < lo)
        · rw [if_pos hc] at h; cases h
        · by_cases hh : hi < 0
          · rw [if_pos hh, if_neg (by omega)]
          · rw [if_neg hh, if_neg hc]
      · rw [if_neg h5]
  · rw [if_neg hf] at h
    cases h
theorem wg_nr' : ∀ t, wgT t = 0 → wgT (nrT t) = 0 := by
  refine RT.ind fun k s ks lo hi ih h => ?_
  obtain ⟨hc, hk⟩ := wgT_nd h
  have hc2 : ck1 (nrT (.nd k s ks lo hi)) = 0 := by
    rw [nrT]
    show ckF _ _ _ _ _ = 0
    rw [nrL_len]
    exact ckF_nr _ _ _ _ _ hc
  have hk2 : wgL (nrL ks) = 0 := wgL_all (fun t ht => by
    rw [nrL_map] at ht
    obtain ⟨u, hu, rfl⟩ := List.mem_map.1 ht
    exact ih u hu (hk u hu))
  rw [nrT] at hc2 ⊢
  rw [wgT, if_neg (by omega), hk2]
theorem wg_nr {t : RT} (h : wgT t = 0) : wgT (nrT t) = 0 := wg_nr' t h
theorem run_eq20 (W : World) : (binOp .eql 35 (.agg #[.int .i64 2, .int .i64 0]) (.agg #[.int .i64 2, .int .i64 0])).run Tryd.prog W = .ok (.bool true) W := by kernel_rfl
theorem run_eq00 (W : World) : (binOp .eql 35 (.agg #[.int .i64 0, .int .i64 0]) (.agg #[.int .i64 0, .int .i64 0])).run Tryd.prog W = .ok (.bool true) W := by kernel_rfl
set_option maxRecDepth 100000 in
set_option maxHeartbeats 8000000 in
theorem back_walk (v : RV) (t : RT) {w : World} (h : Rep w (· < w.heap.size) v t) (hT : TabAt w) :
    Calls Tryd.prog 4 #[v.val] w fun e w' => e = .returned (.bool true) ∧ Below w.heap.size w w' := by
  obtain ⟨hb, hN⟩ := box_new w v
  have hs1 : (w.alloc (.cells v.cells.toArray 26)).heap.size = w.heap.size + 1 := by simp
  have HB := hid (show Hv w w.heap.size v t (w.alloc (.cells v.cells.toArray 26)) from ⟨hb, hT.keep hb, hN, Nat.le_refl _, h.keep hb⟩)
  have HRd := hid (fun W (h : TabAt W) => reads_any h)
  have HF := hid (fun W g (hR : Hv w w.heap.size v t W) (hg : w.heap.size ≤ g) (hb : Blk W g 3 [.int .i64 200]) => few_any t v W g 200 _ hR.r (fun b hb => by have h : b < w.heap.size := hb; omega) hb (by decide) (by decide))
  have HFs := hid (fw_sz t 200)
  have HWr := hid (fun W (hR : Hv w w.heap.size v t W) (hs : szT t ≤ 512) => wrong_any t v W _ hR.r (fun b hb => by have h : b < w.heap.size := hb; have := hR.bel.size; omega) hs)
  have HTx := hid (fun W (hR : Hv w w.heap.size v t W) (hw : wgT t = 0) (hs : szT t ≤ 512) => Text_any hR.r (fun b hb => by have h : b < w.heap.size := hb; have := hR.bel.size; omega) hR.tab hw hs)
  obtain ⟨S, hS⟩ : ∃ S : ByteArray, S = ⟨(wrT t).toArray⟩ := ⟨_, rfl⟩
  rw [← hS] at HTx
  have HSL : Hid (S.data.toList = wrT t) := hid (by rw [hS])
  have HSz : Hid (S.size = (wrT t).length) := hid (by rw [hS]; simp [ByteArray.size])
  have HSD : Hid (S = ⟨(wrT t).toArray⟩) := hid hS
  have HPa := hid (fun W => parse_any S W)
  have HT0 := hid hT
  have HDp := hid (fun W b x c p (hR : Hw w b v t x c p W) (hs : szT t ≤ 512) => deep_any t v W _ hR.r (fun b hb => by have h : b < w.heap.size := hb; have := hR.bel.size; omega) hs)
  have HPd := hid (pd_dp t)
  clear hb hN hT h hS
  unfold RV.val at HF HWr HTx HDp ⊢
  rw [show (#[.int .i64 v.k, .int .u64 ((wd v.s 0 : Nat) : Int), .int .u64 ((wd v.s 1 : Nat) : Int), .int .u64 ((wd v.s 2 : Nat) : Int), .int .u64 ((wd v.s 3 : Nat) : Int), .slice v.A v.n v.c, .int .i64 v.lo, .int .i64 v.hi] : Array Value) = v.cells.toArray from rfl]
  go_enter Tryd.func4, Tryd.ntmps4
  go_upto_region 1 with (fail)
  change Code.wp _ _ _ _ (w.alloc (.cells v.cells.toArray 26))
  generalize w.alloc (.cells v.cells.toArray 26) = w1 at *
  go_wp2_with fail
  refine (HRd.out _ HB.out.tab).mono ?_
  rintro e w2 ⟨rfl, hb2⟩
  have hs2 := hb2.size
  have HB2 := hid (HB.out.step hb2)
  have hal : Below w2.heap.size w2 (w2.alloc (.cells #[.int .i64 200] 3)) := (Below.refl _ _).alloc (Nat.le_refl _) _
  have HB3 := hid (HB2.out.step hal)
  have hbk : Blk (w2.alloc (.cells #[.int .i64 200] 3)) w2.heap.size 3 [.int .i64 200] := heap_alloc_new w2 _
  have HF3 := hid (HF.out _ _ HB3.out (by omega) hbk)
  have hs3 : (w2.alloc (.cells #[.int .i64 200] 3)).heap.size = w2.heap.size + 1 := by simp
  clear hb2 hal hbk HB HF HRd HB2
  obtain ⟨x0, x1, x2, x3, x4, x5, x6, x7⟩ := Blk.cells8' HB3.out.fv
  go_wp2_with fail
  refine HF3.out.mono ?_
  rintro e w4 ⟨rfl, hg4, _⟩
  have hs4 := hg4.size
  have hbel4 := below_grown HB3.out.bel hg4 (by omega) (by omega)
  have HB4 := hid (show Hv w w.heap.size v t w4 from ⟨hbel4, HT0.out.keep hbel4, (hg4.block _ HB3.out.fv.lt (by intro e; injection e with e; omega)).trans HB3.out.fv, Nat.le_refl _, HB3.out.r.mono hg4.size (fun b hb hl => hg4.block b hl (by intro e; injection e with e; have h : b < w.heap.size := hb; omega)) (fun _ h _ => h)⟩)
  clear x0 x1 x2 x3 x4 x5 x6 x7 hg4 HF3 HB3 hbel4 HT0
  obtain ⟨q, hq⟩ : ∃ q, q = (fwT t 200).1 := ⟨_, rfl⟩
  rw [← hq] at HFs ⊢
  clear hq
  obtain ⟨x0, x1, x2, x3, x4, x5, x6, x7⟩ := Blk.cells8' HB4.out.fv
  cases q
  · go_wp2
    go_ret
    exact ⟨rfl, HB4.out.bel⟩
  have HZ := hid (show szT t ≤ 512 by have := (HFs.out rfl).1; omega)
  clear HFs
  go_wp2_with fail
  refine (HWr.out _ HB4.out HZ.out).mono ?_
  rintro e w5 ⟨rfl, hb5⟩
  have HB5 := hid (HB4.out.step hb5)
  have hs5 := hb5.size
  clear hb5 HB4 HWr x0 x1 x2 x3 x4 x5 x6 x7
  obtain ⟨x0, x1, x2, x3, x4, x5, x6, x7⟩ := Blk.cells8' HB5.out.fv
  obtain ⟨q, hq⟩ : ∃ q, q = wgT t := ⟨_, rfl⟩
  by_cases hq0 : q ≠ 0
  · rw [← hq]
    have hq1 : ¬ (q : Int) = 0 := by omega
    clear hq
    go_wp2
    go_ret
    exact ⟨rfl, HB5.out.bel⟩
  have hwg : wgT t = 0 := by omega
  have HWg := hid hwg
  rw [hwg]
  clear hq hq0 hwg
  go_wp2_with fail
  refine (HTx.out _ HB5.out HWg.out HZ.out).mono ?_
  rintro e w6 ⟨rfl, hb6⟩
  have HB6 := hid (HB5.out.step hb6)
  have hs6 := hb6.size
  clear hb6 HB5 x0 x1 x2 x3 x4 x5 x6 x7
  go_wp2_with fail
  refine (HPa.out _).mono ?_
  rintro e w7 ⟨hb7, hp7⟩
  rw [HSL.out] at hp7
  have HB7 := hid (HB6.out.step hb7)
  have hs7 := hb7.size
  have HPt := hid (fun hl => parse_text HWg.out HZ.out hl)
  clear HB6 HPa
  by_cases hl : 512 < (wrT t).length
  · have hp : pParse (wrT t) = .error (2, 0) := by unfold pParse; rw [if_pos hl]
    rw [hp] at hp7
    obtain rfl := hp7
    have hS512 : (512 : Int) < (S.size : Int) := by have := HSz.out; omega
    obtain ⟨hbx, hx8, hf8⟩ := box_pf w7 RV.zero 2 0
    rw [zeroR_eq] at hbx hx8 hf8
    have HB8 := hid (show Hw w w7.heap.size v t RV.zero 2 0 _ from ⟨(HB7.out.step hbx).bel, (HB7.out.step hbx).tab, (HB7.out.step hbx).fv, (HB7.out.step hbx).r, hx8, hf8⟩)
    clear hbx hx8 hf8 hb7 HB7 hp hl
    go_upto_region 8 with (first
      | (refine wpList_store_row rfl 26 _ _ rfl w7.heap.size (zeroR) ?_ ?_ 26 #[.int .i64 0, .int .u64 0, .int .u64 0, .int .u64 0, .int .u64 0, .slice none 0 0, .int .i64 0, .int .i64 0] ((Below.heap_alloc _ _ _ (by simp)).trans (heap_alloc_new w7 _)) (by rw [← zeroR_eq]; exact rx_size _) ?_ (by rw [← zeroR_eq]; exact rx_one _) ?_; exact rfl; exact rfl; exact rfl)
      | (refine wpList_store_row rfl 35 _ _ rfl (w7.heap.size + 1) (faultC 2 0) ?_ ?_ 35 #[.int .i64 0, .int .i64 0] (pf_mid w7 _) (fault_size 2 0) ?_ (fault_one 2 0) ?_; exact rfl; exact rfl; exact rfl; generalize (((w7.alloc (.cells #[.int .i64 0, .int .u64 0, .int .u64 0, .int .u64 0, .int .u64 0, .slice none 0 0, .int .i64 0, .int .i64 0] 26)).alloc (.cells #[.int .i64 0, .int .i64 0] 35)).setRow w7.heap.size zeroR).setRow (w7.heap.size + 1) (faultC 2 0) = w8 at *))
    obtain ⟨f0, f1⟩ := faultB HB8.out.ff
    have hq := fun W => run_eq20 W
    go_wp2
    go_ret
    exact ⟨rfl, HB8.out.bel⟩
  · have hS512 : ¬ (512 : Int) < (S.size : Int) := by have := HSz.out; omega
    by_cases hd : pdT t ≤ 32
    · have hp := (HPt.out (by omega)).1 hd
      rw [hp] at hp7
      obtain ⟨x, rfl, hrx⟩ := hp7
      obtain ⟨hbx, hx8, hf8⟩ := box_pf w7 x 0 0
      have HSx := hid (rx_size x)
      have HOx := hid (rx_one x)
      have HB8 := hid (show Hw w w7.heap.size v t x 0 0 _ from ⟨(HB7.out.step hbx).bel, (HB7.out.step hbx).tab, (HB7.out.step hbx).fv, (HB7.out.step hbx).r, hx8, hf8⟩)
      have HRx := hid (hrx.keep hbx)
      clear hbx hx8 hf8 hb7 HB7 hp hl HPt hrx
      unfold RV.val
      go_upto_region 8 with (first
        | (refine wpList_store_row rfl 26 _ _ rfl w7.heap.size (x.cells.toArray) ?_ ?_ 26 #[.int .i64 0, .int .u64 0, .int .u64 0, .int .u64 0, .int .u64 0, .slice none 0 0, .int .i64 0, .int .i64 0] ((Below.heap_alloc _ _ _ (by simp)).trans (heap_alloc_new w7 _)) HSx.out ?_ HOx.out ?_; exact rfl; exact rfl; exact rfl)
        | (refine wpList_store_row rfl 35 _ _ rfl (w7.heap.size + 1) (faultC 0 0) ?_ ?_ 35 #[.int .i64 0, .int .i64 0] (pf_mid w7 _) (fault_size 0 0) ?_ (fault_one 0 0) ?_; exact rfl; exact rfl; exact rfl; generalize (((w7.alloc (.cells #[.int .i64 0, .int .u64 0, .int .u64 0, .int .u64 0, .int .u64 0, .slice none 0 0, .int .i64 0, .int .i64 0] 26)).alloc (.cells #[.int .i64 0, .int .i64 0] 35)).setRow w7.heap.size x.cells.toArray).setRow (w7.heap.size + 1) (faultC 0 0) = w8 at *))
      obtain ⟨f0, f1⟩ := faultB HB8.out.ff
      have hq := fun W => run_eq00 W
      obtain ⟨x0, x1, x2, x3, x4, x5, x6, x7⟩ := Blk.cells8' HB8.out.fv
      obtain ⟨y0, y1, y2, y3, y4, y5, y6, y7⟩ := Blk.cells8' HB8.out.fx
      have HSm := hid (same_any t (nrT t) v x w8 _ _ HB8.out.r HRx.out HZ.out (by rw [nr_sz]; exact HZ.out))
      rw [sm_nr] at HSm
      unfold RV.val at HSm
      go_wp2_with fail
      refine HSm.out.mono ?_
      rintro e w9 ⟨rfl, hb9⟩
      have HB9 := hid (HB8.out.step hb9)
      have HR9 := hid (HRx.out.keep hb9)
      clear hb9 HB8 HRx HSm x0 x1 x2 x3 x4 x5 x6 x7 y0 y1 y2 y3 y4 y5 y6 y7 f0 f1
      obtain ⟨y0, y1, y2, y3, y4, y5, y6, y7⟩ := Blk.cells8' HB9.out.fx
      have HTm := hid (Text_any HR9.out.here (fun b hb => hb) HB9.out.tab (wg_nr HWg.out) (by rw [nr_sz]; exact HZ.out))
      rw [wr_nr, ← HSD.out] at HTm
      unfold RV.val at HTm
      go_wp2_with fail
      refine HTm.out.mono ?_
      rintro e w10 ⟨rfl, hb10⟩
      have HB10 := hid (HB9.out.step hb10)
      clear hb10 HB9 HTm y0 y1 y2 y3 y4 y5 y6 y7
      go_wp2
      go_ret
      exact ⟨by simp, HB10.out.bel⟩
    · obtain ⟨j, hp⟩ := (HPt.out (by omega)).2 (by omega)
      rw [hp] at hp7
      obtain rfl := hp7
      obtain ⟨hbx, hx8, hf8⟩ := box_pf w7 RV.zero 6 j
      rw [zeroR_eq] at hbx hx8 hf8
      have HB8 := hid (show Hw w w7.heap.size v t RV.zero 6 j _ from ⟨(HB7.out.step hbx).bel, (HB7.out.step hbx).tab, (HB7.out.step hbx).fv, (HB7.out.step hbx).r, hx8, hf8⟩)
      have hdp : 32 < dpT t := by have := HPd.out; omega
      clear hbx hx8 hf8 hb7 HB7 hp hl HPt hd
      go_upto_region 8 with (first
        | (refine wpList_store_row rfl 26 _ _ rfl w7.heap.size (zeroR) ?_ ?_ 26 #[.int .i64 0, .int .u64 0, .int .u64 0, .int .u64 0, .int .u64 0, .slice none 0 0, .int .i64 0, .int .i64 0] ((Below.heap_alloc _ _ _ (by simp)).trans (heap_alloc_new w7 _)) (by rw [← zeroR_eq]; exact rx_size _) ?_ (by rw [← zeroR_eq]; exact rx_one _) ?_; exact rfl; exact rfl; exact rfl)
        | (refine wpList_store_row rfl 35 _ _ rfl (w7.heap.size + 1) (faultC ((6 : Nat) : Int) (j : Int)) ?_ ?_ 35 #[.int .i64 0, .int .i64 0] (pf_mid w7 _) (fault_size ((6 : Nat) : Int) (j : Int)) ?_ (fault_one ((6 : Nat) : Int) (j : Int)) ?_; exact rfl; exact rfl; exact rfl; generalize (((w7.alloc (.cells #[.int .i64 0, .int .u64 0, .int .u64 0, .int .u64 0, .int .u64 0, .slice none 0 0, .int .i64 0, .int .i64 0] 26)).alloc (.cells #[.int .i64 0, .int .i64 0] 35)).setRow w7.heap.size zeroR).setRow (w7.heap.size + 1) (faultC ((6 : Nat) : Int) (j : Int)) = w8 at *))
      obtain ⟨f0, f1⟩ := faultB HB8.out.ff
      obtain ⟨x0, x1, x2, x3, x4, x5, x6, x7⟩ := Blk.cells8' HB8.out.fv
      have HD8 := hid (HDp.out _ _ _ _ _ HB8.out HZ.out)
      generalize dpT t = z at *
      have hz : (32 : Int) < (z : Int) := by omega
      go_wp2_with fail
      refine HD8.out.mono ?_
      rintro e w9 ⟨rfl, hb9⟩
      have HB9 := hid (HB8.out.step hb9)
      clear hb9 HB8 HD8 x0 x1 x2 x3 x4 x5 x6 x7 f0 f1
      go_wp2
      go_ret
      exact ⟨by simp, HB9.out.bel⟩
end Go.Proofs.YtkjdmbbdclkkgaaDoor
