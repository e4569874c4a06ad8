/- tree: Parts, Depth. -/
import Derived.Test.YtdhipmdapodpkaaTrC
namespace Go.Proofs.Ytdhipmdapodpkaa
set_option linter.unusedSimpArgs false
set_option linter.unusedVariables false
open Go.RowKit

/-- What Parts promises. -/
def PartsAt (t : TT) : Prop := ∀ (v : TV) (w : World) (P : Nat → Prop), Rep w P v t → wT t ≤ 1048576 →
  Calls Try.prog 16 #[v.val] w fun e w' => e = .returned (.int .i64 (szT t : Nat)) ∧ Below w.heap.size w w'
set_option maxRecDepth 100000 in
set_option maxHeartbeats 4000000 in
theorem parts_any : ∀ t, PartsAt t := by
  refine TT.ind fun nn bb d ks ih => ?_
  intro v w P hR hw
  rw [wT] at hw
  have hwl := wL_len ks
  obtain ⟨rfl, rfl, hnum, hdn, hD, hkn, xs, hxl, hK, hr⟩ := hR.inv
  obtain ⟨hb, h1⟩ := box_new w v
  have HIh := hid ih
  have H1 := hid (show RepL w P v.K ks xs from ⟨hkn, hxl, hK, hr⟩)
  have HWl := hid (show wL ks ≤ 1048576 by omega)
  have hsz := szL_le ks
  rw [szT]
  have HSz := hid (show szL ks ≤ 1048576 by omega)
  clear hsz
  have hvc : v.cells.toArray = #[.int .u64 (v.num : Int), .bool v.bl, .slice v.D.A v.D.n v.D.c, .slice v.K.A v.K.n v.K.c] := rfl
  rw [hvc] at hb h1
  have HB := hid hb
  have HX := hid h1
  obtain ⟨x0, x1, x2, x3⟩ := h1.four
  have hnb : v.K.n ≤ 1048576 := by omega
  have HN := hid (show v.K.n = ks.length from hkn)
  clear ih hr hb h1 hD hK hR hvc hnum hdn hkn hw hwl hxl
  unfold TV.val
  obtain ⟨num, bl, ⟨DA, Dn, Dc⟩, ⟨KA, n, Kc⟩⟩ := v
  simp only at *
  go_enter Try.func16, Try.ntmps16
  go_upto_region 1 with (fail)
  generalize w.alloc (.cells #[.int .u64 (num : Int), .bool bl, .slice DA Dn Dc, .slice KA n Kc] 26) = w1 at *
  go_wp2_with fail
  go_loopw [3, 9] (fun c i wr => ∃ q : Nat, q ≤ n ∧ c = .int .i64 ((1 + szL (ks.take q) : Nat) : Int) ∧ i = .int .i64 q ∧ Hid (Below w.heap.size w wr)) (fun _ i _ => n - (intOf i).toNat)
  case atStart => exact ⟨0, by omega, by simp [szL], rfl, HB⟩
  case round =>
    clear HB x0 x1 x2 x3 HX
    obtain ⟨q, hq, rfl, rfl, HB⟩ := hrel
    by_cases hlt : q < n
    · have hlt' : (q : Int) < (n : Int) := by omega
      have hk1 : q < ks.length := by rw [← HN.out]; exact hlt
      have hq1 : q < xs.length := by rw [H1.out.l]; exact hk1
      obtain ⟨b1, o1, hA, hbl, _, g1⟩ := Rw.range H1.out.r hq1
      have hA' : KA = some ⟨b1, o1, none⟩ := hA
      have HR1 := hid (H1.out.each q hq1 hk1)
      obtain ⟨y, hy⟩ : ∃ y, y = xs[q] := ⟨_, rfl⟩
      obtain ⟨u, hu⟩ : ∃ u, u = ks[q] := ⟨_, rfl⟩
      rw [← hy] at g1 HR1
      rw [← hu] at HR1
      have HU := hid hu
      have g1' := range_keep g1 (HB.out.block b1 hbl)
      have hbx := row_new wr 26 #[.int .u64 0, .bool false, .slice none 0 0, .slice none 0 0] y.cells.toArray
      have hX4 : Blk ((wr.alloc (.cells #[.int .u64 0, .bool false, .slice none 0 0, .slice none 0 0] 26)).setRow wr.heap.size y.cells.toArray) wr.heap.size 26 y.cells := setRow_heap _ _ _ _ _ (0, 0) (heap_alloc_new wr _)
      obtain ⟨W4, hW4⟩ : ∃ W4, W4 = (wr.alloc (.cells #[.int .u64 0, .bool false, .slice none 0 0, .slice none 0 0] 26)).setRow wr.heap.size y.cells.toArray := ⟨_, rfl⟩
      rw [← hW4] at hbx hX4
      have hB4 := HB.out.trans (hbx.mono HB.out.size)
      obtain ⟨e0, e1, e2, e3⟩ := tv_range g1'
      have hx4 : BoxT W4 wr.heap.size y := hX4
      obtain ⟨z0, z1, z2, z3⟩ := hx4.four
      have HB4 := hid hB4
      have HX4 := hid hx4
      have HBx := hid hbx
      have HW4 := hid hW4
      have HSf := hid (tv_size y)
      have HOf := hid (tv_one y)
      have HR4 := hid (HR1.out.mono (fun b _ hl => hB4.block b hl) hB4.size (fun _ h _ => h))
      have hwu : wT u ≤ 1048576 := by rw [hu]; exact Nat.le_trans (wL_get hk1) HWl.out
      have HWu := hid hwu
      have HT := hid (show szL (ks.take (q + 1)) = szL (ks.take q) + szT u by rw [hu]; exact szL_take hk1)
      have HT2 := hid (show szL (ks.take (q + 1)) ≤ 1048576 from Nat.le_trans (szL_take_le ks _) HSz.out)
      have HCl := hid (HIh.out u (by rw [hu]; exact List.getElem_mem _) y W4 P HR4.out hwu)
      unfold TV.val at HCl
      clear hbx hX4 hB4 hW4 g1 g1' hbl hA hy hu hx4 hwu HR1
      rw [hA']
      obtain ⟨a, ha⟩ : ∃ a, a = szL (ks.take q) := ⟨_, rfl⟩
      obtain ⟨c, hc⟩ : ∃ c, c = szT u := ⟨_, rfl⟩
      rw [← hc] at HCl
      rw [← ha, ← hc] at HT
      rw [← ha]
      have hac : a + c ≤ 1048576 := by have := HT.out; have := HT2.out; omega
      clear ha hc
      go_wp2_with (first
        | ((with_reducible refine wpList_store_row rfl 26 _ _ rfl wr.heap.size y.cells.toArray ?_ ?_ 26 #[.int .u64 0, .bool false, .slice none 0 0, .slice none 0 0] (heap_alloc_new wr _) HSf.out ?_ HOf.out ?_); exact rfl; exact rfl; exact rfl; rw [← HW4.out])
        | (go_at_call 16; (with_reducible refine HCl.out.mono ?_); rintro e w6 ⟨rfl, hb6⟩; have HB6 := hid (HB4.out.trans (hb6.mono HB4.out.size)); clear hb6 z0 z1 z2 z3 e0 e1 e2 e3))
      exact ⟨⟨q + 1, by omega, by (rw [HT.out]; congr 1; omega), by go_num, HB6⟩, by simp [intOf]; omega⟩
    · obtain rfl : q = n := by omega
      go_wp2
      go_ret
      exact ⟨by rw [HN.out, List.take_length]; rfl, HB.out⟩
/-- What Depth promises. -/
def DepthAt (t : TT) : Prop := ∀ (v : TV) (w : World) (P : Nat → Prop), Rep w P v t → wT t ≤ 1048576 →
  Calls Try.prog 13 #[v.val] w fun e w' => e = .returned (.int .i64 (dpT t : Nat)) ∧ Below w.heap.size w w'
set_option maxRecDepth 100000 in
set_option maxHeartbeats 4000000 in
theorem depth_any : ∀ t, DepthAt t := by
  refine TT.ind fun nn bb d ks ih => ?_
  intro v w P hR hw
  rw [wT] at hw
  have hwl := wL_len ks
  obtain ⟨rfl, rfl, hnum, hdn, hD, hkn, xs, hxl, hK, hr⟩ := hR.inv
  obtain ⟨hb, h1⟩ := box_new w v
  have HIh := hid ih
  have H1 := hid (show RepL w P v.K ks xs from ⟨hkn, hxl, hK, hr⟩)
  have HWl := hid (show wL ks ≤ 1048576 by omega)
  have hsz := dpL_le ks
  rw [dpT]
  have HSz := hid (show dpL ks ≤ 1048576 by omega)
  clear hsz
  have hvc : v.cells.toArray = #[.int .u64 (v.num : Int), .bool v.bl, .slice v.D.A v.D.n v.D.c, .slice v.K.A v.K.n v.K.c] := rfl
  rw [hvc] at hb h1
  have HB := hid hb
  have HX := hid h1
  obtain ⟨x0, x1, x2, x3⟩ := h1.four
  have hnb : v.K.n ≤ 1048576 := by omega
  have HN := hid (show v.K.n = ks.length from hkn)
  clear ih hr hb h1 hD hK hR hvc hnum hdn hkn hw hwl hxl
  unfold TV.val
  obtain ⟨num, bl, ⟨DA, Dn, Dc⟩, ⟨KA, n, Kc⟩⟩ := v
  simp only at *
  go_enter Try.func13, Try.ntmps13
  go_upto_region 1 with (fail)
  generalize w.alloc (.cells #[.int .u64 (num : Int), .bool bl, .slice DA Dn Dc, .slice KA n Kc] 26) = w1 at *
  go_wp2_with fail
  go_loopw [3, 9] (fun c i wr => ∃ q : Nat, q ≤ n ∧ c = .int .i64 ((dpL (ks.take q) : Nat) : Int) ∧ i = .int .i64 q ∧ Hid (Below w.heap.size w wr)) (fun _ i _ => n - (intOf i).toNat)
  case atStart => exact ⟨0, by omega, by simp [dpL], rfl, HB⟩
  case round =>
    clear HB x0 x1 x2 x3 HX
    obtain ⟨q, hq, rfl, rfl, HB⟩ := hrel
    by_cases hlt : q < n
    · have hlt' : (q : Int) < (n : Int) := by omega
      have hk1 : q < ks.length := by rw [← HN.out]; exact hlt
      have hq1 : q < xs.length := by rw [H1.out.l]; exact hk1
      obtain ⟨b1, o1, hA, hbl, _, g1⟩ := Rw.range H1.out.r hq1
      have hA' : KA = some ⟨b1, o1, none⟩ := hA
      have HR1 := hid (H1.out.each q hq1 hk1)
      obtain ⟨y, hy⟩ : ∃ y, y = xs[q] := ⟨_, rfl⟩
      obtain ⟨u, hu⟩ : ∃ u, u = ks[q] := ⟨_, rfl⟩
      rw [← hy] at g1 HR1
      rw [← hu] at HR1
      have HU := hid hu
      have g1' := range_keep g1 (HB.out.block b1 hbl)
      have hbx := row_new wr 26 #[.int .u64 0, .bool false, .slice none 0 0, .slice none 0 0] y.cells.toArray
      have hX4 : Blk ((wr.alloc (.cells #[.int .u64 0, .bool false, .slice none 0 0, .slice none 0 0] 26)).setRow wr.heap.size y.cells.toArray) wr.heap.size 26 y.cells := setRow_heap _ _ _ _ _ (0, 0) (heap_alloc_new wr _)
      obtain ⟨W4, hW4⟩ : ∃ W4, W4 = (wr.alloc (.cells #[.int .u64 0, .bool false, .slice none 0 0, .slice none 0 0] 26)).setRow wr.heap.size y.cells.toArray := ⟨_, rfl⟩
      rw [← hW4] at hbx hX4
      have hB4 := HB.out.trans (hbx.mono HB.out.size)
      obtain ⟨e0, e1, e2, e3⟩ := tv_range g1'
      have hx4 : BoxT W4 wr.heap.size y := hX4
      obtain ⟨z0, z1, z2, z3⟩ := hx4.four
      have HB4 := hid hB4
      have HX4 := hid hx4
      have HBx := hid hbx
      have HW4 := hid hW4
      have HSf := hid (tv_size y)
      have HOf := hid (tv_one y)
      have HR4 := hid (HR1.out.mono (fun b _ hl => hB4.block b hl) hB4.size (fun _ h _ => h))
      have hwu : wT u ≤ 1048576 := by rw [hu]; exact Nat.le_trans (wL_get hk1) HWl.out
      have HWu := hid hwu
      have HT := hid (show dpL (ks.take (q + 1)) = max (dpL (ks.take q)) (dpT u) by rw [hu]; exact dpL_take hk1)
      have HCl := hid (HIh.out u (by rw [hu]; exact List.getElem_mem _) y W4 P HR4.out hwu)
      unfold TV.val at HCl
      clear hbx hX4 hB4 hW4 g1 g1' hbl hA hy hu hx4 hwu HR1
      rw [hA']
      obtain ⟨a, ha⟩ : ∃ a, a = dpL (ks.take q) := ⟨_, rfl⟩
      obtain ⟨c, hc⟩ : ∃ c, c = dpT u := ⟨_, rfl⟩
      rw [← hc] at HCl
      rw [← ha, ← hc] at HT
      rw [← ha]
      clear ha hc
      go_wp2_with (first
        | ((with_reducible refine wpList_store_row rfl 26 _ _ rfl wr.heap.size y.cells.toArray ?_ ?_ 26 #[.int .u64 0, .bool false, .slice none 0 0, .slice none 0 0] (heap_alloc_new wr _) HSf.out ?_ HOf.out ?_); exact rfl; exact rfl; exact rfl; rw [← HW4.out])
        | (go_at_call 13; (with_reducible refine HCl.out.mono ?_); rintro e w6 ⟨rfl, hb6⟩; have HB6 := hid (HB4.out.trans (hb6.mono HB4.out.size)); clear hb6 z0 z1 z2 z3 e0 e1 e2 e3))
      exact ⟨⟨q + 1, by omega, by (rw [HT.out]; congr 1; omega), by go_num, HB6⟩, by simp [intOf]; omega⟩
    · obtain rfl : q = n := by omega
      have hd := HSz.out
      have e : ks.take q = ks := by rw [HN.out, List.take_length]
      rw [e]
      obtain ⟨dl, hdl⟩ : ∃ dl, dl = dpL ks := ⟨_, rfl⟩
      rw [← hdl] at hd ⊢
      have HDl := hid hdl
      clear hdl
      go_wp2
      go_ret
      exact ⟨by (show Ending.returned (Value.int .i64 ((dl : Int) + 1)) = _; rw [← HDl.out]; rfl), HB.out⟩
end Go.Proofs.Ytdhipmdapodpkaa
