/- code: a step's ways and bytes. -/
import Derived.Test.YtpbkdokhlimpfaaDoorCdB
namespace Go.Proofs.YtpbkdokhlimpfaaDoor
set_option linter.unusedSimpArgs false
set_option linter.unusedVariables false
open Go.RowKit

theorem all_take {α : Type} (f : α → Bool) (l : List α) {q : Nat} (h : q < l.length) : (l.take (q + 1)).all f = ((l.take q).all f && f l[q]) := by
  rw [List.take_add_one, List.getElem?_eq_getElem h, Option.toList_some, List.all_append]
  simp
theorem all_false {α : Type} (f : α → Bool) (l : List α) {q : Nat} (h : q < l.length) (hf : f l[q] = false) : l.all f = false := by
  rw [← Bool.not_eq_true, List.all_eq_true]
  intro hh
  rw [hh _ (List.getElem_mem h)] at hf
  cases hf
theorem way_size (y : WT) : (Tryd.prog.info? 46).map (·.size) = some y.cells.toArray.size := by
  rw [show y.cells.toArray.size = 2 from rfl]; kernel_rfl
theorem way_one (y : WT) : y.cells.toArray.all (·.oneCell') = true := by simp [WT.cells, Value.oneCell']
theorem way_at {w : World} {P : Nat → Prop} {x : ST} (h : StOk w P x) {q : Nat} (hq : q < x.ws.length) : ∃ b o, x.W.A = some ⟨b, o, none⟩ ∧ b < w.heap.size ∧ P b ∧ w.cell? ⟨b, o + q * 2, none⟩ = some (.int .u64 ((x.ws[q]).val : Int)) ∧ w.cell? ⟨b, o + q * 2 + 1, none⟩ = some (.int .i64 (x.ws[q]).to) := by
  obtain ⟨b, o, e, hb, hP, hc⟩ := h.wr.at (by rw [flatW_len]; omega)
  refine ⟨b, o, e, hb, hP, ?_, ?_⟩
  · have h1 := hc (q * 2 + 0) (by rw [flatW_len]; omega)
    rw [flatW_get x.ws q 0 hq (by decide)] at h1
    exact h1
  · have h1 := hc (q * 2 + 1) (by rw [flatW_len]; omega)
    rw [flatW_get x.ws q 1 hq (by decide)] at h1
    rw [Nat.add_assoc]
    exact h1
set_option maxRecDepth 100000 in
set_option maxHeartbeats 4000000 in
theorem forked_any (p : PT) (x : ST) (b o : Nat) (w : World) {P : Nat → Prop} (hA : At w b o x) (hW : StOk w P x) (hn : p.S.n = p.ss.length) (hl : x.ws.length ≤ 1000000) : Calls Tryd.prog 37 #[p.val, .pointer (some ⟨b, o, none⟩)] w fun e w' => e = .returned (.bool (frkS p x)) ∧ Below w.heap.size w w' := by
  obtain ⟨hb, h1⟩ := box_prog w p
  have hpc : p.cells.toArray = #[.slice p.S.A p.S.n p.S.c, .int .i64 p.sl, .int .i64 p.su, .int .i64 p.au] := rfl
  have HA := hid hA
  rw [hpc] at hb h1
  have HX := hid h1
  have HB := hid hb
  have HW := hid (hW.keep hb)
  have HWn := hid hW.wn
  obtain ⟨RR, hRR⟩ : ∃ RR : Ending → World → Prop, RR = fun e w' => e = .returned (.bool (frkS p x)) ∧ Below w.heap.size w w' := ⟨_, rfl⟩
  rw [← hRR]
  have HRR := hid hRR
  have HF := hid (show frkS p x = (x.ws.all (fun y => amg y.to p.ss.length) && decide (x.ws.length ≤ 255)) from rfl)
  have HH := hid (fun i W => has_any p i W)
  have HN := hid hn
  obtain ⟨W, hWW⟩ : ∃ W, W = x.W := ⟨_, rfl⟩
  have HWe := hid hWW
  obtain ⟨wA, wN, wC⟩ := W
  have hLo := (hA.keep (hb.block b hA.lt)).low
  have c8 := hLo.c8
  rw [← hWW] at c8
  have hwn : wN = x.ws.length := by have := HWn.out; rw [← hWW] at this; exact this
  have hnb : wN ≤ 1000000 := by omega
  have HWl := hid hwn
  clear hb h1 hpc hA hRR hW hn hLo hWW hwn hl
  obtain ⟨x0, x1, x2, x3⟩ := HX.out.four
  unfold PT.val at HH ⊢
  obtain ⟨ss, ⟨A, n, c⟩, sl, su, au⟩ := p
  simp only at *
  go_enter Tryd.func37, Tryd.ntmps37
  go_upto_region 2 with (fail)
  generalize w.alloc (.cells #[.slice A n c, .int .i64 sl, .int .i64 su, .int .i64 au] 24) = w1 at *
  clear x0 x1 x2 x3 c8
  go_wp2_with fail
  go_loopw [12] (fun i wr => ∃ q : Nat, q ≤ wN ∧ i = .int .i64 q ∧ Hid ((x.ws.take q).all (fun y => amg y.to ss.length) = true) ∧ Hid (Below w1.heap.size w1 wr)) (fun i _ => wN - (intOf i).toNat)
  case atStart => exact ⟨0, by omega, rfl, hid (by simp), hid (Below.refl _ _)⟩
  case round =>
    obtain ⟨q, hq, rfl, HT, HBr⟩ := hrel
    have hLo := (HA.out.keep ((HB.out.trans (HBr.out.mono HB.out.size)).block b HA.out.lt)).low
    have c8 := hLo.c8
    rw [← HWe.out] at c8
    clear hLo
    obtain ⟨x0, x1, x2, x3⟩ := BoxP.four (p := ⟨ss, ⟨A, n, c⟩, sl, su, au⟩) (Blk.keep HX.out HBr.out)
    simp only at x0 x1 x2 x3
    by_cases hlt : q < wN
    · have hlt' : (q : Int) < (wN : Int) := by omega
      have hql : q < x.ws.length := by rw [← HWl.out]; exact hlt
      obtain ⟨b1, o1, hwA, hbl, _, e0, e1⟩ := way_at (HW.out.keep HBr.out) hql
      rw [← HWe.out] at hwA
      have hwA : wA = some ⟨b1, o1, none⟩ := hwA
      have HTk := hid (all_take (fun y => amg y.to ss.length) x.ws hql)
      have HAf := hid (fun hf => all_false (fun y => amg y.to ss.length) x.ws hql hf)
      obtain ⟨y, hy⟩ : ∃ y, y = x.ws[q] := ⟨_, rfl⟩
      rw [← hy] at e0 e1 HTk HAf
      have hbx := row_new wr 46 #[.int .u64 0, .int .i64 0] y.cells.toArray
      have hX4 : Blk ((wr.alloc (.cells #[.int .u64 0, .int .i64 0] 46)).setRow wr.heap.size y.cells.toArray) wr.heap.size 46 y.cells := setRow_heap _ _ _ _ _ (0, 0) (heap_alloc_new wr _)
      obtain ⟨W4, hW4⟩ : ∃ W4, W4 = (wr.alloc (.cells #[.int .u64 0, .int .i64 0] 46)).setRow wr.heap.size y.cells.toArray := ⟨_, rfl⟩
      rw [← hW4] at hbx hX4
      have HB4 := hid (HBr.out.trans (hbx.mono HBr.out.size))
      have z0 := Blk.at hX4 0
      have z1 := Blk.at hX4 1
      simp only [WT.cells, List.getElem?_cons_zero, List.getElem?_cons_succ] at z0 z1
      have HW4 := hid hW4
      have HSf := hid (way_size y)
      have HOf := hid (way_one y)
      obtain ⟨x0', x1', x2', x3'⟩ := BoxP.four (p := ⟨ss, ⟨A, n, c⟩, sl, su, au⟩) (Blk.keep HX.out HB4.out)
      simp only at x0' x1' x2' x3'
      have HCl := HH.out y.to W4
      obtain ⟨am, ham⟩ : ∃ am, am = amg y.to ss.length := ⟨_, rfl⟩
      have hqm : amg y.to (n : Int) = am := by rw [ham, HN.out]
      rw [hqm] at HCl
      rw [← ham] at HTk HAf
      have HCl := hid HCl
      clear hbx hX4 hW4 hbl hy hql x0 x1 x2 x3 ham c8 hqm
      rw [hwA]
      cases am
      · go_wp2_with (first
          | ((with_reducible refine wpList_store_row rfl 46 _ _ rfl wr.heap.size y.cells.toArray ?_ ?_ 46 #[.int .u64 0, .int .i64 0] (heap_alloc_new wr _) HSf.out ?_ HOf.out ?_); exact rfl; exact rfl; exact rfl; rw [← HW4.out])
          | (go_at_call 32; (with_reducible refine HCl.out.mono ?_); rintro e w6 ⟨rfl, hb6⟩; have HB6 := hid (HB4.out.trans (hb6.mono HB4.out.size)); clear hb6 z0 z1 x0' x1' x2' x3' e0 e1))
        show RR (.returned (.bool false)) w6
        rw [HRR.out, HF.out, HAf.out (by first | rfl | trivial)]
        exact ⟨by simp, below_then' HB.out HB6.out⟩
      · go_wp2_with (first
          | ((with_reducible refine wpList_store_row rfl 46 _ _ rfl wr.heap.size y.cells.toArray ?_ ?_ 46 #[.int .u64 0, .int .i64 0] (heap_alloc_new wr _) HSf.out ?_ HOf.out ?_); exact rfl; exact rfl; exact rfl; rw [← HW4.out])
          | (go_at_call 32; (with_reducible refine HCl.out.mono ?_); rintro e w6 ⟨rfl, hb6⟩; have HB6 := hid (HB4.out.trans (hb6.mono HB4.out.size)); clear hb6 z0 z1 x0' x1' x2' x3' e0 e1))
        exact ⟨⟨q + 1, by omega, by go_num, hid (by rw [HTk.out, HT.out]; rfl), HB6⟩, by simp [intOf]; omega⟩
    · obtain rfl : q = wN := by omega
      have e : x.ws.take q = x.ws := by rw [HWl.out, List.take_length]
      rw [e] at HT
      clear e hlt x0 x1 x2 x3
      go_wp2_with fail
      show RR (.returned (.bool _)) _
      rw [HRR.out, HF.out, HT.out, ← HWl.out]
      exact ⟨by simp; omega, below_then' HB.out HBr.out⟩
theorem run_index256 (X : Array Value) (q : Nat) (v : Value) (hX : X[q]? = some v) (hs : X.size = 256) (w : World) : (Instr.index 35 (.agg X) (.int .i64 (q : Int))).run Tryd.prog w = .ok v w := by
  have hq : q < 256 := by rw [← hs]; exact (Array.getElem?_eq_some_iff.1 hX).1
  have hu := Tryd.underlying35
  have hu8 := Tryd.underlying5
  simp [Instr.index, asIntOf, run_underlying hu, hq]
  simp [part, isAgg, run_underlying hu8, hX]
set_option maxRecDepth 100000 in
set_option maxHeartbeats 4000000 in
theorem picked_any (x : ST) (b o : Nat) (w : World) {P : Nat → Prop} (hA : At w b o x) (hW : StOk w P x) : Calls Tryd.prog 38 #[.pointer (some ⟨b, o, none⟩)] w fun e w' => e = .returned (.bool (pckS x)) ∧ w' = w := by
  have HBy := hid hA.low.by_
  have c8 := hA.low.c8
  have HSz := hid (show (Tryd.prog.info? 35).map (·.size) = some (x.bs.map isB).length by rw [List.length_map, hW.bl]; kernel_rfl)
  have HBl := hid hW.bl
  have HWn := hid hW.wn
  obtain ⟨RR, hRR⟩ : ∃ RR : Ending → World → Prop, RR = fun e w' => e = .returned (.bool (pckS x)) ∧ w' = w := ⟨_, rfl⟩
  rw [← hRR]
  have HRR := hid hRR
  have HF := hid (show pckS x = x.bs.all (fun c => decide (c.toNat ≤ x.ws.length)) from rfl)
  obtain ⟨k, a, xb, fl, mn, mx, mu, ad, ws, bs, ⟨wA, wN, wC⟩⟩ := x
  simp only at *
  clear hRR hA hW
  go_enter Tryd.func38, Tryd.ntmps38
  go_upto_region 2 with (first | (refine wpList_load_mid rfl 35 _ rfl b (o + 9) rfl (bs.map isB) _ HBy.out Tryd.underlying35 rfl HSz.out ?_))
  obtain ⟨X, hX⟩ : ∃ X : Array Value, X = (bs.map isB).toArray := ⟨_, rfl⟩
  rw [← hX]
  have HXh := hid hX
  clear hX
  go_wp2_with fail
  go_loopw [9] (fun i wr => ∃ q : Nat, q ≤ 256 ∧ i = .int .i64 q ∧ Hid ((bs.take q).all (fun c => decide (c.toNat ≤ ws.length)) = true) ∧ wr = w) (fun i _ => 256 - (intOf i).toNat)
  case atStart => exact ⟨0, by omega, rfl, hid (by simp), rfl⟩
  case round =>
    obtain ⟨q, hq, rfl, HT, rfl⟩ := hrel
    by_cases hlt : q < 256
    · have hlt' : (q : Int) < 256 := by omega
      have hql : q < bs.length := by rw [HBl.out]; exact hlt
      obtain ⟨v, hv⟩ : ∃ v, v = bs[q].toNat := ⟨_, rfl⟩
      have HVb := hid (show v < 256 by rw [hv]; exact UInt8.toNat_lt _)
      have hxq : X[q]? = some (.int .u8 (v : Int)) := by rw [HXh.out]; simp [hql, isB, hv]
      have hidx := run_index256 X q _ hxq (by rw [HXh.out]; simp [HBl.out])
      have HTk := hid (all_take (fun c => decide (c.toNat ≤ ws.length)) bs hql)
      have HAf := hid (fun hf => all_false (fun c => decide (c.toNat ≤ ws.length)) bs hql hf)
      simp only [← hv] at HTk HAf
      clear hv hxq
      have hv2 : v < 256 := by have := HVb.out; exact this
      by_cases hle : (wN : Int) < (v : Int)
      · have HLe := hid (show decide (v ≤ ws.length) = false from decide_eq_false (by have := HWn.out; omega))
        go_wp2_with (fail)
        show RR (.returned (.bool false)) wr
        rw [HRR.out, HF.out, HAf.out HLe.out]
        exact ⟨rfl, rfl⟩
      · have HLe := hid (show decide (v ≤ ws.length) = true from decide_eq_true (by have := HWn.out; omega))
        go_wp2_with (fail)
        exact ⟨⟨q + 1, by omega, by go_num, hid (by rw [HTk.out, HT.out, HLe.out]; rfl), by first | rfl | trivial⟩, by simp [intOf]; omega⟩
    · obtain rfl : q = 256 := by omega
      have e : bs.take 256 = bs := by rw [← HBl.out, List.take_length]
      rw [e] at HT
      go_wp2_with fail
      show RR (.returned (.bool true)) wr
      rw [HRR.out, HF.out, HT.out]
      exact ⟨rfl, rfl⟩
end Go.Proofs.YtpbkdokhlimpfaaDoor
