/- code: the law's small. -/
import Derived.Test.YtpbkdokhlimpfaaDoorCdG
namespace Go.Proofs.YtpbkdokhlimpfaaDoor
set_option linter.unusedSimpArgs false
set_option linter.unusedVariables false
open Go.RowKit

theorem zero_size {w : World} {P : Nat → Prop} {x : ST} (h : StOk w P x) : Tryd.zeroCells37.size = x.cells.toArray.size := by
  have h1 : x.cells.toArray.size = 265 := by
    have := h.len
    simpa using this
  exact (show Tryd.zeroCells37.size = 265 by kernel_rfl).trans h1.symm
theorem At.ofBlk {w : World} {g : Nat} {T : TypeId} {x : ST} (h : Blk w g T x.cells.toArray.toList) : At w g 0 x := fun j v hv => by
  rw [Nat.zero_add, Blk.at h j]
  simpa using hv
/-- A value stored into a new box. -/
theorem wpList_box {P : Program} {ops : Array Oper} {rest : List Oper} {o : Oper} {a : Act} {wr : World} {Q : Exit → Act → World → Prop} (hgd : o.guard = none) (ty : TypeId) (x y : Operand) (ho : o.op = .store ty x y) (old : Array Value) (t : TypeId) (cells : Array Value)
    (hx : a.eval x = .pointer (some ⟨wr.heap.size, 0, none⟩)) (hy : a.eval y = .agg cells) (hi : (P.info? ty).map (·.size) = some cells.size) (hold : old.size = cells.size) (h1 : cells.all (·.oneCell') = true)
    (h : ∀ W, Hid (Below wr.heap.size wr W) → Hid (Blk W wr.heap.size t cells.toList) → wpList P ops Q rest (a.put o.dst undef) W) : wpList P ops Q (o :: rest) a (wr.alloc (.cells old t)) :=
  wpList_store_row hgd ty x y ho wr.heap.size cells hx hy t old (heap_alloc_new wr _) hi hold h1 (h _ (hid (row_new wr t old cells)) (hid (setRow_heap _ _ _ _ _ (0, 0) (heap_alloc_new wr _))))
set_option maxRecDepth 100000 in
set_option maxHeartbeats 4000000 in
theorem small_any (p : PT) (w : World) {P : Nat → Prop} (hP : PtOk w P p) (hl : p.S.n ≤ 4000000000000000000) : Calls Tryd.prog 8 #[p.val] w fun e w' => e = .returned (.bool (smS p)) ∧ Below w.heap.size w w' := by
  obtain ⟨hb, h1⟩ := box_prog w p
  have hpc : p.cells.toArray = #[.slice p.S.A p.S.n p.S.c, .int .i64 p.sl, .int .i64 p.su, .int .i64 p.au] := rfl
  rw [hpc] at hb h1
  have HX := hid h1
  have HB := hid hb
  have HP := hid (hP.keep hb)
  have HNe := hid hP.n
  have hnb := hl
  obtain ⟨RR, hRR⟩ : ∃ RR : Ending → World → Prop, RR = fun e w' => e = .returned (.bool (smS p)) ∧ Below w.heap.size w w' := ⟨_, rfl⟩
  rw [← hRR]
  have HRR := hid hRR
  have HS := hid (show smS p = (p.ss.all (fun x => decide (x.ws.length ≤ 300)) && decide (p.ss.length ≤ 200)) from rfl)
  obtain ⟨x0, x1, x2, x3⟩ := h1.four
  clear hb h1 hpc hP hRR hl
  unfold PT.val
  obtain ⟨ss, ⟨A, n, c⟩, sl, su, au⟩ := p
  simp only at *
  go_enter Tryd.func8, Tryd.ntmps8
  go_upto_region 2 with (fail)
  generalize w.alloc (.cells #[.slice A n c, .int .i64 sl, .int .i64 su, .int .i64 au] 24) = w1 at *
  clear x0 x1 x2 x3
  go_wp2_with fail
  go_loopw [8] (fun i wr => ∃ q : Nat, q ≤ n ∧ i = .int .i64 q ∧ Hid ((ss.take q).all (fun x => decide (x.ws.length ≤ 300)) = true) ∧ Hid (Below w1.heap.size w1 wr)) (fun i _ => n - (intOf i).toNat)
  case atStart => exact ⟨0, by omega, rfl, hid (by simp), hid (Below.refl _ _)⟩
  case round =>
    obtain ⟨q, hq, rfl, HT, HBr⟩ := hrel
    obtain ⟨x0, x1, x2, x3⟩ := BoxP.four (p := ⟨ss, ⟨A, n, c⟩, sl, su, au⟩) (Blk.keep HX.out HBr.out)
    simp only at x0 x1 x2 x3
    have HPr := hid (HP.out.keep HBr.out)
    by_cases hlt : q < n
    · have hlt' : (q : Int) < (n : Int) := by omega
      have hql : q < ss.length := by rw [← HNe.out]; exact hlt
      obtain ⟨b1, o1, hA, hbl, _, hAt⟩ := HPr.out.at hql
      have hA : A = some ⟨b1, o1, none⟩ := hA
      have HTk := hid (all_take (fun x : ST => decide (x.ws.length ≤ 300)) ss hql)
      have HAf := hid (fun hf => all_false (fun x : ST => decide (x.ws.length ≤ 300)) ss hql hf)
      have HSq := hid (HPr.out.each _ (List.getElem_mem hql))
      obtain ⟨x, hx⟩ : ∃ x, x = ss[q] := ⟨_, rfl⟩
      rw [← hx] at hAt HTk HAf HSq
      have HAt := hid hAt
      rw [hA] at x0 ⊢
      clear hx hAt hbl hql
      have HSf := hid (st_size' HSq.out)
      have HOf := hid (st_one x)
      have HZc := hid (zero_size HSq.out)
      go_upto_region 4 with (first
          | ((refine wpList_box rfl 37 _ _ rfl _ 37 x.cells.toArray ?_ ?_ HSf.out ?_ HOf.out ?_); exact rfl; exact rfl; exact HZc.out; intro W4 HB4 HK4)
          | (refine wpList_load_mid rfl 37 _ rfl b1 (o1 + q * 265) rfl x.cells _ HAt.out Tryd.underlying37 rfl (st_size HSq.out) ?_))
      have HB5 := hid (below_then' HBr.out HB4.out)
      have c8 := (At.ofBlk HK4.out).low.c8
      simp only [Nat.zero_add] at c8
      have HWn := hid HSq.out.wn
      obtain ⟨W, hWW⟩ : ∃ W, W = x.W := ⟨_, rfl⟩
      rw [← hWW] at c8 HWn
      clear hWW
      obtain ⟨wA, wN, wC⟩ := W
      simp only at c8
      have HWn := hid (show wN = x.ws.length from HWn.out)
      by_cases hle : (300 : Int) < (wN : Int)
      · have HLe := hid (show decide (x.ws.length ≤ 300) = false from decide_eq_false (by have := HWn.out; omega))
        go_wp2_with fail
        show RR (.returned (.bool false)) W4
        rw [HRR.out, HS.out, HAf.out HLe.out]
        exact ⟨by simp, below_then' HB.out HB5.out⟩
      · have HLe := hid (show decide (x.ws.length ≤ 300) = true from decide_eq_true (by have := HWn.out; omega))
        go_wp2_with fail
        exact ⟨⟨q + 1, by omega, by go_num, hid (by rw [HTk.out, HT.out, HLe.out]; rfl), HB5⟩, by simp [intOf]; omega⟩
    · obtain rfl : q = n := by omega
      have e : ss.take q = ss := by rw [HNe.out, List.take_length]
      rw [e] at HT
      clear e hlt
      go_wp2_with fail
      show RR (.returned (.bool _)) _
      rw [HRR.out, HS.out, HT.out, ← HNe.out]
      exact ⟨by simp; omega, below_then' HB.out HBr.out⟩
end Go.Proofs.YtpbkdokhlimpfaaDoor
