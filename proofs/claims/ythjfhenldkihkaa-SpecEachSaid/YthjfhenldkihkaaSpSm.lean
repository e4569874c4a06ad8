/- spec: the laws' question whether a specification is small. -/
import Derived.Test.YthjfhenldkihkaaSpLa
namespace Go.Proofs.Ythjfhenldkihkaa
set_option linter.unusedSimpArgs false
set_option linter.unusedVariables false
open Go.RowKit

def smN (v : NV) : Bool := decide (v.K.n ≤ 100 ∧ v.F.n ≤ 100 ∧ v.C.n ≤ 100 ∧ v.L.n ≤ 100)
def smB (s : SpV) : Bool := s.vs.all smN && (decide (s.N.n ≤ 300) && decide (s.D.n ≤ 100))
set_option maxRecDepth 100000 in
set_option maxHeartbeats 4000000 in
theorem small_any {P : Nat → Prop} (s : SpV) (w : World) (h : SpecOk w P s) (hn : s.N.n ≤ maxLen) : Calls Try.prog 5 #[s.val] w fun e w' => e = .returned (.bool (smB s)) ∧ Below w.heap.size w w' := by
  obtain ⟨vs, ds, N, D⟩ := s
  obtain ⟨NA, Nn, Nc⟩ := N
  obtain ⟨DA, Dn, Dc⟩ := D
  unfold SpV.val
  simp only
  obtain ⟨hbx, hb0⟩ := spec_box w (.slice NA Nn Nc) (.slice DA Dn Dc)
  have HB := hid hbx
  have HX := hid hb0
  have x0 := Blk.at hb0 0
  simp only [List.getElem?_cons_zero] at x0
  have hnn : Nn = vs.length := h.nn
  have HO := hid h
  have HNn := hid hnn
  have hN : Nn ≤ 9223372036854775807 := hn
  obtain ⟨R, hR⟩ : ∃ R, R = smB ⟨vs, ds, ⟨NA, Nn, Nc⟩, ⟨DA, Dn, Dc⟩⟩ := ⟨_, rfl⟩
  rw [← hR]
  have HZ := hid (show R = ((vs.drop 0).all smN && (decide (Nn ≤ 300) && decide (Dn ≤ 100))) from hR)
  clear h hbx hb0 hR hnn hn
  go_enter Try.func5, Try.ntmps5
  go_upto_region 1 with (fail)
  generalize w.alloc (.cells #[.slice NA Nn Nc, .slice DA Dn Dc] 25) = w1 at *
  go_wp2_with fail
  go_loopw [8] (fun i wr => ∃ j : Nat, j ≤ Nn ∧ i = .int .i64 j ∧ Hid (R = ((vs.drop j).all smN && (decide (Nn ≤ 300) && decide (Dn ≤ 100)))) ∧ Hid (Blk wr w.heap.size 25 [.slice NA Nn Nc, .slice DA Dn Dc]) ∧ Hid (Below w.heap.size w wr)) (fun i _ => Nn - (intOf i).toNat)
  case atStart => exact ⟨0, by omega, rfl, HZ, HX, HB⟩
  case round =>
    clear HZ HX HB x0
    obtain ⟨j, hj, rfl, HZ, HX, HB⟩ := hrel
    by_cases hlt : j < Nn
    · have hlt' : (j : Int) < (Nn : Int) := by omega
      have hjv : j < vs.length := by rw [← HNn.out]; exact hlt
      obtain ⟨b, o, hA, hbl, hPb, hrg⟩ := rw_range HO.out.n hjv
      have hA' : NA = some ⟨b, o, none⟩ := hA
      have HRg := hid (range_keep hrg (HB.out.block b hbl))
      obtain ⟨v, hv⟩ : ∃ v, v = vs[j] := ⟨_, rfl⟩
      rw [← hv] at HRg
      have HZ4 := hid (show R = ((smN v && (vs.drop (j + 1)).all smN) && (decide (Nn ≤ 300) && decide (Dn ≤ 100))) by rw [HZ.out, List.drop_eq_getElem_cons hjv, List.all_cons, hv])
      have hbx := row_new wr 49 #[.int .i64 0, .int .i64 0, .bool false, .bool false, .bool false, .int .u64 0, .int .u64 0, .string ⟨#[]⟩, .string ⟨#[]⟩, .int .u64 0, .int .u64 0, .slice none 0 0, .slice none 0 0, .slice none 0 0, .string ⟨#[]⟩, .int .u64 0, .slice none 0 0, .int .i64 0] v.cells.toArray
      have hN5 : NBox ((wr.alloc (.cells #[.int .i64 0, .int .i64 0, .bool false, .bool false, .bool false, .int .u64 0, .int .u64 0, .string ⟨#[]⟩, .string ⟨#[]⟩, .int .u64 0, .int .u64 0, .slice none 0 0, .slice none 0 0, .slice none 0 0, .string ⟨#[]⟩, .int .u64 0, .slice none 0 0, .int .i64 0] 49)).setRow wr.heap.size v.cells.toArray) wr.heap.size v.cells.toArray v := ⟨setRow_heap _ _ _ _ _ (0, 0) (heap_alloc_new wr _), rfl⟩
      have HB5 := hid (HB.out.trans (hbx.mono HB.out.size))
      have HX5 := hid (HX.out.keep hbx)
      have HSz := hid (nv_size v)
      have HOne := hid (nv_one v)
      have HLen := hid (show v.cells.length = 18 from rfl)
      have HN5 := hid hN5
      have x11 := hN5.cells.2.2.2.2.2.2.2.2.2.2.2.1
      have x12 := hN5.cells.2.2.2.2.2.2.2.2.2.2.2.2.1
      have x13 := hN5.cells.2.2.2.2.2.2.2.2.2.2.2.2.2.1
      have x16 := hN5.cells.2.2.2.2.2.2.2.2.2.2.2.2.2.2.2.2.1
      obtain ⟨Kn, hKn⟩ : ∃ n, n = v.K.n := ⟨_, rfl⟩
      obtain ⟨Ln, hLn⟩ : ∃ n, n = v.L.n := ⟨_, rfl⟩
      obtain ⟨Fn, hFn⟩ : ∃ n, n = v.F.n := ⟨_, rfl⟩
      obtain ⟨Cn, hCn⟩ : ∃ n, n = v.C.n := ⟨_, rfl⟩
      have HSm := hid (show smN v = decide (Kn ≤ 100 ∧ Fn ≤ 100 ∧ Cn ≤ 100 ∧ Ln ≤ 100) by rw [hKn, hLn, hFn, hCn]; rfl)
      rw [← hKn] at x11
      rw [← hLn] at x12
      rw [← hFn] at x13
      rw [← hCn] at x16
      clear hrg hbl hPb hv hA hbx HZ HX HB hjv hN5 hKn hLn hFn hCn
      rw [hA']
      by_cases h1 : Kn ≤ 100 ∧ Fn ≤ 100 ∧ Cn ≤ 100 ∧ Ln ≤ 100
      · have HZ5 := hid (show R = ((vs.drop (j + 1)).all smN && (decide (Nn ≤ 300) && decide (Dn ≤ 100))) by rw [HZ4.out, HSm.out, decide_eq_true h1, Bool.true_and])
        have a1 : ¬ (100 : Int) < (Kn : Int) := by omega
        have a2 : ¬ (100 : Int) < (Fn : Int) := by omega
        have a3 : ¬ (100 : Int) < (Cn : Int) := by omega
        have a4 : ¬ (100 : Int) < (Ln : Int) := by omega
        clear h1 HZ4 HSm
        go_wp2_with (first
          | ((with_reducible refine wpList_load_mid rfl 49 _ rfl b (o + j * 18) ?_ v.cells _ HRg.out Try.underlying49 ?_ ?_ ?_); exact rfl; exact rfl; (rw [HLen.out]; kernel_rfl))
          | ((with_reducible refine wpList_store_row rfl 49 _ _ rfl wr.heap.size v.cells.toArray ?_ ?_ 49 #[.int .i64 0, .int .i64 0, .bool false, .bool false, .bool false, .int .u64 0, .int .u64 0, .string ⟨#[]⟩, .string ⟨#[]⟩, .int .u64 0, .int .u64 0, .slice none 0 0, .slice none 0 0, .slice none 0 0, .string ⟨#[]⟩, .int .u64 0, .slice none 0 0, .int .i64 0] (heap_alloc_new wr _) HSz.out ?_ HOne.out ?_); exact rfl; exact rfl; exact rfl; generalize (wr.alloc (.cells #[.int .i64 0, .int .i64 0, .bool false, .bool false, .bool false, .int .u64 0, .int .u64 0, .string ⟨#[]⟩, .string ⟨#[]⟩, .int .u64 0, .int .u64 0, .slice none 0 0, .slice none 0 0, .slice none 0 0, .string ⟨#[]⟩, .int .u64 0, .slice none 0 0, .int .i64 0] 49)).setRow wr.heap.size v.cells.toArray = w5 at *))
        all_goals exact ⟨⟨j + 1, by omega, by go_num, HZ5, by have := HX5.out; rw [hA'] at this; exact hid this, HB5⟩, by simp [intOf]; omega⟩
      · have HZ5 := hid (show R = false by rw [HZ4.out, HSm.out, decide_eq_false h1]; rfl)
        have hc : (100 : Int) < (Kn : Int) ∨ (¬ (100 : Int) < (Kn : Int) ∧ (100 : Int) < (Fn : Int)) ∨ (¬ (100 : Int) < (Kn : Int) ∧ ¬ (100 : Int) < (Fn : Int) ∧ (100 : Int) < (Cn : Int)) ∨ (¬ (100 : Int) < (Kn : Int) ∧ ¬ (100 : Int) < (Fn : Int) ∧ ¬ (100 : Int) < (Cn : Int) ∧ (100 : Int) < (Ln : Int)) := by omega
        clear h1 HZ4 HSm
        rcases hc with a1 | ⟨a1, a2⟩ | ⟨a1, a2, a3⟩ | ⟨a1, a2, a3, a4⟩
        all_goals
          go_wp2_with (first
            | ((with_reducible refine wpList_load_mid rfl 49 _ rfl b (o + j * 18) ?_ v.cells _ HRg.out Try.underlying49 ?_ ?_ ?_); exact rfl; exact rfl; (rw [HLen.out]; kernel_rfl))
            | ((with_reducible refine wpList_store_row rfl 49 _ _ rfl wr.heap.size v.cells.toArray ?_ ?_ 49 #[.int .i64 0, .int .i64 0, .bool false, .bool false, .bool false, .int .u64 0, .int .u64 0, .string ⟨#[]⟩, .string ⟨#[]⟩, .int .u64 0, .int .u64 0, .slice none 0 0, .slice none 0 0, .slice none 0 0, .string ⟨#[]⟩, .int .u64 0, .slice none 0 0, .int .i64 0] (heap_alloc_new wr _) HSz.out ?_ HOne.out ?_); exact rfl; exact rfl; exact rfl; generalize (wr.alloc (.cells #[.int .i64 0, .int .i64 0, .bool false, .bool false, .bool false, .int .u64 0, .int .u64 0, .string ⟨#[]⟩, .string ⟨#[]⟩, .int .u64 0, .int .u64 0, .slice none 0 0, .slice none 0 0, .slice none 0 0, .string ⟨#[]⟩, .int .u64 0, .slice none 0 0, .int .i64 0] 49)).setRow wr.heap.size v.cells.toArray = w5 at *))
          go_ret
          exact ⟨by rw [HZ5.out]; rfl, HB5.out⟩
    · obtain rfl : j = Nn := by omega
      have HZ5 := hid (show R = (decide (j ≤ 300) && decide (Dn ≤ 100)) by rw [HZ.out, HNn.out, List.drop_length]; rfl)
      have y0 := Blk.at HX.out 0
      have y1 := Blk.at HX.out 1
      simp only [List.getElem?_cons_zero, List.getElem?_cons_succ] at y0 y1
      clear HZ
      by_cases h3 : j ≤ 300
      · have h3' : decide ((j : Int) ≤ 300) = true := by simp; omega
        have HZ6 := hid (show R = decide ((Dn : Int) ≤ 100) by rw [HZ5.out, decide_eq_true h3, Bool.true_and, Bool.eq_iff_iff]; simp; omega)
        clear HZ5 h3
        go_wp2_with fail
        go_ret
        exact ⟨by rw [HZ6.out]; rfl, HB.out⟩
      · have h3' : decide ((j : Int) ≤ 300) = false := by simp; omega
        have HZ6 := hid (show R = false by rw [HZ5.out, decide_eq_false h3, Bool.false_and])
        clear HZ5 h3
        go_wp2_with fail
        go_ret
        exact ⟨by rw [HZ6.out]; rfl, HB.out⟩
end Go.Proofs.Ythjfhenldkihkaa
