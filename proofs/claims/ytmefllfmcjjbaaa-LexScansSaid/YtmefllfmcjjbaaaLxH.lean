/- lex: Scan of texts that aren't too long. -/
import Derived.Test.YtmefllfmcjjbaaaLxG
namespace Go.Proofs.Ytmefllfmcjjbaaa
open Go.RowKit

theorem cur_size (s : ByteArray) : (Try.prog.info? 44).map (·.size) = some (#[.string s, .int .i64 0] : Array Value).size := by
  rw [show (#[Value.string s, .int .i64 0] : Array Value).size = 2 from rfl]; kernel_rfl
theorem cur_one (s : ByteArray) : (#[.string s, .int .i64 0] : Array Value).all (·.oneCell') = true := by simp [Value.oneCell']
set_option maxRecDepth 100000 in
set_option maxHeartbeats 8000000 in
theorem scan_short (s : ByteArray) (hs : s.size ≤ 65536) (w : World) : Calls Try.prog 9 #[.string s] w (ScanR (scanT s.data.toList) w) := by
  obtain ⟨R, hR⟩ : ∃ R, R = scanT s.data.toList := ⟨_, rfl⟩
  rw [← hR]
  have hR0 := hid (show R = thenR [] (scanG (s.size + 1) (s.data.toList.drop (0 + gap false (s.data.toList.drop 0))) (0 + gap false (s.data.toList.drop 0)) ([] : List Tk).length) by
    rw [hR, thenR_nil]; unfold scanT; rw [if_neg (show ¬ 65536 < s.data.toList.length from Nat.not_lt.2 hs), show s.data.toList.length + 2 = (s.size + 1) + 1 from rfl, scanF_succ, List.drop_zero, Nat.zero_add]; rfl)
  clear hR
  have HSk := hid (fun (W : World) (j : Nat) (h : Cu W (w.heap.size + 1) s j) (hj : j ≤ s.size) => skip_any h hj hs)
  have HTk := hid (fun (W : World) (j : Nat) (h : Cu W (w.heap.size + 1) s j) (hj : j < s.size) => token_any h hj hs)
  have hs1 : (w.alloc (.cells (faultC 0 0) 26)).heap.size = w.heap.size + 1 := by simp
  have HB := hid ((Below.refl w.heap.size w).alloc (Nat.le_refl _) (.cells (faultC 0 0) 26))
  have HF := hid (heap_alloc_new w (.cells (faultC 0 0) 26))
  have hs' : ¬ (65536 : Int) < (s.size : Int) := by omega
  go_enter Try.func9, Try.ntmps9
  go_upto_region 1 with (fail)
  change Code.wp _ _ _ _ (w.alloc (.cells (faultC 0 0) 26))
  generalize w.alloc (.cells (faultC 0 0) 26) = w1 at *
  have HB2 := hid (HB.out.alloc (by omega) (.cells #[.string s, .int .i64 0] 44))
  have HF2 := hid (show (w1.alloc (.cells #[.string s, .int .i64 0] 44)).heap[w.heap.size]? = some (.cells (faultC 0 0) 26) from (Below.heap_alloc w1 _ _ (by omega)).trans HF.out)
  have HC2 := hid (show Cu (w1.alloc (.cells #[.string s, .int .i64 0] 44)) (w.heap.size + 1) s 0 from by
    rw [show w.heap.size + 1 = w1.heap.size by omega]
    exact heap_alloc_new w1 _)
  go_upto_region 5 with (fail)
  generalize w1.alloc (.cells #[.string s, .int .i64 0] 44) = w2 at *
  have HS := hid (show ScSt w s 0 (.slice none 0 0) [] w2 from ⟨HB2.out, HF2.out, HC2.out, ⟨rfl, .inl ⟨rfl, rfl⟩⟩⟩)
  clear HB HF HB2 HF2 HC2 hs1 hs'
  go_wp2_with fail
  refine (HSk.out w2 0 HS.out.cu (Nat.zero_le _)).mono ?_
  rintro e w3 ⟨rfl, hc3, hg3⟩
  have HS3 := hid (HS.out.step hg3 hc3)
  clear HS hc3 hg3
  have hg0 := gap_le false s.data.toList
  rw [List.drop_zero, Nat.zero_add] at hR0 HS3
  generalize gap false s.data.toList = j0 at *
  go_wp2_with fail
  go_loopg [4] (s.size + 1) (fun m v wr => ∃ (j : Nat) (ts : List Tk), j ≤ s.size ∧ s.size < m + j ∧ ts.length ≤ j ∧ Hid (R = thenR ts (scanG m (s.data.toList.drop j) j ts.length)) ∧ Hid (ScSt w s j v ts wr))
  case atStart => exact ⟨j0, [], hg0, by omega, by simp, hR0, HS3⟩
  case round =>
    clear hR0 HS3 hg0
    obtain ⟨j, ts, hj, hm, htj, HR, HS⟩ := hrel
    obtain ⟨m, rfl⟩ : ∃ m, gk = m + 1 := ⟨gk - 1, by omega⟩
    obtain ⟨h0, h1, f1⟩ := HS.out.cu.cells
    obtain ⟨A, cp, hv⟩ := owns_shape HS.out.row
    subst hv
    have HF := hid HS.out.res
    rcases Nat.lt_or_ge j s.size with hlt | hge
    · have n1 : (j : Int) < (s.size : Int) := by omega
      have hne : s.data.toList.drop j ≠ [] := by
        rw [drop_eq (show j < s.data.toList.length from hlt)]; simp
      by_cases hn : ts.length = 8192
      · rw [hn, scanG_full hne] at HR
        have hn' : (ts.length : Int) = 8192 := by omega
        have HE : Hid (R = .error (2, j)) := hid (by rw [HR.out]; rfl)
        clear HR
        go_wp2_with (refine wpList_store_row rfl 26 _ _ rfl w.heap.size (faultC 2 (j : Int)) ?_ ?_ 26 (faultC 0 0) HF.out (fault_size 2 (j : Int)) ?_ (fault_one 2 (j : Int)) ?_; exact rfl; exact rfl; exact rfl)
        rw [HE.out]
        exact bodyPost_ret (v := .tuple #[.slice none 0 0, .agg (faultC 2 (j : Int))]) (results_tmp_cell (P := Try.prog) (fn := Try.f9) rfl _ _ w.heap.size 26 _ (0, 0) _ rfl (setRow_heap _ _ _ _ _ (0, 0) HF.out) Try.underlying26 rfl (fault_size 2 (j : Int))) rfl ⟨below_row HS.out.bel (Nat.le_refl _) _, rfl⟩
      · have hn' : ¬ (ts.length : Int) = 8192 := by omega
        have HTj := hid (HTk.out wr j HS.out.cu hlt)
        cases hfr : front (s.data.toList.drop j) with
        | error c =>
          rw [hfr] at HTj
          have hc0 : ¬ (c : Int) = 0 := by have := front_err hfr; omega
          have HE : Hid (R = .error (c, j)) := hid (by rw [HR.out, scanG_bad hne hn hfr]; rfl)
          clear HR hfr
          go_wp2_with fail
          refine HTj.out.mono ?_
          rintro e w4 ⟨hg4, rfl⟩
          have HF4 := hid (show w4.heap[w.heap.size]? = some (.cells (faultC 0 0) 26) from (hg4.block _ HS.out.res.lt (by intro e; injection e with e; omega)).trans HS.out.res)
          have HB4 := hid (show Below w.heap.size w w4 from ⟨hg4.os.trans HS.out.bel.os, hg4.tape.trans HS.out.bel.tape, hg4.output.trans HS.out.bel.output, Nat.le_trans HS.out.bel.size hg4.size, fun k hk => (hg4.block k (Nat.lt_of_lt_of_le hk HS.out.bel.size) (by intro e; injection e with e; omega)).trans (HS.out.bel.block k hk)⟩)
          clear hg4 HTj h0 h1 f1 HF HS
          go_wp2_with (refine wpList_store_row rfl 26 _ _ rfl w.heap.size (faultC (c : Int) (j : Int)) ?_ ?_ 26 (faultC 0 0) HF4.out (fault_size (c : Int) (j : Int)) ?_ (fault_one (c : Int) (j : Int)) ?_; exact rfl; exact rfl; exact rfl)
          rw [HE.out]
          exact bodyPost_ret (v := .tuple #[.slice none 0 0, .agg (faultC (c : Int) (j : Int))]) (results_tmp_cell (P := Try.prog) (fn := Try.f9) rfl _ _ w.heap.size 26 _ (0, 0) _ rfl (setRow_heap _ _ _ _ _ (0, 0) HF4.out) Try.underlying26 rfl (fault_size (c : Int) (j : Int))) rfl ⟨below_row HB4.out (Nat.le_refl _) _, rfl⟩
        | ok v =>
          obtain ⟨k, x, n⟩ := v
          rw [hfr] at HTj
          have hfl := front_len hfr
          rw [List.length_drop, show s.data.toList.length = s.size from rfl] at hfl
          have hgl := gap_le false (s.data.toList.drop (j + n))
          rw [List.length_drop, show s.data.toList.length = s.size from rfl] at hgl
          have HR2 : Hid (R = thenR (ts ++ [⟨k, j, x⟩]) (scanG m (s.data.toList.drop (j + n + gap false (s.data.toList.drop (j + n)))) (j + n + gap false (s.data.toList.drop (j + n))) (ts ++ [(⟨k, j, x⟩ : Tk)]).length)) := hid (by
            rw [HR.out, scanG_ok hne hn hfr, thenR_then, List.drop_drop, scanF_succ, List.drop_drop, List.length_append]
            rfl)
          clear HR hfr
          have hk0 : (1 : Int) ≤ (k : Int) := by omega
          obtain ⟨T, hT⟩ : ∃ T : Tk, T = ⟨k, j, x⟩ := ⟨_, rfl⟩
          have hTc : T.cells = [.int .i64 (k : Int), .int .i64 (j : Int), .string ⟨x.toArray⟩] := by rw [hT]; rfl
          rw [← hT] at HR2
          go_wp2_with fail
          refine HTj.out.mono ?_
          rintro e w4 ⟨hg4, rfl, hc4⟩
          generalize (⟨x.toArray⟩ : ByteArray) = X at *
          have HS4 := hid (HS.out.step hg4 hc4)
          have HS5 := hid (HS4.out.below ((Below.refl w4.heap.size w4).alloc (Nat.le_refl _) (.cells T.cells.toArray 33)))
          have HOwn := hid HS5.out.row
          have HCn := hid (new_tk w4 T)
          have hone := tk_ones T
          have hw4 : w.heap.size + 2 ≤ (w4.alloc (.cells T.cells.toArray 33)).heap.size := by
            have h3 := Blk.lt HS4.out.cu
            rw [World.size_alloc]
            omega
          have HSn := hid (fun (v' : Value) (W2 : World) (hown : W2.ownsRow (w.heap.size + 2) 33 3 v' (ts.length + 1) (flatK ts ++ T.cells)) hg => HS5.out.snoc (w := w) (t := T) hown hg)
          have HTc := hid hTc
          rw [hTc] at HCn hone hw4 HOwn HSn
          clear hg4 hc4 HTj h0 h1 f1 HF HS HS5 hTc
          have hk512 : ts.length + 1 ≤ 65537 := by omega
          obtain ⟨i0, hi0, hz0, hz1, hz2⟩ := info_parts info_tk
          go_wp2_with (refine wpList_append_own_at _ rfl _ _ 23 rfl (w.heap.size + 2) 33 i0 (.agg #[.int .i64 0, .int .i64 0, .string ⟨#[]⟩]) 3 32 Try.underlying23 hi0 hz0 hz1 hz2 rfl (by decide) _ _ _ rfl HOwn.out ⟨w4.heap.size, 0, none⟩ 1 1 [.int .i64 (k : Int), .int .i64 (j : Int), .string X] rfl rfl HCn.out hone (by unfold maxLen; omega) (by omega) hw4 ?_; intro u7 w7 hown7 hgrow7 _ _; have HS7 := hid (HSn.out u7 w7 hown7 hgrow7); clear hown7 hgrow7)
          refine (HSk.out w7 (j + n) HS7.out.cu (by omega)).mono ?_
          rintro e w8 ⟨rfl, hc8, hg8⟩
          have HS8 := hid (HS7.out.step hg8 hc8)
          clear hc8 hg8 HS7 HSn HOwn HCn hone hw4
          go_wp2_with fail
          go_roundg m
          case measure => omega
          case rel => exact ⟨j + n + gap false (s.data.toList.drop (j + n)), ts ++ [T], by omega, by omega, by simp; omega, HR2, HS8⟩
    · obtain rfl : j = s.size := by omega
      have HE : Hid (R = .ok (ts ++ [(⟨5, s.size, []⟩ : Tk)])) := hid (by
        rw [HR.out, List.drop_eq_nil_of_le (show s.data.toList.length ≤ s.size from Nat.le_refl _), scanG_end]; rfl)
      clear HR
      have HS5 := hid (HS.out.below ((Below.refl wr.heap.size wr).alloc (Nat.le_refl _) (.cells (Tk.mk 5 s.size []).cells.toArray 33)))
      have HOwn := hid HS5.out.row
      have HCn := hid (new_tk wr (Tk.mk 5 s.size []))
      have hone := tk_ones (Tk.mk 5 s.size [])
      have hw4 : w.heap.size + 2 ≤ (wr.alloc (.cells (Tk.mk 5 s.size []).cells.toArray 33)).heap.size := by
        have h3 := Blk.lt HS.out.cu
        rw [World.size_alloc]
        omega
      have hTc : (Tk.mk 5 s.size []).cells = [.int .i64 5, .int .i64 (s.size : Int), .string ⟨#[]⟩] := rfl
      have HSn := hid (fun (v' : Value) (W2 : World) (hown : W2.ownsRow (w.heap.size + 2) 33 3 v' (ts.length + 1) (flatK ts ++ (Tk.mk 5 s.size []).cells)) hg => HS5.out.snoc (w := w) (t := Tk.mk 5 s.size []) hown hg)
      rw [hTc] at HCn hone hw4 HOwn HSn
      clear HF HS HS5 hTc
      have hk512 : ts.length + 1 ≤ 65537 := by omega
      obtain ⟨i0, hi0, hz0, hz1, hz2⟩ := info_parts info_tk
      go_wp2_with (first
        | (refine wpList_append_own_at _ rfl _ _ 23 rfl (w.heap.size + 2) 33 i0 (.agg #[.int .i64 0, .int .i64 0, .string ⟨#[]⟩]) 3 32 Try.underlying23 hi0 hz0 hz1 hz2 rfl (by decide) _ _ _ rfl HOwn.out ⟨wr.heap.size, 0, none⟩ 1 1 [.int .i64 5, .int .i64 (s.size : Int), .string ⟨#[]⟩] rfl rfl HCn.out hone (by unfold maxLen; omega) (by omega) hw4 ?_; intro u7 w7 hown7 hgrow7 _ _; have HS7 := hid (HSn.out u7 w7 hown7 hgrow7); clear hown7 hgrow7)
        | (refine wpList_store_row rfl 26 _ _ rfl w.heap.size (faultC 0 0) ?_ ?_ 26 (faultC 0 0) HS7.out.res (fault_size 0 0) ?_ (fault_one 0 0) ?_; exact rfl; exact rfl; exact rfl))
      rw [HE.out]
      exact bodyPost_ret (v := .tuple #[u7, .agg (faultC 0 0)]) (results_tmp_cell (P := Try.prog) (fn := Try.f9) rfl _ _ w.heap.size 26 _ (0, 0) _ rfl (setRow_heap _ _ _ _ _ (0, 0) HS7.out.res) Try.underlying26 rfl (fault_size 0 0)) rfl ⟨below_row HS7.out.bel (Nat.le_refl _) _, u7, rfl, by
        have h := HS7.out.row
        refine owns_base (owns_keep h (fun b hb _ => setRow_other _ _ _ _ (by omega))) (by omega)⟩
theorem scan_any (s : ByteArray) (w : World) : Calls Try.prog 9 #[.string s] w (ScanR (scanT s.data.toList) w) := by
  rcases Nat.lt_or_ge 65536 s.size with h | h
  · exact scan_long s h w
  · exact scan_short s h w
end Go.Proofs.Ytmefllfmcjjbaaa
