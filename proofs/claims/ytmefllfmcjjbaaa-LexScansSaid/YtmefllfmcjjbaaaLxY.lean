/- lex: the reference's Scan. -/
import Derived.Test.YtmefllfmcjjbaaaLxVc
namespace Go.Proofs.Ytmefllfmcjjbaaa
open Go.RowKit
set_option linter.unusedSimpArgs false
set_option linter.unusedVariables false

theorem ext_tail (s : ByteArray) (j : Nat) (hj : j ≤ s.size) : (s.extract j s.size).data.toList = s.data.toList.drop j := by
  rw [mid_str s j s.size hj (Nat.le_refl _), List.take_of_length_le (by rw [List.length_drop]; exact Nat.le_refl _)]
theorem ext_len (s : ByteArray) (j : Nat) (hj : j ≤ s.size) : (s.extract j s.size).size = s.size - j := by
  have h : (s.extract j s.size).data.toList.length = (s.extract j s.size).size := rfl
  rw [← h, ext_tail s j hj, List.length_drop]; rfl
/-- What the reference's Scan answers. -/
def RfR (r : Except (Nat × Nat) (List Tk)) (w : World) (e : Ending) (w' : World) : Prop := Below w.heap.size w w' ∧ match r with
  | .error (c, p) => e = .returned (.tuple #[.slice none 0 0, .int .i64 (p : Int), .int .i64 (c : Int)])
  | .ok ts => ∃ v, e = .returned (.tuple #[v, .int .i64 0, .int .i64 0]) ∧ w'.ownsRow w.heap.size 34 3 v ts.length (flatK ts)
structure RfSt (w : World) (v : Value) (ts : List Tk) (W : World) : Prop where
  bel : Below w.heap.size w W
  row : W.ownsRow w.heap.size 34 3 v ts.length (flatK ts)
theorem RfSt.below {w W W' : World} {v : Value} {ts : List Tk} (h : RfSt w v ts W) (hb : Below W.heap.size W W') : RfSt w v ts W' :=
  ⟨h.bel.trans (hb.mono h.bel.size), owns_keep h.row (fun b _ hl => hb.block b hl)⟩
theorem RfSt.snoc {w W1 W2 : World} {v v' : Value} {ts : List Tk} {t : Tk} (h : RfSt w v ts W1)
    (hown : W2.ownsRow w.heap.size 34 3 v' (ts.length + 1) (flatK ts ++ t.cells)) (hg : W1.grownBy W2 v.ownBlock) : RfSt w v' (ts ++ [t]) W2 := by
  have hge := owns_block h.row
  refine ⟨⟨hg.os.trans h.bel.os, hg.tape.trans h.bel.tape, hg.output.trans h.bel.output, Nat.le_trans h.bel.size hg.size, fun k hk => ?_⟩, ?_⟩
  · exact (hg.block k (Nat.lt_of_lt_of_le hk h.bel.size) (fun e => by have := hge k e.symm; omega)).trans (h.bel.block k hk)
  · rw [List.length_append, flatK_snoc]; exact hown
theorem info_tkr : (Try.prog.info? 34).map (fun i => (i.zero, i.size, i.bytes)) = some (some (.agg #[.int .i64 0, .int .i64 0, .string ⟨#[]⟩]), 3, 32) := by kernel_rfl
theorem new_tkr (w : World) (v : Tk) : ∀ j u, v.cells[j]? = some u → (w.alloc (.cells v.cells.toArray 34)).cell? ((⟨w.heap.size, 0, none⟩ : Addr).add j) = some u := by
  intro j u hj
  rw [addr_add, Nat.zero_add]
  exact (Blk.at (Blk.fresh w 34 v.cells) j).trans hj
set_option maxRecDepth 100000 in
set_option maxHeartbeats 8000000 in
theorem scan_ref (s : ByteArray) (hs : s.size ≤ 65536) (w : World) : Calls Try.prog 10 #[.string s] w (RfR (scanT s.data.toList) w) := by
  obtain ⟨R, hR⟩ : ∃ R, R = scanT s.data.toList := ⟨_, rfl⟩
  rw [← hR]
  have hR0 := hid (show R = thenR [] (scanF (s.size + 2) (s.data.toList.drop 0) 0 ([] : List Tk).length) by
    rw [hR, thenR_nil]; unfold scanT; rw [if_neg (show ¬ 65536 < s.data.toList.length from Nat.not_lt.2 hs)]; rfl)
  clear hR
  have HGa := hid (fun (W : World) (j : Nat) (hj : j ≤ s.size) => by
    have h := Gap_any (s.extract j s.size) (by rw [ext_len s j hj]; omega) W
    rw [ext_tail s j hj] at h
    exact h)
  have HFr := hid (fun (W : World) (j : Nat) (hj : j < s.size) => by
    have h := front_ref (s.extract j s.size) (by rw [ext_len s j (by omega)]; omega) (by rw [ext_len s j (by omega)]; omega) W
    rw [ext_tail s j (by omega)] at h
    exact h)
  have HS := hid (show RfSt w (.slice none 0 0) [] w from ⟨Below.refl _ _, ⟨rfl, .inl ⟨rfl, rfl⟩⟩⟩)
  have hs' : ¬ (65536 : Int) < (s.size : Int) := by omega
  go_enter Try.func10, Try.ntmps10
  go_wp2_with fail
  clear hs'
  go_loopg [5, 6] (s.size + 2) (fun m v i wr => ∃ (j : Nat) (ts : List Tk), j ≤ s.size ∧ s.size + 1 < m + j ∧ ts.length ≤ j ∧ i = .int .i64 (j : Int) ∧ Hid (R = thenR ts (scanF m (s.data.toList.drop j) j ts.length)) ∧ Hid (RfSt w v ts wr))
  case atStart => exact ⟨0, [], by omega, by omega, by simp, rfl, hR0, HS⟩
  case round =>
    clear hR0 HS
    obtain ⟨j, ts, hj, hm, htj, rfl, HR, HS⟩ := hrel
    obtain ⟨m, rfl⟩ : ∃ m, gk = m + 1 := ⟨gk - 1, by omega⟩
    obtain ⟨A, cp, hv⟩ := owns_shape HS.out.row
    subst hv
    have HGj := hid (fun W => HGa.out W j hj)
    have hgl := gap_le false (s.data.toList.drop j)
    rw [List.length_drop, show s.data.toList.length = s.size from rfl] at hgl
    have HR2 := hid (show R = thenR ts (scanG m (s.data.toList.drop (j + gap false (s.data.toList.drop j))) (j + gap false (s.data.toList.drop j)) ts.length) by
      rw [HR.out, scanF_succ, List.drop_drop])
    clear HR
    generalize gap false (s.data.toList.drop j) = G at *
    obtain ⟨p, hp⟩ : ∃ p, p = j + G := ⟨_, rfl⟩
    have hw : wrap64 ((j : Int) + (G : Int)) = (p : Int) := by unfold wrap64; omega
    rw [← hp] at HR2
    have hps : p ≤ s.size := by omega
    have htp : ts.length ≤ p := by omega
    have hmp : s.size + 1 < m + 1 + p := by omega
    have b1 : (j : Int) ≤ (s.size : Int) := by omega
    have b2 : (p : Int) ≤ (s.size : Int) := by omega
    clear hp hgl hj hm htj
    rcases Nat.lt_or_ge p s.size with hlt | hge
    · have n1 : ¬ (p : Int) = (s.size : Int) := by omega
      have n2 : ((p : Int) == (s.size : Int)) = false := by simp; omega
      have hne : s.data.toList.drop p ≠ [] := by
        rw [drop_eq (show p < s.data.toList.length from hlt)]; simp
      by_cases hn : ts.length = 8192
      · rw [hn, scanG_full hne] at HR2
        have hn' : (ts.length : Int) = 8192 := by omega
        have HE : Hid (R = .error (2, p)) := hid (by rw [HR2.out]; rfl)
        clear HR2
        go_wp2_with fail
        refine (HGj.out _).mono ?_
        rintro e w3 ⟨rfl, rfl⟩
        go_wp2_with fail
        rw [HE.out]
        go_ret3
        refine ⟨HS.out.bel, ?_⟩
        show Ending.returned (.tuple #[.slice none 0 0, .int .i64 (wrap64 ((j : Int) + (G : Int))), .int .i64 2]) = .returned (.tuple #[.slice none 0 0, .int .i64 (p : Int), .int .i64 2])
        rw [hw]
      · have hn' : ¬ (ts.length : Int) = 8192 := by omega
        have hn2 : ((ts.length : Int) == 8192) = false := by simp; omega
        have HFj := hid (fun W => HFr.out W p hlt)
        cases hfr : front (s.data.toList.drop p) with
        | error c =>
          rw [hfr] at HFj
          have hc0 : ¬ (c : Int) = 0 := by have := front_err hfr; omega
          have HE : Hid (R = .error (c, p)) := hid (by rw [HR2.out, scanG_bad hne hn hfr]; rfl)
          clear HR2 hfr
          go_wp2_with fail
          refine (HGj.out _).mono ?_
          rintro e w3 ⟨rfl, rfl⟩
          go_wp2_with fail
          refine (HFj.out _).mono ?_
          rintro e w4 ⟨hb4, rfl⟩
          have HB4 := hid (HS.out.bel.trans (hb4.mono HS.out.bel.size))
          have HB5 := hid (HB4.out.alloc HB4.out.size (.cells #[.int .i64 0, .int .i64 0, .string ⟨#[]⟩] 34))
          clear hb4 HFj HGj HS
          rw [show zeroK = #[.int .i64 0, .int .i64 0, .string ⟨#[]⟩] from rfl]
          go_wp2_with fail
          rw [HE.out]
          go_ret3
          exact ⟨HB5.out, rfl⟩
        | ok v =>
          obtain ⟨k, x, n⟩ := v
          rw [hfr] at HFj
          have hfl := front_len hfr
          rw [List.length_drop, show s.data.toList.length = s.size from rfl] at hfl
          have HR3 : Hid (R = thenR (ts ++ [⟨k, p, x⟩]) (scanF m (s.data.toList.drop (p + n)) (p + n) (ts ++ [(⟨k, p, x⟩ : Tk)]).length)) := hid (by
            rw [HR2.out, scanG_ok hne hn hfr, thenR_then, List.drop_drop, List.length_append]
            rfl)
          clear HR2 hfr
          have hk0 : (0 : Int) ≤ (k : Int) := by omega
          obtain ⟨T, hT⟩ : ∃ T : Tk, T = ⟨k, p, x⟩ := ⟨_, rfl⟩
          have hTc : T.cells = [.int .i64 (k : Int), .int .i64 (p : Int), .string ⟨x.toArray⟩] := by rw [hT]; rfl
          rw [← hT] at HR3
          go_wp2_with fail
          refine (HGj.out _).mono ?_
          rintro e w3 ⟨rfl, rfl⟩
          go_wp2_with fail
          refine (HFj.out _).mono ?_
          rintro e w4 ⟨hb4, rfl⟩
          rw [hw]
          generalize (⟨x.toArray⟩ : ByteArray) = X at *
          have HS4 := hid (HS.out.below hb4)
          have hw4 : w3.heap.size ≤ w4.heap.size := hb4.size
          clear hb4 HS HFj HGj hw
          go_upto_region 11 with (fail)
          change Code.wp _ _ _ _ (w4.alloc (.cells #[.int .i64 (k : Int), .int .i64 0, .string X] 34))
          have HK5 := hid (show Blk (w4.alloc (.cells #[.int .i64 (k : Int), .int .i64 0, .string X] 34)) w4.heap.size 34 [.int .i64 (k : Int), .int .i64 0, .string X] from heap_alloc_new w4 _)
          have HB5 := hid ((Below.refl w4.heap.size w4).alloc (Nat.le_refl _) (.cells #[.int .i64 (k : Int), .int .i64 0, .string X] 34))
          generalize w4.alloc (.cells #[.int .i64 (k : Int), .int .i64 0, .string X] 34) = w5 at *
          have f1 := Blk.free HK5.out 1
          have h1 := Blk.at HK5.out 1
          go_upto_region 14 with (fail)
          have HK6 := hid (show Blk (w5.setCell ⟨w4.heap.size, 1, none⟩ (.int .i64 (p : Int))) w4.heap.size 34 [.int .i64 (k : Int), .int .i64 (p : Int), .string X] from Blk.put HK5.out 1 (.int .i64 (p : Int)))
          have HB6 := hid (HB5.out.setCell (p := ⟨w4.heap.size, 1, none⟩) (Nat.le_refl _) (.int .i64 (p : Int)))
          generalize w5.setCell ⟨w4.heap.size, 1, none⟩ (.int .i64 (p : Int)) = w6 at *
          have HS6 := hid (HS4.out.below HB6.out)
          have HS7 := hid (HS6.out.below ((Below.refl w6.heap.size w6).alloc (Nat.le_refl _) (.cells T.cells.toArray 34)))
          have HOwn := hid HS7.out.row
          have HCn := hid (new_tkr w6 T)
          have hone := tk_ones T
          have hw6 : w.heap.size ≤ (w6.alloc (.cells T.cells.toArray 34)).heap.size := HS7.out.bel.size
          have HSn := hid (fun (v' : Value) (W2 : World) (hown : W2.ownsRow w.heap.size 34 3 v' (ts.length + 1) (flatK ts ++ T.cells)) hg => HS7.out.snoc (t := T) hown hg)
          rw [hTc] at HCn hone hw6 HOwn HSn
          clear HK5 HB5 HB6 HS6 HS7 HS4 f1 h1 hTc hw4
          have hk512 : ts.length + 1 ≤ 65537 := by omega
          obtain ⟨i0, hi0, hz0, hz1, hz2⟩ := info_parts info_tkr
          go_wp2_with (first
            | (refine wpList_load_row rfl 34 _ rfl w4.heap.size rfl 34 #[.int .i64 (k : Int), .int .i64 (p : Int), .string X] (0, 0) _ HK6.out Try.underlying34 rfl (tkr_size _ rfl) ?_)
            | (refine wpList_append_own_at _ rfl _ _ 29 rfl w.heap.size 34 i0 (.agg #[.int .i64 0, .int .i64 0, .string ⟨#[]⟩]) 3 32 Try.underlying29 hi0 hz0 hz1 hz2 rfl (by decide) _ _ _ rfl HOwn.out ⟨w6.heap.size, 0, none⟩ 1 1 [.int .i64 (k : Int), .int .i64 (p : Int), .string X] rfl rfl HCn.out hone (by unfold maxLen; omega) (by omega) hw6 ?_; intro u7 w7 hown7 hgrow7 _ _; have HS7 := hid (HSn.out u7 w7 hown7 hgrow7); clear hown7 hgrow7))
          go_roundg m
          case measure => omega
          case rel => exact ⟨p + n, ts ++ [T], by omega, by omega, by simp; omega, by go_num, HR3, HS7⟩
    · obtain rfl : p = s.size := by omega
      have HE : Hid (R = .ok (ts ++ [(⟨5, s.size, []⟩ : Tk)])) := hid (by
        rw [HR2.out, List.drop_eq_nil_of_le (show s.data.toList.length ≤ s.size from Nat.le_refl _), scanG_end]; rfl)
      clear HR2
      go_wp2_with fail
      refine (HGj.out _).mono ?_
      rintro e w3 ⟨rfl, rfl⟩
      skip
      have HS5 := hid (HS.out.below ((Below.refl w3.heap.size w3).alloc (Nat.le_refl _) (.cells (Tk.mk 5 s.size []).cells.toArray 34)))
      have HOwn := hid HS5.out.row
      have HCn := hid (new_tkr w3 (Tk.mk 5 s.size []))
      have hone := tk_ones (Tk.mk 5 s.size [])
      have hw4 : w.heap.size ≤ (w3.alloc (.cells (Tk.mk 5 s.size []).cells.toArray 34)).heap.size := HS5.out.bel.size
      have hTc : (Tk.mk 5 s.size []).cells = [.int .i64 5, .int .i64 (s.size : Int), .string ⟨#[]⟩] := rfl
      have HSn := hid (fun (v' : Value) (W2 : World) (hown : W2.ownsRow w.heap.size 34 3 v' (ts.length + 1) (flatK ts ++ (Tk.mk 5 s.size []).cells)) hg => HS5.out.snoc (t := Tk.mk 5 s.size []) hown hg)
      rw [hTc] at HCn hone hw4 HOwn HSn
      clear HS HS5 hTc HGj
      have hk512 : ts.length + 1 ≤ 65537 := by omega
      obtain ⟨i0, hi0, hz0, hz1, hz2⟩ := info_parts info_tkr
      go_wp2_with (refine wpList_append_own_at _ rfl _ _ 29 rfl w.heap.size 34 i0 (.agg #[.int .i64 0, .int .i64 0, .string ⟨#[]⟩]) 3 32 Try.underlying29 hi0 hz0 hz1 hz2 rfl (by decide) _ _ _ rfl HOwn.out ⟨w3.heap.size, 0, none⟩ 1 1 [.int .i64 5, .int .i64 (s.size : Int), .string ⟨#[]⟩] rfl rfl HCn.out hone (by unfold maxLen; omega) (by omega) hw4 ?_; intro u7 w7 hown7 hgrow7 _ _; have HS7 := hid (HSn.out u7 w7 hown7 hgrow7); clear hown7 hgrow7)
      rw [HE.out]
      go_ret3
      exact ⟨HS7.out.bel, u7, rfl, HS7.out.row⟩
end Go.Proofs.Ytmefllfmcjjbaaa
