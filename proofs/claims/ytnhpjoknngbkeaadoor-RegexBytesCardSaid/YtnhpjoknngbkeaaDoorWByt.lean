/- The law RegexBytes, walked. -/
import Derived.Test.YtnhpjoknngbkeaaDoorRB
import Derived.Test.YtnhpjoknngbkeaaDoorRl
namespace Go.Proofs.YtnhpjoknngbkeaaDoor
open Go.RowKit

theorem run_neArr (a b : BS) (w : World) : (binOp .neq 24 (.agg #[.int .u64 ((wd a 0 : Nat) : Int), .int .u64 ((wd a 1 : Nat) : Int), .int .u64 ((wd a 2 : Nat) : Int), .int .u64 ((wd a 3 : Nat) : Int)]) (.agg #[.int .u64 ((wd b 0 : Nat) : Int), .int .u64 ((wd b 1 : Nat) : Int), .int .u64 ((wd b 2 : Nat) : Int), .int .u64 ((wd b 3 : Nat) : Int)])).run Tryd.prog w = .ok (.bool (!decide (a = b))) w := by
  rw [run_neq_struct, run_eq4 24 Tryd.underlying24 9998, Result.andThen_ok, bs_eq_words]
/-- What the law holds: the set that came in; what was read of a text. -/
structure Hy (w : World) (a : BS) (b : Nat) (x : RV) (c p : Int) (W : World) : Prop where
  bel : Below w.heap.size w W
  tab : TabAt W
  fs : Blk W w.heap.size 40 (setL a)
  fx : Blk W b 27 x.cells
  ff : Blk W (b + 1) 30 (faultC c p).toList
theorem Hy.step {w W W' : World} {a : BS} {b : Nat} {x : RV} {c p : Int} (h : Hy w a b x c p W) (hb : Below W.heap.size W W') : Hy w a b x c p W' :=
  ⟨h.bel.trans (hb.mono h.bel.size), h.tab.keep hb, h.fs.keep hb, h.fx.keep hb, h.ff.keep hb⟩
theorem Hy.drew {w W : World} {a : BS} {b : Nat} {x : RV} {c p : Int} (h : Hy w a b x c p W) : Hy w a b x c p W.drew := h.step ⟨rfl, rfl, rfl, Nat.le_refl _, fun _ _ => rfl⟩
theorem Hy.cells {w W : World} {a : BS} {b : Nat} {s : BS} {A : Option Addr} {n c : Nat} {lo hi : Int} (h : Hy w a b ⟨2, s, A, n, c, lo, hi⟩ 0 0 W) : W.cell? ⟨b + 1, 0, none⟩ = some (.int .i64 0) ∧ W.cell? ⟨b, 0, none⟩ = some (.int .i64 2) ∧ W.cell? ⟨b, 1, none⟩ = some (.int .u64 ((wd s 0 : Nat) : Int)) ∧ W.cell? ⟨b, 2, none⟩ = some (.int .u64 ((wd s 1 : Nat) : Int)) ∧ W.cell? ⟨b, 3, none⟩ = some (.int .u64 ((wd s 2 : Nat) : Int)) ∧ W.cell? ⟨b, 4, none⟩ = some (.int .u64 ((wd s 3 : Nat) : Int)) := by
  obtain ⟨x0, x1, x2, x3, x4, _⟩ := Blk.cells8' h.fx
  exact ⟨h.ff.at 0, x0, x1, x2, x3, x4⟩
theorem rdB_one {W : World} {g : Nat} {c : Nat} (hc : c < 256) (h : Blk W g 5 [.int .u8 (c : Int)]) : RdB W (some ⟨g, 0, none⟩) 1 [c.toUInt8] := by
  refine ⟨rfl, fun _ => ⟨g, 0, rfl, h.lt, fun j hj => ?_⟩⟩
  obtain rfl : j = 0 := by simpa using hj
  have e : c.toUInt8.toNat = c := by simp; omega
  simp only [List.getElem_cons_zero, e]
  exact h.at 0
set_option maxRecDepth 100000 in
set_option maxHeartbeats 8000000 in
theorem bytes_walk (a : BS) (c : Nat) (hc : c < 256) {w : World} (hT : TabAt w) :
    Calls Tryd.prog 5 #[setV a, .int .u8 (c : Int)] w fun e w' => e = .returned (.bool true) ∧ Below w.heap.size w w' := by
  have hb : Below w.heap.size w (w.alloc (.cells (setL a).toArray 40)) := (Below.refl _ _).alloc (Nat.le_refl _) _
  have HA := hid (Blk.fresh w 40 (setL a))
  have HT := hid (hT.keep hb)
  have HB := hid hb
  have HRd := hid (fun W (h : TabAt W) => reads_any h)
  have HN := hid (fun W => name_any c hc W)
  have HP1 := hid (fun W => parse_any ⟨(nameL c).toArray⟩ W)
  have HPn := hid (parse_name c hc)
  have HTx := hid (fun W (h : TabAt W) => text_any a h)
  have HE := hid (fun W => empty_any a W)
  have HLn := hid (textL_len a)
  have hnl := nameL_le c
  have HOf := hid (fun W g cap (h : Blk W g 5 [.int .u8 (c : Int)]) => of_any (cap := cap) (rdB_one hc h) (by decide))
  rw [ofL_one c hc] at HOf
  have HNo := hid (fun W => not_any (bit c) W)
  have hs1 : (w.alloc (.cells (setL a).toArray 40)).heap.size = w.heap.size + 1 := by simp
  clear hb hT
  rw [show setV a = .agg (setL a).toArray from rfl]
  go_enter Tryd.func5, Tryd.ntmps5
  go_upto_region 1 with (fail)
  change Code.wp _ _ _ _ (w.alloc (.cells (setL a).toArray 40))
  generalize w.alloc (.cells (setL a).toArray 40) = w1 at *
  go_wp2_with fail
  refine (HRd.out _ HT.out).mono ?_
  rintro e w2 ⟨rfl, hb2⟩
  have HB2 := hid (HB.out.trans (hb2.mono HB.out.size))
  have HA2 := hid (HA.out.keep hb2)
  have HT2 := hid (HT.out.keep hb2)
  have hs2 := hb2.size
  clear hb2 HB HA HT HRd
  go_wp2_with fail
  refine (HN.out _).mono ?_
  rintro e w3 ⟨rfl, hb3⟩
  have HB3 := hid (HB2.out.trans (hb3.mono HB2.out.size))
  have HA3 := hid (HA2.out.keep hb3)
  have HT3 := hid (HT2.out.keep hb3)
  have hs3 := hb3.size
  clear hb3 HB2 HA2 HT2
  go_wp2_with fail
  refine (HP1.out _).mono ?_
  rintro e w4 ⟨hb4, hp4⟩
  rw [show pParse (ByteArray.mk (nameL c).toArray).data.toList = .ok (.nd 2 (bit c) [] 0 0) from HPn.out] at hp4
  obtain ⟨x, rfl, hrx⟩ := hp4
  have HXi := hid (show x.k = 2 ∧ x.s = bit c from ⟨hrx.inv.1, hrx.inv.2.1⟩)
  obtain ⟨hbx, hx5, hf5⟩ := box_pf w4 x 0 0
  have HSx := hid (rx_size x)
  have HOx := hid (rx_one x)
  have HX := hid (show Hy w a w4.heap.size x 0 0 _ from ⟨HB3.out.trans ((hb4.trans (hbx.mono hb4.size)).mono HB3.out.size), (HT3.out.keep hb4).keep hbx, (HA3.out.keep hb4).keep hbx, hx5, hf5⟩)
  have hs4 := hb4.size
  clear hbx hx5 hf5 hb4 hrx HB3 HA3 HT3 HP1 HPn
  unfold RV.val
  go_upto_region 4 with (first
    | (refine wpList_store_row rfl 27 _ _ rfl w4.heap.size (x.cells.toArray) ?_ ?_ 27 #[.int .i64 0, .int .u64 0, .int .u64 0, .int .u64 0, .int .u64 0, .slice none 0 0, .int .i64 0, .int .i64 0] ((Below.heap_alloc _ _ _ (by simp)).trans (heap_alloc_new w4 _)) HSx.out ?_ HOx.out ?_; exact rfl; exact rfl; exact rfl)
    | (refine wpList_store_row rfl 30 _ _ rfl (w4.heap.size + 1) (faultC 0 0) ?_ ?_ 30 #[.int .i64 0, .int .i64 0] (pf_mid w4 _) (fault_size 0 0) ?_ (fault_one 0 0) ?_; exact rfl; exact rfl; exact rfl; generalize (((w4.alloc (.cells #[.int .i64 0, .int .u64 0, .int .u64 0, .int .u64 0, .int .u64 0, .slice none 0 0, .int .i64 0, .int .i64 0] 27)).alloc (.cells #[.int .i64 0, .int .i64 0] 30)).setRow w4.heap.size x.cells.toArray).setRow (w4.heap.size + 1) (faultC 0 0) = w5 at *))
  obtain ⟨k, s, A, n, cp, lo, hi⟩ := x
  obtain ⟨hxk, hxs⟩ := HXi.out
  clear HXi
  simp only at hxk hxs
  obtain rfl := hxk
  obtain rfl := hxs
  have hd := HX.out.drew.cells
  have hba : ∀ Y : World, ∀ o : Obj, Below Y.heap.size Y (Y.alloc o) := fun Y o => (Below.refl _ _).alloc (Nat.le_refl _) o
  have hbf : ∀ Y : World, Blk (Y.alloc (.cells #[.int .u8 (c : Int)] 5)) Y.heap.size 5 [.int .u8 (c : Int)] := fun Y => heap_alloc_new Y _
  have hbad : ∀ Y : World, ∀ o : Obj, Below Y.heap.size Y (Y.alloc o).drew := fun Y o => ⟨rfl, rfl, rfl, (hba Y o).size, fun k hk => (hba Y o).block k hk⟩
  have hbfd : ∀ Y : World, Blk (Y.alloc (.cells #[.int .u8 (c : Int)] 5)).drew Y.heap.size 5 [.int .u8 (c : Int)] := fun Y => heap_alloc_new Y _
  have hq := fun W => run_neArr (bit c) (bit c) W
  rw [decide_eq_true rfl] at hq
  unfold setV at HOf HTx HE
  generalize w4.heap.size = b1 at *
  go_region_held3 (fun w' => w'.cell? ⟨b1 + 1, 0, none⟩ = some (.int .i64 0) ∧ w'.cell? ⟨b1, 0, none⟩ = some (.int .i64 2) ∧ w'.cell? ⟨b1, 1, none⟩ = some (.int .u64 ((wd (bit c) 0 : Nat) : Int)) ∧ w'.cell? ⟨b1, 2, none⟩ = some (.int .u64 ((wd (bit c) 1 : Nat) : Int)) ∧ w'.cell? ⟨b1, 3, none⟩ = some (.int .u64 ((wd (bit c) 2 : Nat) : Int)) ∧ w'.cell? ⟨b1, 4, none⟩ = some (.int .u64 ((wd (bit c) 3 : Nat) : Int)))
    (first | with_reducible exact hd | exact (HX.out.step (hba _ _)).cells | exact (HX.out.drew.step (hba _ _)).cells | assumption)
    (first
      | (go_at_call 14; with_reducible refine (HOf.out _ _ _ (by first | exact hbfd _ | exact hbf _)).mono ?_; rintro e w6 ⟨rfl, hb6⟩; have HX' := hid (show Hy w a b1 ⟨2, bit c, A, n, cp, lo, hi⟩ 0 0 w6 from (by first | exact HX.out.step ((hbad _ _).trans (hb6.mono (hba _ _).size)) | exact HX.out.step ((hba _ _).trans (hb6.mono (hba _ _).size)) | exact HX.out.drew.step ((hba _ _).trans (hb6.mono (hba _ _).size))));  clear hb6 HX hd; have HX := HX'; clear HX'; have hd := HX.out.cells))
  clear hd hq hba hbad hbf hbfd
  have HY := hid (show Below w.heap.size w w6 ∧ TabAt w6 ∧ Blk w6 w.heap.size 40 (setL a) from ⟨HX.out.bel, HX.out.tab, HX.out.fs⟩)
  clear HX
  obtain ⟨q0, q1, q2, q3⟩ := Blk.cells4 HY.out.2.2
  go_wp2_with fail
  refine (HTx.out _ HY.out.2.1).mono ?_
  rintro e w7 ⟨rfl, hb7⟩
  have HY7 := hid (show Below w.heap.size w w7 ∧ TabAt w7 ∧ Blk w7 w.heap.size 40 (setL a) from ⟨HY.out.1.trans (hb7.mono HY.out.1.size), HY.out.2.1.keep hb7, HY.out.2.2.keep hb7⟩)
  clear HY hb7 q0 q1 q2 q3
  go_wp2_with fail
  refine (parse_any _ _).mono ?_
  rintro e w8 ⟨hb8, hp8⟩
  have HB8 := hid (show Below w.heap.size w w8 ∧ TabAt w8 ∧ Blk w8 w.heap.size 40 (setL a) from ⟨HY7.out.1.trans (hb8.mono HY7.out.1.size), HY7.out.2.1.keep hb8, HY7.out.2.2.keep hb8⟩)
  clear HY7 hb8
  rw [show (ByteArray.mk (textL a).toArray).data.toList = textL a from rfl] at hp8
  by_cases h0 : a = 0#256
  · rw [h0, textL_empty, parse_empty] at hp8
    obtain rfl := hp8
    rw [decide_eq_true h0] at HE
    clear h0
    obtain ⟨hbx, hx9, hf9⟩ := box_pf w8 RV.zero 160 0
    rw [zeroR_eq] at hbx hx9 hf9
    have HX9 := hid (show Hy w a w8.heap.size RV.zero 160 0 _ from ⟨HB8.out.1.trans (hbx.mono HB8.out.1.size), HB8.out.2.1.keep hbx, HB8.out.2.2.keep hbx, hx9, hf9⟩)
    clear hbx hx9 hf9 HB8
    go_upto_region 7 with (first
      | (refine wpList_store_row rfl 27 _ _ rfl w8.heap.size (zeroR) ?_ ?_ 27 #[.int .i64 0, .int .u64 0, .int .u64 0, .int .u64 0, .int .u64 0, .slice none 0 0, .int .i64 0, .int .i64 0] ((Below.heap_alloc _ _ _ (by simp)).trans (heap_alloc_new w8 _)) (by rw [← zeroR_eq]; exact rx_size _) ?_ (by rw [← zeroR_eq]; exact rx_one _) ?_; exact rfl; exact rfl; exact rfl)
      | (refine wpList_store_row rfl 30 _ _ rfl (w8.heap.size + 1) (faultC 160 0) ?_ ?_ 30 #[.int .i64 0, .int .i64 0] (pf_mid w8 _) (fault_size 160 0) ?_ (fault_one 160 0) ?_; exact rfl; exact rfl; exact rfl; generalize (((w8.alloc (.cells #[.int .i64 0, .int .u64 0, .int .u64 0, .int .u64 0, .int .u64 0, .slice none 0 0, .int .i64 0, .int .i64 0] 27)).alloc (.cells #[.int .i64 0, .int .i64 0] 30)).setRow w8.heap.size zeroR).setRow (w8.heap.size + 1) (faultC 160 0) = w9 at *))
    obtain ⟨q0, q1, q2, q3⟩ := Blk.cells4 HX9.out.fs
    go_wp2_with fail
    refine (HE.out _).mono ?_
    rintro e w10 ⟨rfl, hb10⟩
    have HX10 := hid (HX9.out.step hb10)
    clear hb10 HX9 q0 q1 q2 q3
    obtain ⟨f0, f1⟩ := faultB HX10.out.ff
    go_wp2
    go_ret
    exact ⟨rfl, HX10.out.bel⟩
  rw [decide_eq_false h0] at HE
  by_cases hl : 512 < (textL a).length
  · have hp : pParse (textL a) = .error (2, 0) := by unfold pParse; rw [if_pos hl]
    rw [hp] at hp8
    obtain rfl := hp8
    have hsz : (⟨(textL a).toArray⟩ : ByteArray).size = (textL a).length := by simp [ByteArray.size]
    have hl' : (512 : Int) < ((⟨(textL a).toArray⟩ : ByteArray).size : Int) := by rw [hsz]; omega
    clear hp h0 hl hsz
    generalize (⟨(textL a).toArray⟩ : ByteArray) = S at *
    obtain ⟨hbx, hx9, hf9⟩ := box_pf w8 RV.zero 2 0
    rw [zeroR_eq] at hbx hx9 hf9
    have HX9 := hid (show Hy w a w8.heap.size RV.zero 2 0 _ from ⟨HB8.out.1.trans (hbx.mono HB8.out.1.size), HB8.out.2.1.keep hbx, HB8.out.2.2.keep hbx, hx9, hf9⟩)
    clear hbx hx9 hf9 HB8
    go_upto_region 7 with (first
      | (refine wpList_store_row rfl 27 _ _ rfl w8.heap.size (zeroR) ?_ ?_ 27 #[.int .i64 0, .int .u64 0, .int .u64 0, .int .u64 0, .int .u64 0, .slice none 0 0, .int .i64 0, .int .i64 0] ((Below.heap_alloc _ _ _ (by simp)).trans (heap_alloc_new w8 _)) (by rw [← zeroR_eq]; exact rx_size _) ?_ (by rw [← zeroR_eq]; exact rx_one _) ?_; exact rfl; exact rfl; exact rfl)
      | (refine wpList_store_row rfl 30 _ _ rfl (w8.heap.size + 1) (faultC 2 0) ?_ ?_ 30 #[.int .i64 0, .int .i64 0] (pf_mid w8 _) (fault_size 2 0) ?_ (fault_one 2 0) ?_; exact rfl; exact rfl; exact rfl; generalize (((w8.alloc (.cells #[.int .i64 0, .int .u64 0, .int .u64 0, .int .u64 0, .int .u64 0, .slice none 0 0, .int .i64 0, .int .i64 0] 27)).alloc (.cells #[.int .i64 0, .int .i64 0] 30)).setRow w8.heap.size zeroR).setRow (w8.heap.size + 1) (faultC 2 0) = w9 at *))
    obtain ⟨q0, q1, q2, q3⟩ := Blk.cells4 HX9.out.fs
    go_wp2_with fail
    refine (HE.out _).mono ?_
    rintro e w10 ⟨rfl, hb10⟩
    have HX10 := hid (HX9.out.step hb10)
    clear hb10 HX9 q0 q1 q2 q3
    obtain ⟨f0, f1⟩ := faultB HX10.out.ff
    obtain ⟨q0, q1, q2, q3⟩ := Blk.cells4 HX10.out.fs
    go_wp2_with fail
    refine (HTx.out _ HX10.out.tab).mono ?_
    rintro e w11 ⟨rfl, hb11⟩
    have HX11 := hid (HX10.out.step hb11)
    clear hb11 HX10 q0 q1 q2 q3 f0 f1
    go_wp2
    go_ret
    exact ⟨by simp, HX11.out.bel⟩
  · rw [parse_textL h0 (by omega)] at hp8
    obtain ⟨x, rfl, hrx⟩ := hp8
    have HXi := hid (show x.k = 2 ∧ x.s = a from ⟨hrx.inv.1, hrx.inv.2.1⟩)
    have HSx := hid (rx_size x)
    have HOx := hid (rx_one x)
    clear hrx hl h0
    unfold RV.val
    obtain ⟨hbx, hx9, hf9⟩ := box_pf w8 x 0 0
    have HX9 := hid (show Hy w a w8.heap.size x 0 0 _ from ⟨HB8.out.1.trans (hbx.mono HB8.out.1.size), HB8.out.2.1.keep hbx, HB8.out.2.2.keep hbx, hx9, hf9⟩)
    clear hbx hx9 hf9 HB8
    go_upto_region 7 with (first
      | (refine wpList_store_row rfl 27 _ _ rfl w8.heap.size (x.cells.toArray) ?_ ?_ 27 #[.int .i64 0, .int .u64 0, .int .u64 0, .int .u64 0, .int .u64 0, .slice none 0 0, .int .i64 0, .int .i64 0] ((Below.heap_alloc _ _ _ (by simp)).trans (heap_alloc_new w8 _)) HSx.out ?_ HOx.out ?_; exact rfl; exact rfl; exact rfl)
      | (refine wpList_store_row rfl 30 _ _ rfl (w8.heap.size + 1) (faultC 0 0) ?_ ?_ 30 #[.int .i64 0, .int .i64 0] (pf_mid w8 _) (fault_size 0 0) ?_ (fault_one 0 0) ?_; exact rfl; exact rfl; exact rfl; generalize (((w8.alloc (.cells #[.int .i64 0, .int .u64 0, .int .u64 0, .int .u64 0, .int .u64 0, .slice none 0 0, .int .i64 0, .int .i64 0] 27)).alloc (.cells #[.int .i64 0, .int .i64 0] 30)).setRow w8.heap.size x.cells.toArray).setRow (w8.heap.size + 1) (faultC 0 0) = w9 at *))
    obtain ⟨k, s, A2, n2, cp2, lo2, hi2⟩ := x
    obtain ⟨hxk, hxs⟩ := HXi.out
    clear HXi
    simp only at hxk hxs
    obtain rfl := hxk
    obtain rfl := hxs
    obtain ⟨q0, q1, q2, q3⟩ := Blk.cells4 HX9.out.fs
    go_wp2_with fail
    refine (HE.out _).mono ?_
    rintro e w10 ⟨rfl, hb10⟩
    have HX10 := hid (HX9.out.step hb10)
    clear hb10 HX9 q0 q1 q2 q3
    obtain ⟨f0, y0, y1, y2, y3, y4⟩ := HX10.out.cells
    obtain ⟨q0, q1, q2, q3⟩ := Blk.cells4 HX10.out.fs
    have hq := fun W => run_neArr s s W
    rw [decide_eq_true rfl] at hq
    have had1 := fun W => run_strAdd [91, 94] (nameL c) (by simp; omega) W
    have had2 := fun W => run_strAdd ([91, 94] ++ nameL c) [93] (by simp; omega) W
    have HPx := hid (parse_not c hc)
    simp only [List.cons_append, List.nil_append] at had1 had2 HPx
    go_wp2_with fail
    refine (HN.out _).mono ?_
    rintro e w11 ⟨rfl, hb11⟩
    have HX11 := hid (HX10.out.step hb11)
    clear hb11 HX10 q0 q1 q2 q3 f0 y0 y1 y2 y3 y4 hq
    go_wp2_with fail
    refine (parse_any _ _).mono ?_
    rintro e w12 ⟨hb12, hp12⟩
    rw [show ((ByteArray.mk #[91, 94]) ++ (ByteArray.mk (nameL c).toArray) ++ (ByteArray.mk #[93])).data.toList = 91 :: 94 :: (nameL c ++ [93]) by simp, HPx.out] at hp12
    obtain ⟨x, rfl, hrx⟩ := hp12
    have HXi := hid (show x.k = 2 ∧ x.s = ~~~(bit c) from ⟨hrx.inv.1, hrx.inv.2.1⟩)
    have HSx := hid (rx_size x)
    have HOx := hid (rx_one x)
    have HX12 := hid (HX11.out.step hb12)
    obtain ⟨hbx, hx13, hf13⟩ := box_pf w12 x 0 0
    have HX13 := hid (show Hy w s w12.heap.size x 0 0 _ from ⟨(HX12.out.step hbx).bel, (HX12.out.step hbx).tab, (HX12.out.step hbx).fs, hx13, hf13⟩)
    clear hrx hbx hx13 hf13 HX12 HX11 hb12 had1 had2 HPx
    unfold RV.val
    go_upto_region 14 with (first
      | (refine wpList_store_row rfl 27 _ _ rfl w12.heap.size (x.cells.toArray) ?_ ?_ 27 #[.int .i64 0, .int .u64 0, .int .u64 0, .int .u64 0, .int .u64 0, .slice none 0 0, .int .i64 0, .int .i64 0] ((Below.heap_alloc _ _ _ (by simp)).trans (heap_alloc_new w12 _)) HSx.out ?_ HOx.out ?_; exact rfl; exact rfl; exact rfl)
      | (refine wpList_store_row rfl 30 _ _ rfl (w12.heap.size + 1) (faultC 0 0) ?_ ?_ 30 #[.int .i64 0, .int .i64 0] (pf_mid w12 _) (fault_size 0 0) ?_ (fault_one 0 0) ?_; exact rfl; exact rfl; exact rfl; generalize (((w12.alloc (.cells #[.int .i64 0, .int .u64 0, .int .u64 0, .int .u64 0, .int .u64 0, .slice none 0 0, .int .i64 0, .int .i64 0] 27)).alloc (.cells #[.int .i64 0, .int .i64 0] 30)).setRow w12.heap.size x.cells.toArray).setRow (w12.heap.size + 1) (faultC 0 0) = w13 at *))
    obtain ⟨k, u, A3, n3, cp3, lo3, hi3⟩ := x
    obtain ⟨hxk, hxs⟩ := HXi.out
    clear HXi
    simp only at hxk hxs
    obtain rfl := hxk
    obtain rfl := hxs
    have hd := HX13.out.drew.cells
    have hba : ∀ Y : World, ∀ o : Obj, Below Y.heap.size Y (Y.alloc o) := fun Y o => (Below.refl _ _).alloc (Nat.le_refl _) o
    have hbf : ∀ Y : World, Blk (Y.alloc (.cells #[.int .u8 (c : Int)] 5)) Y.heap.size 5 [.int .u8 (c : Int)] := fun Y => heap_alloc_new Y _
    have hbad : ∀ Y : World, ∀ o : Obj, Below Y.heap.size Y (Y.alloc o).drew := fun Y o => ⟨rfl, rfl, rfl, (hba Y o).size, fun k hk => (hba Y o).block k hk⟩
    have hbfd : ∀ Y : World, Blk (Y.alloc (.cells #[.int .u8 (c : Int)] 5)).drew Y.heap.size 5 [.int .u8 (c : Int)] := fun Y => heap_alloc_new Y _
    have hq := fun W => run_eqArr (~~~(bit c)) (~~~(bit c)) W
    rw [decide_eq_true rfl] at hq
    unfold setV at HNo
    generalize w12.heap.size = b2 at *
    go_region_held3 (fun w' => w'.cell? ⟨b2 + 1, 0, none⟩ = some (.int .i64 0) ∧ w'.cell? ⟨b2, 0, none⟩ = some (.int .i64 2) ∧ w'.cell? ⟨b2, 1, none⟩ = some (.int .u64 ((wd (~~~(bit c)) 0 : Nat) : Int)) ∧ w'.cell? ⟨b2, 2, none⟩ = some (.int .u64 ((wd (~~~(bit c)) 1 : Nat) : Int)) ∧ w'.cell? ⟨b2, 3, none⟩ = some (.int .u64 ((wd (~~~(bit c)) 2 : Nat) : Int)) ∧ w'.cell? ⟨b2, 4, none⟩ = some (.int .u64 ((wd (~~~(bit c)) 3 : Nat) : Int)))
      (first | with_reducible exact hd | exact (HX13.out.step (hba _ _)).cells | exact (HX13.out.drew.step (hba _ _)).cells | assumption)
      (first
        | (go_at_call 14; with_reducible refine (HOf.out _ _ _ (by first | exact hbfd _ | exact hbf _)).mono ?_; rintro e w14 ⟨rfl, hb14⟩; have HX' := hid (show Hy w s b2 ⟨2, ~~~(bit c), A3, n3, cp3, lo3, hi3⟩ 0 0 w14 from (by first | exact HX13.out.step ((hbad _ _).trans (hb14.mono (hba _ _).size)) | exact HX13.out.step ((hba _ _).trans (hb14.mono (hba _ _).size)) | exact HX13.out.drew.step ((hba _ _).trans (hb14.mono (hba _ _).size)))); clear hb14 HX13 hd; have HX13 := HX'; clear HX'; have hd := HX13.out.cells)
        | (go_at_call 17; with_reducible refine (HNo.out _).mono ?_; rintro e w15 ⟨rfl, hb15⟩; have HX' := hid (show Hy w s b2 ⟨2, ~~~(bit c), A3, n3, cp3, lo3, hi3⟩ 0 0 w15 from (by first | exact HX13.out.step hb15 | exact HX13.out.drew.step hb15)); clear hb15 HX13 hd; have HX13 := HX'; clear HX'; have hd := HX13.out.cells))
    go_wp2
    go_ret
    exact ⟨rfl, HX13.out.bel⟩
end Go.Proofs.YtnhpjoknngbkeaaDoor
