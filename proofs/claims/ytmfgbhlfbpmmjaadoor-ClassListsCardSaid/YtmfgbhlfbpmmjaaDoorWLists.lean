/- The law ClassLists, walked. -/
import Derived.Test.YtmfgbhlfbpmmjaaDoorListM
import Derived.Test.YtmfgbhlfbpmmjaaDoorBytes
import Derived.Test.YtmfgbhlfbpmmjaaDoorSets
import Derived.Deep.RegionHeld3
namespace Go.Proofs.YtmfgbhlfbpmmjaaDoor
open Go.RowKit Go.Shelf
attribute [local go_sem] Oper.semAt_some

/-- What stands in the law: a box of a set, the array, the table. -/
structure LSt (w W : World) (b : Nat) (S : BS) (i : Nat) (l : List UInt8) : Prop where
  bel : Below w.heap.size w W
  t0 : TabAt w
  box : w.heap.size ≤ b ∧ Blk W b 26 (setL S)
  arr : w.heap.size ≤ i ∧ Blk W i 28 (inL l)
theorem LSt.tab {w W : World} {b i : Nat} {S : BS} {l : List UInt8} (h : LSt w W b S i l) : TabAt W := h.t0.keep h.bel
theorem LSt.step {w W W' : World} {b i : Nat} {S : BS} {l : List UInt8} (h : LSt w W b S i l) (hb : Below W.heap.size W W') : LSt w W' b S i l :=
  ⟨h.bel.trans (hb.mono h.bel.size), h.t0, ⟨h.box.1, h.box.2.keep hb⟩, ⟨h.arr.1, h.arr.2.keep hb⟩⟩
theorem LSt.stepD {w W W' : World} {b i : Nat} {S : BS} {l : List UInt8} (h : LSt w W b S i l) (hb : Below W.drew.heap.size W.drew W') : LSt w W' b S i l := h.step ⟨hb.os, hb.tape, hb.output, hb.size, hb.block⟩
theorem LSt.drew {w W : World} {b i : Nat} {S : BS} {l : List UInt8} (h : LSt w W b S i l) : LSt w W.drew b S i l := ⟨h.bel.drew, h.t0, h.box, h.arr⟩
theorem LSt.cells {w W : World} {b i : Nat} {S : BS} {l : List UInt8} (h : LSt w W b S i l) (c : Nat) (hc : c < 256) :
    W.cell? ⟨b, 0, none⟩ = some (.int .u64 ((wd S 0 : Nat) : Int)) ∧ W.cell? ⟨b, 1, none⟩ = some (.int .u64 ((wd S 1 : Nat) : Int)) ∧ W.cell? ⟨b, 2, none⟩ = some (.int .u64 ((wd S 2 : Nat) : Int)) ∧ W.cell? ⟨b, 3, none⟩ = some (.int .u64 ((wd S 3 : Nat) : Int)) ∧
    W.cell? ⟨i, c, none⟩ = some (.bool (has (ofL l) c)) :=
  ⟨h.box.2.cells4.1, h.box.2.cells4.2.1, h.box.2.cells4.2.2.1, h.box.2.cells4.2.2.2, (h.arr.2.at c).trans (inL_get l c hc)⟩

theorem RdB.belowD {w w' : World} {A : Option Addr} {n : Nat} {l : List UInt8} (h : RdB w A n l) (hb : Below w.drew.heap.size w.drew w') : RdB w' A n l := h.below ⟨hb.os, hb.tape, hb.output, hb.size, hb.block⟩
theorem LSt.put {w W : World} {b i : Nat} {S : BS} {l : List UInt8} (h : LSt w W b S i l) (hne : b ≠ i) (d : UInt8) : LSt w (W.setCell ⟨i, d.toNat, none⟩ (.bool true)) b S i (l ++ [d]) :=
  ⟨h.bel.setCell (p := ⟨i, d.toNat, none⟩) h.arr.1 _, h.t0, ⟨h.box.1, h.box.2.other (p := ⟨i, d.toNat, none⟩) hne _⟩, ⟨h.arr.1, Blk_cs (h.arr.2.put d.toNat (.bool true)) (inL_set l d)⟩⟩

set_option maxRecDepth 100000 in
set_option maxHeartbeats 4000000 in
theorem lists_any (w : World) (hT : TabAt w) (A : Option Addr) (n c : Nat) (f t : Nat) (hf : f < 256) (ht : t < 256) (l : List UInt8) (hn : n ≤ 300) (hR : RdB w A n l) 
   (HS : Hid (∀ W : World, TabAt W → Calls Tryd.prog 12 #[] W fun e w' => e = .returned (.bool true) ∧ Below W.heap.size W w')) : Calls Tryd.prog 3 #[.slice A n c, .int .u8 f, .int .u8 t] w fun e w' => e = .returned (.bool true) ∧ Below w.heap.size w w' := by
  have HO := hid (fun W (h : RdB W A n l) => of_any (cap := c) h (by omega))
  have HBy : Hid (∀ W : World, TabAt W → Calls Tryd.prog 14 #[setV (ofL l)] W fun e w' => ∃ A c, e = .returned (.slice A (bytesOf (ofL l)).length c) ∧ RdB w' A (bytesOf (ofL l)).length (toB (bytesOf (ofL l))) ∧ Below W.heap.size W w') := hid (fun W hW => (bytes_any (ofL l) hW).mono fun e w' ⟨v, he, ho, hb⟩ => by
    obtain ⟨A, c, rfl⟩ := own_shape ho
    exact ⟨A, c, he, RdB.of_own ho, hb⟩)
  have HL := hid hR.1
  have HTw := hid hT
  have HRw := hid hR
  have HNl := hid (bytesOf_len (ofL l))
  clear hT hR
  refine (callsIn_wide (n := 3)).1 ?_
  refine callsIn_of_wp_marks Tryd.func3 rfl trivial ?_ rfl
  simp only [Tryd.ntmps3, List.size_toArray, List.length_cons, List.length_nil, Nat.reduceAdd, Nat.reduceSub, Array.replicate_succ, Array.replicate_zero, List.push_toArray, List.append_toArray, List.nil_append, List.cons_append]
  refine wpIn_wide.2 ?_
  go_wp2_with fail
  refine (HS.out _ HTw.out).mono ?_
  rintro e w1 ⟨rfl, hb1⟩
  have HR1 := hid (HRw.out.below hb1)
  have HT1 := hid (HTw.out.keep hb1)
  have HB1 := hid hb1
  clear hb1
  go_wp2_with fail
  refine (HO.out _ HR1.out).mono ?_
  rintro e w2 ⟨rfl, hb2⟩
  have HR2 := hid (HR1.out.below hb2)
  have HT2 := hid (HT1.out.keep hb2)
  have HB2 := hid (HB1.out.trans (hb2.mono HB1.out.size))
  clear hb2 HR1 HT1 HB1 HO HS
  obtain ⟨S, hSd⟩ : ∃ S, S = ofL l := ⟨_, rfl⟩
  have HSd := hid hSd
  rw [← hSd] at HBy HNl ⊢
  clear hSd
  have h3 : Below w2.heap.size w2 ((w2.alloc (.cells #[.int .u64 0, .int .u64 0, .int .u64 0, .int .u64 0] 26)).setRow w2.heap.size (setL S).toArray) := below_row ((Below.refl _ _).alloc (Nat.le_refl _) _) (Nat.le_refl _) _
  have hbox : Blk ((w2.alloc (.cells #[.int .u64 0, .int .u64 0, .int .u64 0, .int .u64 0] 26)).setRow w2.heap.size (setL S).toArray) w2.heap.size 26 (setL S) := setRow_heap _ _ _ _ _ (0, 0) (heap_alloc_new w2 _)
  have H3 := hid h3
  have HX := hid hbox
  clear h3 hbox
  go_wp2_with (refine wpList_store_row rfl 26 _ _ rfl w2.heap.size (setL S).toArray ?_ ?_ 26 #[.int .u64 0, .int .u64 0, .int .u64 0, .int .u64 0] (heap_alloc_new w2 _) (set_info _) ?_ (four_one _) ?_; exact rfl; exact rfl; exact rfl; generalize (w2.alloc (.cells #[.int .u64 0, .int .u64 0, .int .u64 0, .int .u64 0] 26)).setRow w2.heap.size (setL S).toArray = w3 at *)
  rw [inL_zero]
  have HSt : Hid (LSt w (w3.alloc (.cells (inL []).toArray 28)) w2.heap.size S w3.heap.size []) := hid (by
    have h4 : Below w3.heap.size w3 (w3.alloc (.cells (inL []).toArray 28)) := (Below.refl _ _).alloc (Nat.le_refl _) _
    have hs3 := H3.out.size
    have hs2 := HB2.out.size
    exact ⟨HB2.out.trans ((H3.out.trans (h4.mono hs3)).mono hs2), HTw.out, ⟨hs2, HX.out.keep h4⟩, ⟨by omega, Blk.fresh w3 _ _⟩⟩)
  have HLT : Hid (w2.heap.size < w3.heap.size) := hid HX.out.lt
  have HW := hid HB2.out.size
  clear HR2 H3 HX HB2 HT2
  generalize hb : w2.heap.size = b at *
  generalize hi : w3.heap.size = i at *
  clear hb hi
  generalize w3.alloc (.cells (inL []).toArray 28) = w4 at *
  have hbi : b ≠ i := by have := HLT.out; omega
  go_loopw [26] (fun v wr => ∃ k : Nat, k ≤ n ∧ v = .int .i64 k ∧ Hid (LSt w wr b S i (l.take k))) (fun v _ => n - (intOf v).toNat)
  case atStart => exact ⟨0, by omega, rfl, by rw [List.take_zero]; exact HSt⟩
  case round =>
    obtain ⟨k, hk, rfl, HSr⟩ := hrel
    clear HSt
    by_cases hlt : k < n
    · obtain ⟨g, o, rfl, hgl, hcell⟩ := (HRw.out.below HSr.out.bel).2 (by omega)
      have hlk : k < l.length := by rw [HL.out]; exact hlt
      have hce : wr.cell? ⟨g, o + k, none⟩ = some (.int .u8 (l[k].toNat : Int)) := hcell k hlk
      clear hcell
      have HP := hid (HSr.out.put hbi l[k])
      rw [← List.take_succ_eq_append_getElem hlk] at HP
      have hc : l[k].toNat < 256 := UInt8.toNat_lt _
      have hco := (HSr.out.arr.2.at l[k].toNat).trans (inL_get _ _ hc)
      have hfr := HSr.out.arr.2.free l[k].toNat
      generalize has (ofL (l.take k)) l[k].toNat = x at hco
      generalize l[k].toNat = d at *
      go_wp2
      go_roundw
      case rel => exact ⟨k + 1, by omega, by go_num, HP⟩
      case measure => simp [intOf]; omega
    · obtain rfl : k = n := by omega
      have HE := hid (show l.take k = l from List.take_of_length_le (by rw [HL.out]; exact Nat.le_refl _))
      rw [HE.out] at HSr
      obtain ⟨wo, rfl⟩ : ∃ wo : World, wo = wr := ⟨_, rfl⟩
      obtain ⟨hc0, hc1, hc2, hc3⟩ := HSr.out.box.2.cells4
      unfold setV at HBy
      go_wp2_with fail
      refine (HBy.out _ HSr.out.tab).mono ?_
      rintro e w5 ⟨A5, c5, rfl, hR5, hb5⟩
      have HSt := hid (HSr.out.step hb5)
      have HR5 := hid hR5
      have hs5 := hb5.size
      clear hc0 hc1 hc2 hc3 hR5 hb5 HSr HBy
      generalize hm : (bytesOf S).length = m at *
      have HM := hid hm
      have hml := HNl.out
      clear hm
      go_wp2_with fail
      go_loopw [12, 35] (fun u v wr => ∃ c : Nat, c ≤ 256 ∧ v = .int .i64 c ∧ u = .int .i64 (cntB S c : Nat) ∧ Hid (LSt w wr b S i l) ∧ Hid (RdB wr A5 m (toB (bytesOf S)))) (fun _ v _ => 256 - (intOf v).toNat)
      case atStart => exact ⟨0, by omega, rfl, rfl, HSt, HR5⟩
      case round =>
        obtain ⟨c, hc, rfl, rfl, HSr, HRr⟩ := hrel
        clear HSt HR5
        by_cases hlt : c < 256
        · have hk := HSr.out.cells c hlt
          rw [← HSd.out] at hk
          have HH := hid (fun W => has_any S c hlt W)
          have hwr : IntKind.u8.wrap (c : Int) = (c : Int) := wraps_u8 (c : Int) (by omega) (by omega)
          have hcl := cntB_le S c
          unfold setV at HH
          cases hx : has S c with
          | true =>
            have HX := hid hx
            rw [hx] at hk HH
            have hlt2 := cntB_lt S c hlt hx
            rw [HM.out] at hlt2
            have HCE : Hid (∀ W : World, RdB W A5 m (toB (bytesOf S)) → ∃ g o, A5 = some ⟨g, o, none⟩ ∧ W.cell? ⟨g, o + cntB S c, none⟩ = some (.int .u8 (c : Int))) := hid (by
              intro W hW
              obtain ⟨g, o, hA5, hgl, hcell⟩ := hW.2 (by omega)
              have hce := hcell (cntB S c) (by rw [toB_len, HM.out]; exact hlt2)
              have hge : (toB (bytesOf S))[cntB S c]'(by rw [toB_len, HM.out]; exact hlt2) = c.toUInt8 := by
                have := cntB_get S c hlt hx
                rw [List.getElem?_eq_some_iff] at this
                obtain ⟨h1, h2⟩ := this
                simp [toB, h2]
              rw [hge, show (c.toUInt8.toNat : Nat) = c by simp; omega] at hce
              exact ⟨g, o, hA5, hce⟩)
            have HC1 := hid (cntB_yes S c hx)
            clear hx
            generalize hq : cntB S c = q at *
            clear hq
            go_wp2_with fail
            go_region_held3 (fun w' => w'.cell? ⟨b, 0, none⟩ = some (.int .u64 ((wd S 0 : Nat) : Int)) ∧ w'.cell? ⟨b, 1, none⟩ = some (.int .u64 ((wd S 1 : Nat) : Int)) ∧ w'.cell? ⟨b, 2, none⟩ = some (.int .u64 ((wd S 2 : Nat) : Int)) ∧ w'.cell? ⟨b, 3, none⟩ = some (.int .u64 ((wd S 3 : Nat) : Int)) ∧ w'.cell? ⟨i, c, none⟩ = some (.bool true))
              (first | exact hk | assumption)
              (first | (go_at_call 15; with_reducible refine (HH.out _).mono ?_; rintro e w6 ⟨rfl, hb6⟩; have HB' : Hid (LSt w w6 b S i l) := (by first | exact hid (HSr.out.step hb6) | exact hid (HSr.out.stepD hb6)); have HR' : Hid (RdB w6 A5 m (toB (bytesOf S))) := (by first | exact hid (HRr.out.below hb6) | exact hid (HRr.out.belowD hb6)); clear hb6 HSr HRr; have HSr := HB'; have HRr := HR'; clear HB' HR'; have hk := HSr.out.cells c hlt; rw [← HSd.out, HX.out] at hk))
            obtain ⟨g, o, rfl, hce⟩ := HCE.out _ HRr.out
            go_wp2
            go_roundw
            case rel => exact ⟨c + 1, by omega, by go_num, by rw [HC1.out]; go_num, HSr, HRr⟩
            case measure => first | (simp [intOf]; done) | (simp [intOf]; omega)
          | false =>
            rw [hx] at hk HH
            have HX := hid hx
            have HC1 := hid (cntB_no S c hx)
            clear hx
            generalize hq : cntB S c = q at *
            clear hq
            go_wp2_with fail
            go_region_held3 (fun w' => w'.cell? ⟨b, 0, none⟩ = some (.int .u64 ((wd S 0 : Nat) : Int)) ∧ w'.cell? ⟨b, 1, none⟩ = some (.int .u64 ((wd S 1 : Nat) : Int)) ∧ w'.cell? ⟨b, 2, none⟩ = some (.int .u64 ((wd S 2 : Nat) : Int)) ∧ w'.cell? ⟨b, 3, none⟩ = some (.int .u64 ((wd S 3 : Nat) : Int)) ∧ w'.cell? ⟨i, c, none⟩ = some (.bool false))
              (first | exact hk | assumption)
              (first | (go_at_call 15; with_reducible refine (HH.out _).mono ?_; rintro e w6 ⟨rfl, hb6⟩; have HB' : Hid (LSt w w6 b S i l) := (by first | exact hid (HSr.out.step hb6) | exact hid (HSr.out.stepD hb6)); have HR' : Hid (RdB w6 A5 m (toB (bytesOf S))) := (by first | exact hid (HRr.out.below hb6) | exact hid (HRr.out.belowD hb6)); clear hb6 HSr HRr; have HSr := HB'; have HRr := HR'; clear HB' HR'; have hk := HSr.out.cells c hlt; rw [← HSd.out, HX.out] at hk))
            go_wp2
            go_roundw
            case rel => exact ⟨c + 1, by omega, by go_num, by rw [HC1.out], HSr, HRr⟩
            case measure => first | (simp [intOf]; done) | (simp [intOf]; omega)
        · obtain rfl : c = 256 := by omega
          have HCA : Hid (cntB S 256 = m) := hid (by rw [cntB_all]; exact HM.out)
          rw [HCA.out]
          have hrg := fun (d : Nat) => has_rng f t d hf ht
          have HG := hid (fun W => range_any f t hf ht W)
          generalize hrd : rng f t = r at *
          clear hrd
          have HRG := hid hrg
          clear hrg
          obtain ⟨wq, rfl⟩ : ∃ wq : World, wq = wr := ⟨_, rfl⟩
          go_wp2_with fail
          refine (HG.out _).mono ?_
          rintro e w6 ⟨rfl, hb6⟩
          have HS6 := hid (HSr.out.step hb6)
          clear hb6 HSr HRr HG
          have h7 : Below w6.heap.size w6 ((w6.alloc (.cells #[.int .u64 0, .int .u64 0, .int .u64 0, .int .u64 0] 26)).setRow w6.heap.size (setL r).toArray) := below_row ((Below.refl _ _).alloc (Nat.le_refl _) _) (Nat.le_refl _) _
          have hbox : Blk ((w6.alloc (.cells #[.int .u64 0, .int .u64 0, .int .u64 0, .int .u64 0] 26)).setRow w6.heap.size (setL r).toArray) w6.heap.size 26 (setL r) := setRow_heap _ _ _ _ _ (0, 0) (heap_alloc_new w6 _)
          have H7 := hid h7
          have HX := hid hbox
          clear h7 hbox
          go_wp2_with (refine wpList_store_row rfl 26 _ _ rfl w6.heap.size (setL r).toArray ?_ ?_ 26 #[.int .u64 0, .int .u64 0, .int .u64 0, .int .u64 0] (heap_alloc_new w6 _) (set_info _) ?_ (four_one _) ?_; exact rfl; exact rfl; exact rfl; generalize (w6.alloc (.cells #[.int .u64 0, .int .u64 0, .int .u64 0, .int .u64 0] 26)).setRow w6.heap.size (setL r).toArray = w7 at *)
          have HS7 := hid (HS6.out.step H7.out)
          have HQ : Hid (w.heap.size ≤ w6.heap.size ∧ Blk w7 w6.heap.size 26 (setL r)) := hid ⟨HS6.out.bel.size, HX.out⟩
          clear HS6 H7 HX
          generalize w6.heap.size = b6 at *
          go_loopw [68] (fun v wr => ∃ d : Nat, d ≤ 256 ∧ v = .int .i64 d ∧ Hid (LSt w wr b S i l) ∧ Hid (w.heap.size ≤ b6 ∧ Blk wr b6 26 (setL r))) (fun v _ => 256 - (intOf v).toNat)
          case atStart => exact ⟨0, by omega, rfl, HS7, HQ⟩
          case round =>
            obtain ⟨d, hd, rfl, HSr, HQr⟩ := hrel
            clear HS7 HQ
            by_cases hld : d < 256
            · have HH := hid (fun W => has_any r d hld W)
              rw [HRG.out d] at HH
              have hwr : IntKind.u8.wrap (d : Int) = (d : Int) := wraps_u8 (d : Int) (by omega) (by omega)
              unfold setV at HH
              obtain ⟨hc0, hc1, hc2, hc3⟩ := HQr.out.2.cells4
              by_cases h1 : f ≤ d
              · by_cases h2 : d ≤ t
                · rw [decide_eq_true h1, decide_eq_true h2] at HH
                  go_wp2_with (go_at_call 15; with_reducible refine (HH.out _).mono ?_; rintro e w8 ⟨rfl, hb8⟩; have HB' := hid (HSr.out.step hb8); have HQ' := hid (And.intro HQr.out.1 (HQr.out.2.keep hb8)); clear hb8)
                  go_roundw
                  case rel => exact ⟨d + 1, by omega, by go_num, HB', HQ'⟩
                  case measure => first | (simp [intOf]; done) | (simp [intOf]; omega)
                · rw [decide_eq_true h1, decide_eq_false h2] at HH
                  go_wp2_with (go_at_call 15; with_reducible refine (HH.out _).mono ?_; rintro e w8 ⟨rfl, hb8⟩; have HB' := hid (HSr.out.step hb8); have HQ' := hid (And.intro HQr.out.1 (HQr.out.2.keep hb8)); clear hb8)
                  go_roundw
                  case rel => exact ⟨d + 1, by omega, by go_num, HB', HQ'⟩
                  case measure => first | (simp [intOf]; done) | (simp [intOf]; omega)
              · rw [decide_eq_false h1, Bool.false_and] at HH
                go_wp2_with (go_at_call 15; with_reducible refine (HH.out _).mono ?_; rintro e w8 ⟨rfl, hb8⟩; have HB' := hid (HSr.out.step hb8); have HQ' := hid (And.intro HQr.out.1 (HQr.out.2.keep hb8)); clear hb8)
                go_roundw
                case rel => exact ⟨d + 1, by omega, by go_num, HB', HQ'⟩
                case measure => first | (simp [intOf]; done) | (simp [intOf]; omega)
            · obtain rfl : d = 256 := by omega
              clear HQr HRG hd hc
              obtain ⟨wp, rfl⟩ : ∃ wp : World, wp = wr := ⟨_, rfl⟩
              have hal : Below wp.heap.size wp (wp.alloc (.cells #[.int .i64 0] 3)) := (Below.refl _ _).alloc (Nat.le_refl _) _
              have HS9 := hid (HSr.out.step hal)
              have HST := hid (Blk.fresh wp 3 [.int .i64 0])
              have hsw := HSr.out.bel.size
              clear hal HSr
              obtain ⟨hc0, hc1, hc2, hc3⟩ := HS9.out.box.2.cells4
              go_wp2_with fail
              have HMm := hid hml
              have HSW := hid hsw
              have hgs : wp.heap.size < (wp.alloc (.cells #[.int .i64 0] 3)).heap.size := by simp
              have hTs : 0 < (wp.alloc (.cells #[.int .i64 0] 3)).heap.size := Nat.lt_of_lt_of_le HTw.out.lt HS9.out.bel.size
              have hBs : w.heap.size ≤ (wp.alloc (.cells #[.int .i64 0] 3)).heap.size := HS9.out.bel.size
              clear hsw hml hn hk hc0 hc1 hc2 hc3 hbi
              refine (wpIn_wide (n := 3)).1 ?_
              refine range_each2 S rfl rfl
                (fun pre W => pre.length ≤ 1 ∧ Blk W wp.heap.size 3 [.int .i64 (pre.length : Nat)] ∧ TabAt W ∧ Below w.heap.size w W)
                (fun cc pre W => (cc = .exit 6 ∧ pre.length = 2) ∧ Blk W wp.heap.size 3 [.int .i64 2] ∧ Below w.heap.size w W)
                (Own2.and (own2_of own_pure) (Own2.and (own2_of (own_blk hgs _)) (Own2.and (own2_of (own_tab hTs)) (own2_of (ownFrom_below (Nat.le_refl _) hBs)))))
                (fun cc => Own2.and (own2_of own_pure) (Own2.and (own2_of (own_blk hgs _)) (own2_of (ownFrom_below (Nat.le_refl _) hBs))))
                ⟨by simp, HST.out, HS9.out.tab, HS9.out.bel⟩ (fun _ _ h => h.2.2.1)
                (fun x => { tmps := #[Value.slice A k c, Value.int IntKind.u8 (f : Int), Value.int IntKind.u8 (t : Int), undef, undef, undef, u6, Value.pointer (some { block := b, off := 0 }), Value.pointer (some { block := i, off := 0 }), undef, u10, Value.slice A5 m c5, Value.int IntKind.i64 (m : Int), u13, Value.pointer (some { block := b6, off := 0 }), u15, Value.pointer (some { block := wp.heap.size, off := 0 }), Value.bool true, Value.bool false, Value.slice A k c, Value.int IntKind.i64 (k : Int), Value.bool (decide (300 < (k : Int))), Value.slice A k c, setV S, Value.slice A k c, Value.int IntKind.i64 (k : Int), Value.int IntKind.i64 (k : Int), Value.bool false, u28, u29, u30, u31, u32, Value.agg #[Value.int IntKind.u64 ((wd S 0 : Nat) : Int), Value.int IntKind.u64 ((wd S 1 : Nat) : Int), Value.int IntKind.u64 ((wd S 2 : Nat) : Int), Value.int IntKind.u64 ((wd S 3 : Nat) : Int)], Value.slice A5 m c5, Value.int IntKind.i64 256, Value.bool false, u37, u38, u39, u40, u41, u42, u43, u44, u45, u46, u47, u48, u49, u50, u51, u52, u53, u54, u55, u56, u57, u58, u59, u60, u61, u62, u63, u64, Value.int IntKind.u8 (f : Int), Value.int IntKind.u8 (t : Int), setV r, Value.int IntKind.i64 ((256 : Nat) : Int), Value.bool false, u70, u71, u72, u73, u74, u75, u76, u77, u78, u79, u80, u81, u82, u83, u84, u85, u86, Value.agg #[Value.int IntKind.u64 ((wd S 0 : Nat) : Int), Value.int IntKind.u64 ((wd S 1 : Nat) : Int), Value.int IntKind.u64 ((wd S 2 : Nat) : Int), Value.int IntKind.u64 ((wd S 3 : Nat) : Int)], Value.func (Fn.func 17) #[Value.agg #[Value.int IntKind.u64 ((wd S 0 : Nat) : Int), Value.int IntKind.u64 ((wd S 1 : Nat) : Int), Value.int IntKind.u64 ((wd S 2 : Nat) : Int), Value.int IntKind.u64 ((wd S 3 : Nat) : Int)]] #[], Value.int .u8 (x : Int), undef, undef, undef, undef, undef, undef, undef, undef, undef, undef, undef, undef, undef, undef, undef], defers := [] }) ?assign ?body ?done ?stop
              case assign =>
                intro l x W K hK
                gi_wp2
                exact hK
              case body =>
                rintro l pre x post W ⟨h1, h2, h3, h4⟩ hpre
                have h01 : pre.length = 0 ∨ pre.length = 1 := by omega
                rcases h01 with h0 | h0
                · rw [h0] at h2
                  have hx0 : W.cell? ⟨wp.heap.size, 0, none⟩ = some (.int .i64 0) := h2.at 0
                  have hx1 := h2.free 0
                  have hS6 := hid (h2.put 0 (.int .i64 1))
                  have hS3 := hid (h4.setCell (p := ⟨wp.heap.size, 0, none⟩) HSW.out (.int .i64 1))
                  have hS4 := hid ((KeepsOthers.setCell W ⟨wp.heap.size, 0, none⟩ (.int .i64 1)).from (wp.alloc (.cells #[.int .i64 0] 3)).heap.size)
                  have hS5 := hid (HTw.out.keep hS3.out)
                  have HL0 := hid h0
                  clear h2 h4 hpre h3 h0 h1
                  gi_wp2
                  exact ⟨hS4.out, trivial, by simp [HL0.out], by simpa [HL0.out] using hS6.out, hS5.out, hS3.out⟩
                · rw [h0] at h2
                  have hx0 : W.cell? ⟨wp.heap.size, 0, none⟩ = some (.int .i64 1) := h2.at 0
                  have hx1 := h2.free 0
                  have hS6 := hid (h2.put 0 (.int .i64 2))
                  have hS3 := hid (h4.setCell (p := ⟨wp.heap.size, 0, none⟩) HSW.out (.int .i64 2))
                  have hS4 := hid ((KeepsOthers.setCell W ⟨wp.heap.size, 0, none⟩ (.int .i64 2)).from (wp.alloc (.cells #[.int .i64 0] 3)).heap.size)
                  have hS5 := hid (HTw.out.keep hS3.out)
                  have HL0 := hid h0
                  clear h2 h4 hpre h3 h0 h1
                  gi_wp2
                  exact ⟨hS4.out, ⟨rfl, by simp [HL0.out]⟩, by simpa using hS6.out, hS3.out⟩
              case done =>
                rintro D W hD ⟨h1, h2, h3, h4⟩ hK
                rw [HM.out] at h1 h2
                have hx0 := h2.at 0
                have HK := hid hK
                have HB := hid (below_putD h4 (Nat.le_trans hBs hD) hK (.deferred none))
                clear hK h4 h3
                gi_wp2
                go_wp2
                refine ⟨by simp, .inl ⟨_, _, rfl, run_takeDeferred HK.out, ?_⟩⟩
                exact ⟨_, results_tmp rfl _ _ _, (by show Ending.returned (.bool ((m : Int) == min 2 (m : Int))) = _; rw [show min 2 (m : Int) = m by omega]; simp), HB.out⟩
              case stop =>
                rintro D cc pre x post W hD hpre ⟨⟨rfl, h1⟩, h2, h4⟩ hK
                have hm2 : 2 ≤ m := by
                  rw [← HM.out, hpre]
                  simp at h1 ⊢
                  omega
                have hx0 := h2.at 0
                have HK := hid hK
                have HB := hid (below_putD h4 (Nat.le_trans hBs hD) hK (.deferred none))
                clear hK h4 hpre
                gi_wp2
                go_wp2
                refine ⟨by simp, .inl ⟨_, _, rfl, run_takeDeferred HK.out, ?_⟩⟩
                exact ⟨_, results_tmp rfl _ _ _, (by show Ending.returned (.bool ((2 : Int) == min 2 (m : Int))) = _; rw [show min 2 (m : Int) = 2 by omega]; rfl), HB.out⟩

theorem lists_long (w : World) (hT : TabAt w) (A : Option Addr) (n c : Nat) (f t : Nat) (hn : 300 < n) (hn2 : n ≤ 9223372036854775807) : Calls Tryd.prog 3 #[.slice A n c, .int .u8 f, .int .u8 t] w fun e w' => e = .returned (.bool true) ∧ Below w.heap.size w w' := by
  have HS : Hid (∀ W : World, TabAt W → Calls Tryd.prog 12 #[] W fun e w' => e = .returned (.bool true) ∧ Below W.heap.size W w') := hid (fun W hW => sets_any hW)
  have HT := hid hT
  clear hT
  go_enter Tryd.func3, Tryd.ntmps3
  go_wp2_with fail
  refine (HS.out _ HT.out).mono ?_
  rintro e w1 ⟨rfl, hb1⟩
  have HB := hid hb1
  clear hb1
  go_wp2_with fail
  go_ret
  exact ⟨rfl, HB.out⟩
/-- The law. -/
theorem lists_walk (A : Option Addr) (n c : Nat) (l : List UInt8) (hn2 : n ≤ 9223372036854775807) {w : World} (hR : RdB w A n l) (f : Nat) (hf : f < 256) (t : Nat) (ht : t < 256) (hT : TabAt w) : Calls Tryd.prog 3 #[.slice A n c, .int .u8 f, .int .u8 t] w fun e w' => e = .returned (.bool true) ∧ Below w.heap.size w w' := by
  by_cases hn : n ≤ 300
  · exact lists_any w hT A n c f t hf ht l hn hR (hid fun W hW => sets_any hW)
  · exact lists_long w hT A n c f t (by omega) hn2
end Go.Proofs.YtmfgbhlfbpmmjaaDoor
