/- nfa: the law's head. -/
import Derived.Test.YtoiegkejkahfgaaDoorNfX
import Derived.Test.YtoiegkejkahfgaaDoorNfV
import Derived.Test.YtoiegkejkahfgaaDoorNfK
import Derived.Test.YtoiegkejkahfgaaDoorRpa
import Derived.Lib.SlBytesConst
import Derived.Laws.Rows
namespace Go.Proofs.YtoiegkejkahfgaaDoor
set_option linter.unusedSimpArgs false
set_option linter.unusedVariables false
open Go.RowKit

theorem pf_mid (W : World) (cs : Array Value) : (((W.alloc (.cells #[.int .i64 0, .int .u64 0, .int .u64 0, .int .u64 0, .int .u64 0, .slice none 0 0, .int .i64 0, .int .i64 0] 26)).alloc (.cells #[.int .i64 0, .int .i64 0] 49)).setRow W.heap.size cs).heap[W.heap.size + 1]? = some (.cells #[.int .i64 0, .int .i64 0] 49) := by
  have h := heap_alloc_new (W.alloc (.cells #[.int .i64 0, .int .u64 0, .int .u64 0, .int .u64 0, .int .u64 0, .slice none 0 0, .int .i64 0, .int .i64 0] 26)) (.cells #[.int .i64 0, .int .i64 0] 49)
  rw [World.size_alloc] at h
  exact (setRow_other _ _ _ _ (by omega)).trans h
/-- 'x, f := Parse(..)': the two new variables. -/
theorem box_pf (W : World) (v : RV) (c p : Int) : Below W.heap.size W ((((W.alloc (.cells #[.int .i64 0, .int .u64 0, .int .u64 0, .int .u64 0, .int .u64 0, .slice none 0 0, .int .i64 0, .int .i64 0] 26)).alloc (.cells #[.int .i64 0, .int .i64 0] 49)).setRow W.heap.size v.cells.toArray).setRow (W.heap.size + 1) (faultC c p)) ∧ Blk ((((W.alloc (.cells #[.int .i64 0, .int .u64 0, .int .u64 0, .int .u64 0, .int .u64 0, .slice none 0 0, .int .i64 0, .int .i64 0] 26)).alloc (.cells #[.int .i64 0, .int .i64 0] 49)).setRow W.heap.size v.cells.toArray).setRow (W.heap.size + 1) (faultC c p)) W.heap.size 26 v.cells ∧ Blk ((((W.alloc (.cells #[.int .i64 0, .int .u64 0, .int .u64 0, .int .u64 0, .int .u64 0, .slice none 0 0, .int .i64 0, .int .i64 0] 26)).alloc (.cells #[.int .i64 0, .int .i64 0] 49)).setRow W.heap.size v.cells.toArray).setRow (W.heap.size + 1) (faultC c p)) (W.heap.size + 1) 49 (faultC c p).toList := by
  refine ⟨below_row (below_row (below_alloc2 _ _) (Nat.le_refl _) _) (Nat.le_succ _) _, ?_, setRow_heap _ _ _ _ _ (0, 0) (pf_mid W _)⟩
  exact (setRow_other _ _ _ _ (by omega)).trans (setRow_heap _ _ _ _ _ (0, 0) ((Below.heap_alloc _ _ _ (by simp)).trans (heap_alloc_new W _)))
theorem faultB {W : World} {b : Nat} {c p : Int} (h : Blk W b 49 (faultC c p).toList) : W.cell? ⟨b, 0, none⟩ = some (.int .i64 c) ∧ W.cell? ⟨b, 1, none⟩ = some (.int .i64 p) := ⟨h.at 0, h.at 1⟩

def rnL : List UInt8 := [97, 123, 50, 44, 125, 98, 63]
def rnT : RT := .nd 3 (0#256) [.nd 5 (0#256) [.nd 2 (bit 97) [] 0 0] 2 (-1), .nd 5 (0#256) [.nd 2 (bit 98) [] 0 0] 0 1] 0 0
theorem rn_parse : pParse rnL = .ok rnT := by kernel_rfl
theorem rn_wg : wgT rnT = 0 := by kernel_rfl
theorem rn_ad : adT rnT = 8 := by kernel_rfl
theorem rn_sz : szT rnT = 5 := by kernel_rfl
theorem rn_len : (autE rnT).length = 9 := by kernel_rfl
theorem rn_tot : totE (autE rnT) = 10 := by kernel_rfl
theorem rn_sets : (setsE (autE rnT) []).length = 2 := by kernel_rfl
theorem rn_m1 : matchP (autE rnT) (autF rnT) [97, 97, 97, 98] = true := by kernel_rfl
theorem rn_m2 : matchP (autE rnT) (autF rnT) [97, 98] = false := by kernel_rfl
theorem rn_m3 : matchP (autE rnT) (autF rnT) [97, 97] = true := by kernel_rfl
theorem rows_tot {E : EG} {n : Nat} (h : totE E ≤ n) : ∀ s, (E.getD s []).length ≤ n := fun s => Nat.le_trans (tot_row E s) h
/-- What the head holds. -/
structure RnH (w : World) (g : Nat) (A : Option Addr) (c : Nat) (E : EG) (q : Nat) (W : World) : Prop where
  bel : Below w.heap.size w W
  au : AuV W A c E
  bx : Blk W g 33 [.slice A E.length c, .int .i64 (q : Int)]
theorem RnH.step {w W W' : World} {g : Nat} {A : Option Addr} {c : Nat} {E : EG} {q : Nat} (h : RnH w g A c E q W) (hb : Below W.heap.size W W') : RnH w g A c E q W' := ⟨h.bel.trans (hb.mono h.bel.size), h.au.keep hb, h.bx.keep hb⟩
theorem RnH.cells {w W : World} {g : Nat} {A : Option Addr} {c : Nat} {E : EG} {q : Nat} (h : RnH w g A c E q W) : W.cell? ⟨g, 0, none⟩ = some (.slice A E.length c) ∧ W.cell? ⟨g, 1, none⟩ = some (.int .i64 (q : Int)) := ⟨h.bx.at 0, h.bx.at 1⟩
theorem bl_new (W : World) (l : List Nat) (fr : Nat × Nat) : BL (W.alloc (.cells (l.map fun (x : Nat) => Value.int .u8 (x : Int)).toArray 5 fr)) (some ⟨W.heap.size, 0, none⟩) l := fun _ => by
  have hB := heap_alloc_new W (.cells (l.map fun (x : Nat) => Value.int .u8 (x : Int)).toArray 5 fr)
  refine ⟨W.heap.size, 0, rfl, (Array.getElem?_eq_some_iff.1 hB).1, fun j hj => ?_⟩
  rw [Nat.zero_add, cell_of_row _ _ _ _ _ _ hB, List.getElem?_toArray, List.getElem?_map, List.getElem?_eq_getElem hj]
  rfl
theorem match_new {w W : World} {g : Nat} {A : Option Addr} {c : Nat} {E : EG} {q : Nat} (h : RnH w g A c E q W) (hE : E.length ≤ 5000) (hE2 : ∀ s, (E.getD s []).length ≤ 100000) (l : List Nat) (hl : ∀ x ∈ l, x < 256) (hn : l.length ≤ 100000) (b : Bool) (hm : matchP E q l = b) : Calls Tryd.prog 15 #[.agg #[.slice A E.length c, .int .i64 (q : Int)], .slice (some ⟨W.heap.size, 0, none⟩) l.length l.length] (W.alloc (.cells (l.map fun (x : Nat) => Value.int .u8 (x : Int)).toArray 5 (l.length, l.length + 1))) fun e w' => e = .returned (.bool b) ∧ RnH w g A c E q w' := by
  have hal := al_belowN W (.cells (l.map fun (x : Nat) => Value.int .u8 (x : Int)).toArray 5 (l.length, l.length + 1))
  refine (match_any q ((h.step hal).au) hE hE2 _ l.length l (bl_new W l _) hl hn).mono ?_
  rintro e w' ⟨rfl, hb⟩
  exact ⟨by rw [hm], (h.step hal).step hb⟩
theorem run_cvB (W : World) (C : Array Value) (n : Nat) : (convert 27 27 (.slice (some ⟨W.heap.size, 0, none⟩) n n)).run Tryd.prog (W.alloc (.cells C 5)) = .ok (.slice (some ⟨W.heap.size, 0, none⟩) n n) (W.alloc (.cells C 5 (C.size, C.size + 1))) := Go.Lib.run_convert_bytes_const W _ _ C n n Tryd.underlying27 Tryd.underlying5
set_option maxRecDepth 100000 in
set_option maxHeartbeats 4000000 in
theorem runs_any (w : World) : Calls Tryd.prog 4 #[] w fun e w' => e = .returned (.bool true) ∧ Below w.heap.size w w' := by
  have HP1 := hid (fun W => parse_any ⟨rnL.toArray⟩ W)
  unfold rnL at HP1
  go_enter Tryd.func4, Tryd.ntmps4
  go_wp2_with fail
  refine (HP1.out _).mono ?_
  rintro e w1 ⟨hb1, hp1⟩
  rw [show pParse ([97, 123, 50, 44, 125, 98, 63] : List UInt8) = .ok rnT from rn_parse] at hp1
  obtain ⟨v1, rfl, hrep1⟩ := hp1
  have HB1 := hid hb1
  have HSz := hid (rx_size v1)
  have HOne := hid (rx_one v1)
  obtain ⟨hbx, hv1, hf1⟩ := box_pf w1 v1 0 0
  have HB2 := hid (hb1.trans (hbx.mono hb1.size))
  have HV1 := hid hv1
  have HF1 := hid hf1
  have HR1 := hid (hrep1.keep hbx)
  clear hb1 hbx hv1 hf1 hrep1 HP1
  unfold RV.val
  go_upto_region 2 with (first
    | (refine wpList_store_row rfl 26 _ _ rfl w1.heap.size (v1.cells.toArray) ?_ ?_ 26 #[.int .i64 0, .int .u64 0, .int .u64 0, .int .u64 0, .int .u64 0, .slice none 0 0, .int .i64 0, .int .i64 0] ((Below.heap_alloc _ _ _ (by simp)).trans (heap_alloc_new w1 _)) HSz.out ?_ HOne.out ?_; exact rfl; exact rfl; exact rfl)
    | (refine wpList_store_row rfl 49 _ _ rfl (w1.heap.size + 1) (faultC 0 0) ?_ ?_ 49 #[.int .i64 0, .int .i64 0] (pf_mid w1 _) (fault_size 0 0) ?_ (fault_one 0 0) ?_; exact rfl; exact rfl; exact rfl; generalize (((w1.alloc (.cells #[.int .i64 0, .int .u64 0, .int .u64 0, .int .u64 0, .int .u64 0, .slice none 0 0, .int .i64 0, .int .i64 0] 26)).alloc (.cells #[.int .i64 0, .int .i64 0] 49)).setRow w1.heap.size v1.cells.toArray).setRow (w1.heap.size + 1) (faultC 0 0) = w2 at *))

  have HMk := hid (make_any v1 rnT w2 (· < w2.heap.size) (HR1.out.mono (Nat.le_refl _) (fun _ _ _ => rfl) (fun _ _ h => h)) (fun _ h => h) (by rw [rn_sz]; omega))
  clear HR1 HB1
  obtain ⟨x0, x1, x2, x3, x4, x5, x6, x7⟩ := Blk.cells8' (v := v1) HV1.out
  unfold RV.val at HMk
  go_upto_region 3 with (first
    | (go_at_call 6; refine HMk.out.mono ?_; rintro e w3 ⟨hb3, hmk⟩; rcases hmk with ⟨hz, _⟩ | ⟨_, hz, _⟩ | ⟨_, _, A, c, rfl, hau⟩; exact absurd rn_wg hz; (rw [rn_ad] at hz; omega)))
  have HR0 := hid (show RnH w w3.heap.size A c (autE rnT) (autF rnT) (w3.alloc (.cells #[.slice A (autE rnT).length c, .int .i64 ((autF rnT : Nat) : Int)] 33)) from ⟨(HB2.out.trans (hb3.mono HB2.out.size)).trans ((al_belowN w3 _).mono (Nat.le_trans HB2.out.size hb3.size)), hau.keep (al_belowN w3 _), Blk.fresh w3 _ _⟩)
  have HF := hid (faultB ((HF1.out.keep hb3).keep (al_belowN w3 (.cells #[.slice A (autE rnT).length c, .int .i64 ((autF rnT : Nat) : Int)] 33))))
  have hE : (autE rnT).length ≤ 5000 := by rw [rn_len]; omega
  have hE2 : ∀ s, ((autE rnT).getD s []).length ≤ 100000 := rows_tot (by rw [rn_tot]; omega)
  have hm1 := rn_m1
  have hm2 := rn_m2
  have hm3 := rn_m3
  have hst := rn_sets
  have hln := rn_len
  clear hb3 hau HMk HF1 HV1 HB2 HSz HOne x0 x1 x2 x3 x4 x5 x6 x7
  generalize (w3.alloc (.cells #[.slice A (autE rnT).length c, .int .i64 ((autF rnT : Nat) : Int)] 33)) = w4 at *
  generalize w3.heap.size = g at *
  generalize autE rnT = E at *
  generalize autF rnT = q at *
  have HM1 := hid (fun (W : World) (h : RnH w g A c E q W) => (show Calls Tryd.prog 15 #[.agg #[.slice A E.length c, .int .i64 (q : Int)], .slice (some ⟨W.heap.size, 0, none⟩) 4 4] (W.alloc (.cells #[.int .u8 97, .int .u8 97, .int .u8 97, .int .u8 98] 5 (4, 5))) fun e w' => e = .returned (.bool true) ∧ RnH w g A c E q w' from match_new h hE hE2 [97, 97, 97, 98] (by decide) (by decide) true hm1))
  have HM2 := hid (fun (W : World) (h : RnH w g A c E q W) => (show Calls Tryd.prog 15 #[.agg #[.slice A E.length c, .int .i64 (q : Int)], .slice (some ⟨W.heap.size, 0, none⟩) 2 2] (W.alloc (.cells #[.int .u8 97, .int .u8 98] 5 (2, 3))) fun e w' => e = .returned (.bool false) ∧ RnH w g A c E q w' from match_new h hE hE2 [97, 98] (by decide) (by decide) false hm2))
  have HM3 := hid (fun (W : World) (h : RnH w g A c E q W) => (show Calls Tryd.prog 15 #[.agg #[.slice A E.length c, .int .i64 (q : Int)], .slice (some ⟨W.heap.size, 0, none⟩) 2 2] (W.alloc (.cells #[.int .u8 97, .int .u8 97] 5 (2, 3))) fun e w' => e = .returned (.bool true) ∧ RnH w g A c E q w' from match_new h hE hE2 [97, 97] (by decide) (by decide) true hm3))
  have HLn := hid (fun (W : World) (h : RnH w g A c E q W) => (show Calls Tryd.prog 16 #[.agg #[.slice A E.length c, .int .i64 (q : Int)]] W fun e w' => e = .returned (.int .i64 9) ∧ RnH w g A c E q w' from (len_any A E.length c (q : Int) W).mono fun e w' p => ⟨by rw [p.1, hln]; rfl, h.step p.2⟩))
  have HSt := hid (fun (W : World) (h : RnH w g A c E q W) => sets_any (en := (q : Int)) h.au hE hE2)
  rw [hst] at HSt
  obtain ⟨f0, f1⟩ := HF.out
  obtain ⟨d0, d1⟩ := HR0.out.cells
  clear hm1 hm2 hm3 hst hE hE2 HF hln
  have hc1 := fun W => run_cvB W #[.int .u8 97, .int .u8 97, .int .u8 97, .int .u8 98] 4
  have hc2 := fun W => run_cvB W #[.int .u8 97, .int .u8 98] 2
  have hc3 := fun W => run_cvB W #[.int .u8 97, .int .u8 97] 2
  simp only [List.size_toArray, List.length_cons, List.length_nil, Nat.reduceAdd] at hc1 hc2 hc3
  go_wp2_with (first
    | (go_at_call 15; first
      | (with_reducible refine (HM1.out _ HR0.out).mono ?_; rintro e w5 ⟨rfl, h5⟩; have HR1 := hid h5; clear h5 d0 d1; obtain ⟨d0, d1⟩ := HR1.out.cells)
      | (with_reducible refine (HM2.out _ HR1.out).mono ?_; rintro e w6 ⟨rfl, h5⟩; have HR2 := hid h5; clear h5 d0 d1; obtain ⟨d0, d1⟩ := HR2.out.cells)
      | (with_reducible refine (HM3.out _ HR2.out).mono ?_; rintro e w7 ⟨rfl, h5⟩; have HR3 := hid h5; clear h5 d0 d1; obtain ⟨d0, d1⟩ := HR3.out.cells))
    | (go_at_call 16; refine (HLn.out _ HR3.out).mono ?_; rintro e w8 ⟨rfl, h5⟩; have HR4 := hid h5; clear h5 d0 d1; obtain ⟨d0, d1⟩ := HR4.out.cells)
    | (go_at_call 10; refine (HSt.out _ HR4.out).mono ?_; rintro e w9 ⟨A9, c9, rfl, _, h5⟩))
  go_ret
  exact ⟨rfl, HR4.out.bel.trans (h5.mono HR4.out.bel.size)⟩
end Go.Proofs.YtoiegkejkahfgaaDoor
