/- crc: the matrix of one byte, and twice. -/
import Derived.Test.YtmbbjhlpfgpibaaMat
namespace Go.Proofs.Ytmbbjhlpfgpibaa
open Go.RowKit

/-- A matrix, so many of its numbers made. -/
def mRow (f : Nat → Nat) (k : Nat) : List Nat := (List.range k).map (fun i => f (2 ^ i)) ++ List.replicate (32 - k) 0
theorem mRow_zero (f : Nat → Nat) : mRow f 0 = List.replicate 32 0 := by simp [mRow]
theorem mRow_all (f : Nat → Nat) : mRow f 32 = matL f := by simp [mRow, matL]
theorem mRow_len (f : Nat → Nat) (k : Nat) (hk : k ≤ 32) : (mRow f k).length = 32 := by simp [mRow]; omega
theorem mRow_set (f : Nat → Nat) (k : Nat) (hk : k < 32) : (mRow f k).set k (f (2 ^ k)) = mRow f (k + 1) := by
  unfold mRow
  rw [List.set_append_right _ _ (by simp), List.range_succ, List.map_append, List.append_assoc]
  congr 1
  rw [List.length_map, List.length_range, Nat.sub_self, show 32 - k = (32 - (k + 1)) + 1 by omega, List.replicate_succ, List.set_cons_zero]
  rfl
theorem one_u32 (l : List Nat) : (l.map u32V).toArray.all (·.oneCell') = true := by
  rw [Array.all_eq_true_iff_forall_mem]
  intro x hx
  simp only [List.mem_toArray, List.mem_map] at hx
  obtain ⟨y, _, rfl⟩ := hx
  rfl
theorem blk_row {w : World} {g : Nat} {t : TypeId} {cs : List Value} (h : Blk w g t cs) (cs' : List Value) : Blk (w.setRow g cs'.toArray) g t cs' := setRow_heap w g _ _ t (0, 0) h
theorem below_row {B g : Nat} {a w : World} (h : Below B a w) (hg : B ≤ g) (cs : Array Value) : Below B a (w.setRow g cs) :=
  ⟨h.os, h.tape, h.output, by have := h.size; simpa [World.setRow] using this, fun k hk => (setRow_other w g k cs (by omega)).trans (h.block k hk)⟩

set_option maxRecDepth 8000 in
theorem oneByte_any (w : World) :
    Calls Try.prog 53 #[] w fun e w' => e = .returned (isM behindN) ∧ Below w.heap.size w w' := by
  have hZ := Blk.fresh w 100 ((List.replicate 32 0).map u32V)
  have hb := (Below.refl w.heap.size w).alloc (Nat.le_refl _) (.cells ((List.replicate 32 0).map u32V).toArray 100)
  go_enter Try.func53, Try.ntmps53
  go_wp2
  change Code.wp _ _ _ _ ((w.alloc (.cells ((List.replicate 32 0).map u32V).toArray 100)).alloc (.cells ((List.replicate 32 0).map u32V).toArray 100))
  have hsz : (w.alloc (.cells ((List.replicate 32 0).map u32V).toArray 100)).heap.size = w.heap.size + 1 := by simp
  generalize w.alloc (.cells ((List.replicate 32 0).map u32V).toArray 100) = w1 at *
  have hR := hid (hZ.alloc (.cells ((List.replicate 32 0).map u32V).toArray 100))
  have hM := Blk.fresh w1 100 ((List.replicate 32 0).map u32V)
  rw [hsz] at hM
  have HM := hid hM
  have hb2 := hb.alloc (by omega) (.cells ((List.replicate 32 0).map u32V).toArray 100)
  clear hZ hb hM hsz
  generalize w1.alloc (.cells ((List.replicate 32 0).map u32V).toArray 100) = w2 at *
  go_loopw [3] (fun i wr => ∃ k : Nat, k ≤ 32 ∧ i = .int .i64 k ∧ Hid (Blk wr (w.heap.size + 1) 100 ((mRow behindN k).map u32V)) ∧ Hid (Blk wr w.heap.size 100 ((List.replicate 32 0).map u32V)) ∧ Below w.heap.size w wr) (fun i _ => 32 - (intOf i).toNat)
  case atStart => exact ⟨0, by omega, rfl, by rw [mRow_zero]; exact HM, hR, hb2⟩
  case round =>
    obtain ⟨k, hk, rfl, HG, HZ, hbk⟩ := hrel
    by_cases hlt : k < 32
    · have hck : ∃ u, wr.cell? ⟨w.heap.size + 1, k, none⟩ = some u := ⟨_, (HG.out.at k).trans (List.getElem?_eq_getElem (by rw [List.length_map, mRow_len _ _ hk]; exact hlt))⟩
      obtain ⟨u, hu⟩ := hck
      have hfr := HG.out.free k
      have hS := HG.out.put k (u32V (behindN (2 ^ k)))
      rw [← List.map_set, mRow_set behindN k hlt] at hS
      have HS := hid hS
      have HZ2 := hid (HZ.out.other (p := ⟨w.heap.size + 1, k, none⟩) (show w.heap.size ≠ w.heap.size + 1 by omega) (u32V (behindN (2 ^ k))))
      have hp := pow_lt32 k hlt
      have HB := hid (fun w => behind_any (2 ^ k) hp w)
      clear hS
      have HP2 := hid (show ((2 : Int) ^ k % 4294967296) = ((2 ^ k : Nat) : Int) by rw [show ((2 : Int) ^ k) = ((2 ^ k : Nat) : Int) by simp]; exact Int.emod_eq_of_lt (Int.natCast_nonneg _) (Int.ofNat_lt.2 hp))
      clear hp
      go_wp2_with fail
      rw [HP2.out]
      refine (HB.out _).mono ?_
      rintro e w' ⟨rfl, rfl⟩
      unfold u32V at HS HZ2
      generalize behindN (2 ^ k) = y at *
      go_wp2
      go_roundw
      case rel => exact ⟨k + 1, by omega, by go_num, HS, HZ2, hbk.setCell (show w.heap.size ≤ w.heap.size + 1 by omega) _⟩
      case measure => simp [intOf]; omega
    · obtain rfl : k = 32 := by omega
      have hG := HG.out
      rw [mRow_all] at hG
      have hg : wr.heap[w.heap.size + 1]? = some (.cells ((matL behindN).map u32V).toArray 100) := hG
      have hz : wr.heap[w.heap.size]? = some (.cells ((List.replicate 32 0).map u32V).toArray 100) := HZ.out
      have hR := hid (blk_row HZ.out ((matL behindN).map u32V))
      have hB := hid (below_row hbk (Nat.le_refl w.heap.size) ((matL behindN).map u32V).toArray)
      go_wp2_with (first
        | refine wpList_load_row rfl 100 _ rfl (w.heap.size + 1) rfl 100 _ (0, 0) _ hg Try.underlying100 rfl (mat_info behindN) ?_
        | refine wpList_store_row rfl 100 _ _ rfl w.heap.size ((matL behindN).map u32V).toArray rfl rfl 100 _ hz (mat_info behindN) (by simp [matL]) (one_u32 _) ?_)
      exact bodyPost_ret (v := isM behindN) (results_cell_row (P := Try.prog) (fn := Try.f53) rfl _ _ w.heap.size 100 _ (0, 0) _ rfl hR.out Try.underlying100 rfl (mat_info behindN)) rfl ⟨rfl, hB.out⟩

set_option maxRecDepth 8000 in
set_option maxHeartbeats 1000000 in
theorem twice_any {f : Nat → Nat} (hf : Lin f) (w : World) :
    Calls Try.prog 55 #[isM f] w fun e w' => e = .returned (isM (fun r => f (f r))) ∧ Below w.heap.size w w' := by
  have HF := hid hf
  have HI := hid (fun (k : Nat) (hk : k < 32) (w : World) => show (Instr.index 100 (.agg ((matL f).map u32V).toArray) (.int .i64 (k : Int))).run Try.prog w = .ok (.int .u32 ((f (2 ^ k) : Nat) : Int)) w from run_ix f k hk w)
  have HOf := hid (fun (r : Nat) (hr : r < 4294967296) (w : World) => show Calls Try.prog 54 #[.agg ((matL f).map u32V).toArray, .int .u32 r] w fun e w' => e = .returned (.int .u32 ((f r : Nat) : Int)) ∧ Below w.heap.size w w' from of_mat hf r hr w)
  have hi := mat_info f
  unfold isM
  clear hf
  generalize ((matL f).map u32V).toArray = C at HI HOf hi ⊢
  have hX : (((w.alloc (.cells C 100)).alloc (.cells ((List.replicate 32 0).map u32V).toArray 100)).alloc (.cells ((List.replicate 32 0).map u32V).toArray 100)).heap[w.heap.size]? = some (.cells C 100) := by
    refine (Below.heap_alloc _ _ _ (by simp; omega)).trans ((Below.heap_alloc _ _ _ (by simp)).trans ?_)
    exact heap_alloc_new w _
  have hR := ((Blk.fresh (w.alloc (.cells C 100)) 100 ((List.replicate 32 0).map u32V)).alloc (.cells ((List.replicate 32 0).map u32V).toArray 100))
  have hM := Blk.fresh ((w.alloc (.cells C 100)).alloc (.cells ((List.replicate 32 0).map u32V).toArray 100)) 100 ((List.replicate 32 0).map u32V)
  rw [show (w.alloc (.cells C 100)).heap.size = w.heap.size + 1 by simp] at hR
  rw [show ((w.alloc (.cells C 100)).alloc (.cells ((List.replicate 32 0).map u32V).toArray 100)).heap.size = w.heap.size + 1 + 1 by simp] at hM
  have hb := ((((Below.refl w.heap.size w).alloc (Nat.le_refl _) (.cells C 100)).alloc (by simp) (.cells ((List.replicate 32 0).map u32V).toArray 100)).alloc (by simp; omega) (.cells ((List.replicate 32 0).map u32V).toArray 100))
  have HX := hid hX
  have HR := hid hR
  have HM := hid hM
  go_enter Try.func55, Try.ntmps55
  go_wp2_with (refine wpList_load_row rfl 100 _ rfl w.heap.size rfl 100 C (0, 0) _ hX Try.underlying100 rfl hi ?_)
  change Code.wp _ _ _ _ (((w.alloc (.cells C 100)).alloc (.cells ((List.replicate 32 0).map u32V).toArray 100)).alloc (.cells ((List.replicate 32 0).map u32V).toArray 100))
  clear hX hR hM
  generalize ((w.alloc (.cells C 100)).alloc (.cells ((List.replicate 32 0).map u32V).toArray 100)).alloc (.cells ((List.replicate 32 0).map u32V).toArray 100) = w3 at *
  have hs0 : w.heap.size + 1 < w3.heap.size := HR.out.lt
  go_loopw [7] (fun i wr => ∃ k : Nat, k ≤ 32 ∧ i = .int .i64 k ∧ Hid (Blk wr (w.heap.size + 1 + 1) 100 ((mRow (fun r => f (f r)) k).map u32V)) ∧ Hid (Blk wr (w.heap.size + 1) 100 ((List.replicate 32 0).map u32V)) ∧ Hid (wr.heap[w.heap.size]? = some (.cells C 100)) ∧ Below w.heap.size w wr) (fun i _ => 32 - (intOf i).toNat)
  case atStart => exact ⟨0, by omega, rfl, by rw [mRow_zero]; exact HM, HR, HX, hb⟩
  case round =>
    obtain ⟨k, hk, rfl, HG, HZ, HC, hbk⟩ := hrel
    by_cases hlt : k < 32
    · have hix := HI.out k hlt
      have hg := HC.out
      have hp := HF.out.lt _ (pow_lt32 k hlt)
      have hlt2 : w.heap.size + 1 + 1 < wr.heap.size := HG.out.lt
      go_wp2_with (refine wpList_load_row rfl 100 _ rfl w.heap.size rfl 100 C (0, 0) _ hg Try.underlying100 rfl hi ?_)
      refine (HOf.out (f (2 ^ k)) hp _).mono ?_
      rintro e w5 ⟨rfl, hb5⟩
      have hG5 := HG.out.keep hb5
      have hck : ∃ u, w5.cell? ⟨w.heap.size + 1 + 1, k, none⟩ = some u := ⟨_, (hG5.at k).trans (List.getElem?_eq_getElem (by rw [List.length_map, mRow_len _ _ hk]; exact hlt))⟩
      obtain ⟨u, hu⟩ := hck
      have hfr := hG5.free k
      have hS := hG5.put k (u32V (f (f (2 ^ k))))
      rw [← List.map_set, mRow_set (fun r => f (f r)) k hlt] at hS
      have HS := hid hS
      have HZ2 := hid ((HZ.out.keep hb5).other (p := ⟨w.heap.size + 1 + 1, k, none⟩) (show w.heap.size + 1 ≠ w.heap.size + 1 + 1 by omega) (u32V (f (f (2 ^ k)))))
      have HC2 := hid ((Below.heap_setCell w5 ⟨w.heap.size + 1 + 1, k, none⟩ (u32V (f (f (2 ^ k)))) w.heap.size (show w.heap.size ≠ w.heap.size + 1 + 1 by omega)).trans ((hb5.block w.heap.size (by omega)).trans hg))
      have hbw := (hbk.trans (hb5.mono hbk.size))
      unfold u32V at HS HZ2 HC2
      clear hS hG5 hg hix hp
      generalize f (f (2 ^ k)) = y at *
      go_wp2
      go_roundw
      case rel => exact ⟨k + 1, by omega, by go_num, HS, HZ2, HC2, hbw.setCell (show w.heap.size ≤ w.heap.size + 1 + 1 by omega) _⟩
      case measure => simp [intOf]; omega
    · obtain rfl : k = 32 := by omega
      have hG := HG.out
      rw [mRow_all] at hG
      have hg : wr.heap[w.heap.size + 1 + 1]? = some (.cells ((matL (fun r => f (f r))).map u32V).toArray 100) := hG
      have hz : wr.heap[w.heap.size + 1]? = some (.cells ((List.replicate 32 0).map u32V).toArray 100) := HZ.out
      have hR := hid (blk_row HZ.out ((matL (fun r => f (f r))).map u32V))
      have hB := hid (below_row hbk (show w.heap.size ≤ w.heap.size + 1 by omega) ((matL (fun r => f (f r))).map u32V).toArray)
      go_wp2_with (first
        | refine wpList_load_row rfl 100 _ rfl (w.heap.size + 1 + 1) rfl 100 _ (0, 0) _ hg Try.underlying100 rfl (mat_info _) ?_
        | refine wpList_store_row rfl 100 _ _ rfl (w.heap.size + 1) ((matL (fun r => f (f r))).map u32V).toArray rfl rfl 100 _ hz (mat_info _) (by simp [matL]) (one_u32 _) ?_)
      exact bodyPost_ret (v := .agg ((matL (fun r => f (f r))).map u32V).toArray) (results_cell_row (P := Try.prog) (fn := Try.f55) rfl _ _ (w.heap.size + 1) 100 _ (0, 0) _ rfl hR.out Try.underlying100 rfl (mat_info _)) rfl ⟨rfl, hB.out⟩
end Go.Proofs.Ytmbbjhlpfgpibaa
