/- crc: the table is filled. -/
import Derived.Test.YtmbbjhlpfgpibaaOnce
import Derived.StillTailTactics
namespace Go.Proofs.Ytmbbjhlpfgpibaa
open Go.RowKit

def u32V (r : Nat) : Value := .int .u32 (r : Int)
/-- The cells of a table: done, the lock, its semaphore; the remainders; how often made; how many bytes. -/
def tbl (d s : Int) (R : List Nat) (m b : Nat) : List Value := .int .u32 d :: .int .i32 s :: .int .u32 0 :: (R.map u32V ++ [.int .i64 (m : Int), .int .u64 (b : Int)])
section
variable {d s : Int} {R : List Nat} {m b : Nat}
theorem tbl_c0 : (tbl d s R m b)[0]? = some (.int .u32 d) := rfl
theorem tbl_c1 : (tbl d s R m b)[1]? = some (.int .i32 s) := rfl
theorem tbl_cell (i : Nat) (h : i < R.length) : (tbl d s R m b)[3 + i]? = some (u32V R[i]) := by
  unfold tbl
  rw [Nat.add_comm 3 i]
  simp [List.getElem?_append_left, h]
theorem tbl_made (h : R.length = 256) : (tbl d s R m b)[259]? = some (.int .i64 (m : Int)) := by
  unfold tbl
  show (R.map u32V ++ [.int .i64 (m : Int), .int .u64 (b : Int)])[256]? = _
  rw [List.getElem?_append_right (by simp [h])]
  simp [h]
theorem tbl_bytes (h : R.length = 256) : (tbl d s R m b)[260]? = some (.int .u64 (b : Int)) := by
  unfold tbl
  show (R.map u32V ++ [.int .i64 (m : Int), .int .u64 (b : Int)])[257]? = _
  rw [List.getElem?_append_right (by simp [h])]
  simp [h]
theorem tbl_set0 (d' : Int) : (tbl d s R m b).set 0 (.int .u32 d') = tbl d' s R m b := rfl
theorem tbl_set1 (s' : Int) : (tbl d s R m b).set 1 (.int .i32 s') = tbl d s' R m b := rfl
theorem tbl_set (i r : Nat) (h : i < R.length) : (tbl d s R m b).set (3 + i) (u32V r) = tbl d s (R.set i r) m b := by
  unfold tbl
  rw [Nat.add_comm 3 i]
  simp only [List.set_cons_succ]
  rw [List.set_append_left _ _ (by simpa using h), List.map_set]
theorem tbl_setMade (h : R.length = 256) (m' : Nat) : (tbl d s R m b).set 259 (.int .i64 (m' : Int)) = tbl d s R m' b := by
  unfold tbl
  simp only [List.set_cons_succ]
  rw [List.set_append_right _ _ (by simp [h])]
  simp [h]
theorem tbl_setBytes (h : R.length = 256) (b' : Nat) : (tbl d s R m b).set 260 (.int .u64 (b' : Int)) = tbl d s R m b' := by
  unfold tbl
  simp only [List.set_cons_succ]
  rw [List.set_append_right _ _ (by simp [h])]
  simp [h]
end

/-- The remainders, so many made. -/
def fillR (R : List Nat) (k : Nat) : List Nat := (List.range k).map behindN ++ R.drop k
theorem fillR_len (R : List Nat) (k : Nat) (h : R.length = 256) (hk : k ≤ 256) : (fillR R k).length = 256 := by simp [fillR]; omega
theorem fillR_zero (R : List Nat) : fillR R 0 = R := by simp [fillR]
theorem fillR_set (R : List Nat) (k : Nat) (h : R.length = 256) (hk : k < 256) : (fillR R k).set k (behindN k) = fillR R (k + 1) := by
  unfold fillR
  rw [List.set_append_right _ _ (by simp), List.range_succ, List.map_append, List.append_assoc]
  congr 1
  rw [List.length_map, List.length_range, Nat.sub_self]
  rw [List.drop_eq_getElem_cons (show k < R.length by omega), List.set_cons_zero]
  rfl
/-- The table. -/
def rests : List Nat := (List.range 256).map behindN
theorem rests_len : rests.length = 256 := by simp [rests]
theorem rests_at (i : Nat) (h : i < rests.length) : rests[i] = behindN i := by simp [rests]
theorem fillR_all (R : List Nat) (h : R.length = 256) : fillR R 256 = rests := by unfold fillR rests; rw [List.drop_of_length_le (by omega), List.append_nil]

theorem behind_same (r : Nat) (h : r < 4294967296) (w : World) :
    Calls Try.prog 62 #[.int .u32 r] w fun e w' => e = .returned (.int .u32 ((behindN r : Nat) : Int)) ∧ w' = w := (behind_any r h w).mono fun _ _ ⟨h1, h2⟩ => ⟨h1, h2.symm⟩

set_option maxRecDepth 8000 in
theorem fill_any {w : World} {g : Nat} {d s : Int} {R : List Nat} {m b : Nat} (hB : Blk w g 45 (tbl d s R m b)) (hR : R.length = 256) (hm : m ≤ 1000) :
    Calls Try.prog 44 #[.pointer (some ⟨g, 0, none⟩)] w fun e w' => e = .returned (.tuple #[]) ∧ Blk w' g 45 (tbl d s rests (m + 1) b) ∧ w.grownBy w' (some g) := by
  have HB := hid hB
  have HR := hid hR
  clear hB hR
  go_enter Try.func44, Try.ntmps44
  go_wp2
  go_loopw [3] (fun i wr => ∃ k : Nat, k ≤ 256 ∧ i = .int .i64 k ∧ Hid (Blk wr g 45 (tbl d s (fillR R k) m b)) ∧ w.grownBy wr (some g)) (fun i _ => 256 - (intOf i).toNat)
  case atStart => exact ⟨0, by omega, rfl, hid (by rw [fillR_zero]; exact HB.out), World.grownBy.refl w _⟩
  case round =>
    obtain ⟨k, hk, rfl, hG, hg⟩ := hrel
    by_cases hlt : k < 256
    · have hl := fillR_len R k HR.out hk
      have hck := hG.out.at (3 + k)
      rw [tbl_cell k (by omega)] at hck
      have hfr := hG.out.free (3 + k)
      generalize u32V ((fillR R k)[k]'(by omega)) = uu at hck
      clear hl
      go_wp2_with fail
      refine wp_region_still_tail 8 (by kernel_rfl) (by kernel_rfl) ?_
      simp only [List.take_succ_cons, List.take_zero, List.drop_succ_cons, List.drop_zero]
      still_step
      still_step
      still_step
      still_step
      rw [show IntKind.u32.wrap (k : Int) = (k : Int) by rw [IntKind.wrap_u32]; omega]
      still_call (behind_same k (by omega) _)
      still_step
      still_step
      still_step
      refine wpStill_nil ?_
      change wpList _ _ _ _ _ wr.drew
      have hG2 := hid ((hG.out.drew).put (3 + k) (u32V (behindN k)))
      rw [tbl_set k _ (by rw [fillR_len R k HR.out hk]; omega), fillR_set R k HR.out hlt] at hG2
      have hg2 := hid (grown_trans hg (grown_set wr 1 g (3 + k) (u32V (behindN k))))
      go_wp2
      go_roundw
      case rel => exact ⟨k + 1, by omega, by go_num, hG2, hg2.out⟩
      case measure => simp [intOf]; omega
    · obtain rfl : k = 256 := by omega
      rw [fillR_all R HR.out] at hG
      have hck := hG.out.at 259
      rw [tbl_made rests_len] at hck
      have hfr := hG.out.free 259
      have hadd := run_call_add (P := Try.prog) Try.func71 (by kernel_rfl) (by kernel_rfl) (by kernel_rfl) .i64 (by kernel_rfl) (y := 1) (s := (m : Int) + 1) hck hfr (by simp [go_sem]; rw [IntKind.wrap_i64]; omega)
      have hG2 := hid (hG.out.put 259 (.int .i64 ((m + 1 : Nat) : Int)))
      rw [tbl_setMade rests_len] at hG2
      have hg2 := hid (grown_trans hg (grown_set wr 0 g 259 (.int .i64 ((m + 1 : Nat) : Int))))
      go_wp2
      go_end0
      exact ⟨rfl, hG2.out, hg2.out⟩
end Go.Proofs.Ytmbbjhlpfgpibaa
