/- octet.Put: a number behind bytes; and when it is refused. -/
import Derived.Test.YtmbbjhlpfgpibaaOctB
namespace Go.Proofs.Ytmbbjhlpfgpibaa
open Go.RowKit

theorem put_le {w : World} {A : Option Addr} {m c : Nat} {pre : List UInt8} (n width : Nat) (hX : RdB w A m pre) (hm : m ≤ 2147483648) (h1 : 1 ≤ width) (h8 : width ≤ 8) (hn : n ≤ mostN width) :
    Calls Try.prog 38 #[.slice A m c, .int .u64 n, .int .i64 width, .bool true] w fun e w' => e = .returned (.tuple #[.slice (some ⟨w.heap.size, 0, none⟩) (m + width) (m + width), .int .i64 0]) ∧
      Blk w' w.heap.size 5 ((pre ++ digits true n width).map isB) ∧ Below w.heap.size w w' := by
  have hml := hid hX.1
  have hmk := run_makeB (m + width) (by omega)
  rw [Int.natCast_add] at hmk
  have hfit : 0 + m ≤ (zeros (m + width)).toList.length := by rw [zeros_len]; omega
  go_enter Try.func38, Try.ntmps38
  go_wp2_with (first
    | (go_at_call 56; refine (width_yes _ (by omega) (by omega)).mono ?_; rintro e w' ⟨rfl, rfl⟩)
    | (go_at_call 57; refine (most_ok width h1 h8).mono ?_; rintro e w' ⟨rfl, rfl⟩)
    | (with_reducible refine wpList_copyB rfl (.tmp 25) (.tmp 26) rfl _ _ _ rfl _ _ _ rfl w.heap.size 0 (zeros (m + width)).toList (Blk.zeros_ w _) pre (hX.alloc _) (fun _ => rfl) (by omega) hfit ?_; intro w2 HG hg2))
  have hB := below_fresh hg2
  clear hg2 hmk
  go_loopw [29] (fun i wr => ∃ k : Nat, k ≤ width ∧ i = .int .i64 k ∧ Blk wr w.heap.size 5 ((putRow true pre n width k).map isB) ∧ Below w.heap.size w wr) (fun i _ => 8 - (intOf i).toNat)
  case atStart =>
    refine ⟨0, by omega, rfl, ?_, hB⟩
    have hG := HG.out
    rw [putRow_zero]
    have e : splice (zeros (m + width)).toList 0 (pre.map isB) = (pre ++ List.replicate width 0).map isB := by
      simp [splice, zeros, hml.out]
    rw [e] at hG
    exact hG
  case round =>
    obtain ⟨k, hk, rfl, hG, hBr⟩ := hrel
    by_cases hlt : k < width
    · have hck := hG.at (m + k)
      rw [List.getElem?_eq_getElem (by rw [List.length_map, putRow_len _ _ _ _ _ hk, hml.out]; omega)] at hck
      have hfr := hG.free (m + k)
      have hG' := hG.put (m + k) (isB (dig n k))
      rw [← List.map_set] at hG'
      have hrow := putRow_le pre n width k hlt
      rw [hml.out] at hrow
      rw [hrow] at hG'
      have HG' := hid hG'
      clear hG' hrow hG
      go_wp2
      go_roundw
      case rel =>
        rw [dig_val]
        exact ⟨k + 1, by omega, by go_num, HG'.out, hBr.setCell (Nat.le_refl _) _⟩
      case measure => simp [intOf]; omega
    · obtain rfl : k = width := by omega
      go_wp2
      go_ret2
      rw [putRow_all] at hG
      exact ⟨rfl, hG, hBr⟩

theorem put_be {w : World} {A : Option Addr} {m c : Nat} {pre : List UInt8} (n width : Nat) (hX : RdB w A m pre) (hm : m ≤ 2147483648) (h1 : 1 ≤ width) (h8 : width ≤ 8) (hn : n ≤ mostN width) :
    Calls Try.prog 38 #[.slice A m c, .int .u64 n, .int .i64 width, .bool false] w fun e w' => e = .returned (.tuple #[.slice (some ⟨w.heap.size, 0, none⟩) (m + width) (m + width), .int .i64 0]) ∧
      Blk w' w.heap.size 5 ((pre ++ digits false n width).map isB) ∧ Below w.heap.size w w' := by
  have hml := hid hX.1
  have hmk := run_makeB (m + width) (by omega)
  rw [Int.natCast_add] at hmk
  have hfit : 0 + m ≤ (zeros (m + width)).toList.length := by rw [zeros_len]; omega
  go_enter Try.func38, Try.ntmps38
  go_wp2_with (first
    | (go_at_call 56; refine (width_yes _ (by omega) (by omega)).mono ?_; rintro e w' ⟨rfl, rfl⟩)
    | (go_at_call 57; refine (most_ok width h1 h8).mono ?_; rintro e w' ⟨rfl, rfl⟩)
    | (with_reducible refine wpList_copyB rfl (.tmp 25) (.tmp 26) rfl _ _ _ rfl _ _ _ rfl w.heap.size 0 (zeros (m + width)).toList (Blk.zeros_ w _) pre (hX.alloc _) (fun _ => rfl) (by omega) hfit ?_; intro w2 HG hg2))
  have hB := below_fresh hg2
  clear hg2 hmk
  go_loopw [29] (fun i wr => ∃ k : Nat, k ≤ width ∧ i = .int .i64 k ∧ Blk wr w.heap.size 5 ((putRow false pre n width k).map isB) ∧ Below w.heap.size w wr) (fun i _ => 8 - (intOf i).toNat)
  case atStart =>
    refine ⟨0, by omega, rfl, ?_, hB⟩
    have hG := HG.out
    rw [putRow_zero]
    have e : splice (zeros (m + width)).toList 0 (pre.map isB) = (pre ++ List.replicate width 0).map isB := by
      simp [splice, zeros, hml.out]
    rw [e] at hG
    exact hG
  case round =>
    obtain ⟨k, hk, rfl, hG, hBr⟩ := hrel
    by_cases hlt : k < width
    · have hck := hG.at (m + width - 1 - k)
      rw [List.getElem?_eq_getElem (by rw [List.length_map, putRow_len _ _ _ _ _ hk, hml.out]; omega)] at hck
      have hfr := hG.free (m + width - 1 - k)
      have hG' := hG.put (m + width - 1 - k) (isB (dig n k))
      rw [← List.map_set] at hG'
      have hrow := putRow_be pre n width k hlt
      rw [hml.out] at hrow
      rw [hrow] at hG'
      have HG' := hid hG'
      clear hG' hrow hG
      go_wp2
      go_roundw
      case rel =>
        rw [dig_val]
        exact ⟨k + 1, by omega, by go_num, HG'.out, hBr.setCell (Nat.le_refl _) _⟩
      case measure => simp [intOf]; omega
    · obtain rfl : k = width := by omega
      go_wp2
      go_ret2
      rw [putRow_all] at hG
      exact ⟨rfl, hG, hBr⟩

theorem put_ok {w : World} {A : Option Addr} {m c : Nat} {pre : List UInt8} (n width : Nat) (little : Bool) (hX : RdB w A m pre) (hm : m ≤ 2147483648) (h1 : 1 ≤ width) (h8 : width ≤ 8) (hn : n ≤ mostN width) :
    Calls Try.prog 38 #[.slice A m c, .int .u64 n, .int .i64 width, .bool little] w fun e w' => e = .returned (.tuple #[.slice (some ⟨w.heap.size, 0, none⟩) (m + width) (m + width), .int .i64 0]) ∧
      Blk w' w.heap.size 5 ((pre ++ digits little n width).map isB) ∧ Below w.heap.size w w' := by
  cases little
  · exact put_be n width hX hm h1 h8 hn
  · exact put_le n width hX hm h1 h8 hn

/-- The same, the new block by a name of its own. -/
theorem put_at {w : World} {A : Option Addr} {m c : Nat} {pre : List UInt8} (n width : Nat) (little : Bool) (hX : RdB w A m pre) (hm : m ≤ 2147483648) (h1 : 1 ≤ width) (h8 : width ≤ 8) (hn : n ≤ mostN width) :
    Calls Try.prog 38 #[.slice A m c, .int .u64 n, .int .i64 width, .bool little] w fun e w' => ∃ g, e = .returned (.tuple #[.slice (some ⟨g, 0, none⟩) (m + width) (m + width), .int .i64 0]) ∧
      Blk w' g 5 ((pre ++ digits little n width).map isB) ∧ Below w.heap.size w w' ∧ w.heap.size ≤ g :=
  (put_ok n width little hX hm h1 h8 hn).mono fun _ _ ⟨he, hG, hB⟩ => ⟨_, he, hG, hB, Nat.le_refl _⟩

theorem put_range {w : World} {A : Option Addr} {m c : Nat} (n : Nat) (width : Int) (little : Bool) (hw : width < 1 ∨ 8 < width) :
    Calls Try.prog 38 #[.slice A m c, .int .u64 n, .int .i64 width, .bool little] w fun e w' => e = .returned (.tuple #[.slice none 0 0, .int .i64 1]) ∧ w = w' := by
  go_enter Try.func38, Try.ntmps38
  go_wp2_with (go_at_call 56; refine (width_no width hw).mono ?_; rintro e w' ⟨rfl, rfl⟩)
  go_ret2
  exact ⟨rfl, rfl⟩

theorem put_over {w : World} {A : Option Addr} {m c : Nat} (n width : Nat) (little : Bool) (h1 : 1 ≤ width) (h8 : width ≤ 8) (hn : mostN width < n) :
    Calls Try.prog 38 #[.slice A m c, .int .u64 n, .int .i64 width, .bool little] w fun e w' => e = .returned (.tuple #[.slice none 0 0, .int .i64 40]) ∧ w = w' := by
  go_enter Try.func38, Try.ntmps38
  go_wp2_with (first
    | (go_at_call 56; refine (width_yes _ (by omega) (by omega)).mono ?_; rintro e w' ⟨rfl, rfl⟩)
    | (go_at_call 57; refine (most_ok width h1 h8).mono ?_; rintro e w' ⟨rfl, rfl⟩))
  go_ret2
  exact ⟨rfl, rfl⟩
end Go.Proofs.Ytmbbjhlpfgpibaa
