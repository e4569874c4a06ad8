/- leb: how many bytes a number has; Put and Pad. -/
import Derived.Test.YtkbddjmfccbcoaaLMath
import Derived.Test.YtkbddjmfccbcoaaMem
import Derived.Lib.BitFns
import Derived.Lib.Strings
import Derived.Lib.Slices
import Derived.Lib.Small
import Derived.Lib.Walk
namespace Go.Proofs.Ytkbddjmfccbcoaa
open Go.RowKit

theorem ret_i {a b : Int} (h : a = b) : Ending.returned (.int .i64 a) = .returned (.int .i64 b) := by rw [h]

theorem tab_bl (m : Nat) (h : m < Lib.len8tab.size) : (Lib.len8tab[m]).toNat = Lib.bitLen m ∧ Lib.bitLen m ≤ 8 := by
  have hsz := Lib.len8tab_size
  have e := Lib.len8_of (m : Int) (by omega) (by omega)
  have hb := Lib.bitLen_le8' (m : Int) (by omega) (by omega)
  unfold Lib.len8 at e
  rw [Int.toNat_natCast] at e hb
  rw [getElem?_pos Lib.len8tab m h] at e
  simp only [Option.getD_some] at e
  omega
/-- One way through Len64: the table's entry at what is left, and how much was shifted out. -/
theorem tab_way (x : Nat) (hx : x < 18446744073709551616) (s : Nat) (y : Int) (hy : y.toNat < Lib.len8tab.size) (hm : y.toNat = x / 2 ^ s) (hs : 2 ^ s ≤ x ∨ s = 0) (h56 : s ≤ 56) :
    wrap64 ((s : Int) + wrap64 ((Lib.len8tab[y.toNat]).toNat : Int)) = (Lib.bitLen x : Int) := by
  obtain ⟨e, hb⟩ := tab_bl y.toNat hy
  rw [e]
  have hx' : Lib.bitLen x = s + Lib.bitLen y.toNat := by
    rcases hs with hs | rfl
    · rw [hm]; exact Lib.bitLen_shift s x hs hx
    · rw [hm]; simp
  unfold wrap64
  omega

set_option maxRecDepth 100000 in
set_option maxHeartbeats 4000000 in
theorem len64_int (x : Int) (h0 : 0 ≤ x) (h1 : x ≤ 18446744073709551615) (w : World) :
    Calls Try.prog 48 #[.int .u64 x] w fun e w' => e = .returned (.int .i64 (Lib.bitLen x.toNat)) ∧ w = w' := by
  have hsz := Lib.len8tab_size
  go_enter Try.func48, Try.ntmps48
  go_wp2
  all_goals (go_ret; refine ⟨ret_i ?_, rfl⟩)
  · exact tab_way x.toNat (by omega) 56 _ _ (by omega) (.inl (by omega)) (by omega)
  · exact tab_way x.toNat (by omega) 48 _ _ (by omega) (.inl (by omega)) (by omega)
  · exact tab_way x.toNat (by omega) 40 _ _ (by omega) (.inl (by omega)) (by omega)
  · exact tab_way x.toNat (by omega) 32 _ _ (by omega) (.inl (by omega)) (by omega)
  · exact tab_way x.toNat (by omega) 24 _ _ (by omega) (.inl (by omega)) (by omega)
  · exact tab_way x.toNat (by omega) 16 _ _ (by omega) (.inl (by omega)) (by omega)
  · exact tab_way x.toNat (by omega) 8 _ _ (by omega) (.inl (by omega)) (by omega)
  · have := tab_way x.toNat (by omega) 0 x (by omega) (by simp) (.inr rfl) (by omega)
    simpa using this

theorem len64 (x : Nat) (hx : x < 18446744073709551616) (w : World) :
    Calls Try.prog 48 #[.int .u64 x] w fun e w' => e = .returned (.int .i64 (Lib.bitLen x)) ∧ w = w' := by
  have := len64_int (x : Int) (by omega) (by omega) w
  rwa [Int.toNat_natCast] at this

theorem or_one_u64 (n : Nat) (h : n < 18446744073709551616) : bits .or .u64 (n : Int) 1 = ((n ||| 1 : Nat) : Int) := u64_or_nat n 1 h (by decide)
theorem lenD_int (n : Nat) (_h : Lib.bitLen (n ||| 1) ≤ 64) : ((Lib.bitLen (n ||| 1) : Int) + 7 - 1) / 7 = (lenD n : Int) := by unfold lenD; omega
theorem bl64 (x : Nat) (hx : x < 18446744073709551616) : Lib.bitLen x ≤ 64 := Lib.bitLen_le x 64 (by omega) (by simpa using hx)

theorem len_ok (n : Nat) (hn : n < 18446744073709551616) (w : World) :
    Calls Try.prog 37 #[.int .u64 n] w fun e w' => e = .returned (.int .i64 (lenD n)) ∧ w = w' := by
  have ho := or_one n
  have hlt : n ||| 1 < 18446744073709551616 := by omega
  have hb := bl64 _ hlt
  have H1 := hid (or_one_u64 n hn)
  have H2 := hid (len64 _ hlt)
  have H3 := hid (lenD_int n hb)
  clear ho hlt hn
  generalize Lib.bitLen (n ||| 1) = B at *
  go_enter Try.func37, Try.ntmps37
  go_wp2_with fail
  rw [H1.out]
  refine (H2.out w).mono ?_
  rintro e w' ⟨rfl, rfl⟩
  go_wp2
  go_ret
  exact ⟨ret_i H3.out, rfl⟩

/-- The inner put: n's digits behind 'pre', in a block of their own. -/
theorem lput_ok {w : World} {A : Option Addr} {m c : Nat} {pre : List UInt8} (n count : Nat) (hX : RdB w A m pre) (hm : m ≤ 2147483648) (h1 : 1 ≤ count) (h10 : count ≤ 10) :
    Calls Try.prog 47 #[.slice A m c, .int .u64 n, .int .i64 count] w fun e w' => ∃ g, e = .returned (.slice (some ⟨g, 0, none⟩) (m + count) (m + count)) ∧
      Blk w' g 5 ((pre ++ padD n count).map isB) ∧ Below w.heap.size w w' ∧ w.heap.size ≤ g := by
  have hml := hid hX.1
  have hmk := run_makeB (m + count) (by omega)
  rw [Int.natCast_add] at hmk
  have hfit : 0 + m ≤ (zeros (m + count)).toList.length := by rw [zeros_len]; omega
  go_enter Try.func47, Try.ntmps47
  go_wp2_with (with_reducible refine wpList_copyB rfl (.tmp 14) (.tmp 15) rfl _ _ _ rfl _ _ _ rfl w.heap.size 0 (zeros (m + count)).toList (Blk.zeros_ w _) pre (hX.alloc _) (fun _ => rfl) (by omega) hfit ?_; intro w2 HG hg2)
  have hB := below_fresh hg2
  clear hg2 hmk
  go_loopw [18] (fun i wr => ∃ k : Nat, k ≤ count ∧ i = .int .i64 k ∧ Blk wr w.heap.size 5 ((lebRow pre n count k).map isB) ∧ Below w.heap.size w wr) (fun i _ => 10 - (intOf i).toNat)
  case atStart =>
    refine ⟨0, by omega, rfl, ?_, hB⟩
    have hG := HG.out
    rw [lebRow_zero]
    have e : splice (zeros (m + count)).toList 0 (pre.map isB) = (pre ++ List.replicate count 0).map isB := by
      simp [splice, zeros, hml.out]
    rw [e] at hG
    exact hG
  case round =>
    obtain ⟨k, hk, rfl, hG, hBr⟩ := hrel
    by_cases hlt : k < count
    · have hck := hG.at (m + k)
      rw [List.getElem?_eq_getElem (by rw [List.length_map, lebRow_len _ _ _ _ hk, hml.out]; omega)] at hck
      have hfr := hG.free (m + k)
      have hG' := hG.put (m + k) (isB (hiD n k))
      rw [← List.map_set] at hG'
      have hrow := lebRow_set pre n count k hlt
      rw [hml.out] at hrow
      rw [hrow] at hG'
      have HG' := hid hG'
      have HV := hid (hi_val n k)
      clear hG' hrow hG
      go_wp2
      go_roundw
      case rel =>
        rw [HV.out]
        exact ⟨k + 1, by omega, by go_num, HG'.out, hBr.setCell (Nat.le_refl _) _⟩
      case measure => simp [intOf]; omega
    · obtain rfl : k = count := by omega
      obtain ⟨j, rfl⟩ : ∃ j, k = j + 1 := ⟨k - 1, by omega⟩
      have hl := lebRow_last pre n j
      have hf := lebRow_fin pre n j
      rw [hml.out] at hl hf
      have hck := hG.at (m + j)
      rw [List.getElem?_map, hl, Option.map_some] at hck
      unfold isB at hck
      have hfr := hG.free (m + j)
      have hG' := hG.put (m + j) (isB (loD n j))
      rw [← List.map_set, hf] at hG'
      have HG' := hid hG'
      have HV := hid (lo_val n j)
      clear hG' hf hl hG
      go_wp2
      go_ret
      rw [HV.out]
      exact ⟨_, rfl, HG'.out, hBr.setCell (Nat.le_refl _) _, Nat.le_refl _⟩

theorem lebput_ok {w : World} {A : Option Addr} {m c : Nat} {pre : List UInt8} (n : Nat) (hn : n < 18446744073709551616) (hX : RdB w A m pre) (hm : m ≤ 2147483648) :
    Calls Try.prog 36 #[.slice A m c, .int .u64 n] w fun e w' => ∃ g, e = .returned (.slice (some ⟨g, 0, none⟩) (m + lenD n) (m + lenD n)) ∧
      Blk w' g 5 ((pre ++ padD n (lenD n)).map isB) ∧ Below w.heap.size w w' ∧ w.heap.size ≤ g := by
  obtain ⟨h1, h10, _, _⟩ := lenD_spec n hn
  have HL := hid (len_ok n hn)
  clear hn
  go_enter Try.func36, Try.ntmps36
  go_wp2_with fail
  refine (HL.out w).mono ?_
  rintro e w1 ⟨rfl, rfl⟩
  go_wp2_with fail
  refine (lput_ok n (lenD n) hX hm h1 h10).mono ?_
  rintro e w1 ⟨g, rfl, hG, hB, hg⟩
  go_wp2
  go_ret
  exact ⟨g, rfl, hG, hB, hg⟩

theorem pad_ok {w : World} {A : Option Addr} {m c : Nat} {pre : List UInt8} (n count : Nat) (hn : n < 18446744073709551616) (hX : RdB w A m pre) (hm : m ≤ 2147483648) (h1 : lenD n ≤ count) (h10 : count ≤ 10) :
    Calls Try.prog 45 #[.slice A m c, .int .u64 n, .int .i64 count] w fun e w' => ∃ g, e = .returned (.tuple #[.slice (some ⟨g, 0, none⟩) (m + count) (m + count), .int .i64 0]) ∧
      Blk w' g 5 ((pre ++ padD n count).map isB) ∧ Below w.heap.size w w' ∧ w.heap.size ≤ g := by
  obtain ⟨g1, _, _, _⟩ := lenD_spec n hn
  have HL := hid (len_ok n hn)
  have d0 : decide (count < lenD n) = false := by simp; omega
  have d1 : decide ((10 : Int) < (count : Int)) = false := by simp; omega
  clear hn
  go_enter Try.func45, Try.ntmps45
  go_wp2_with fail
  refine (HL.out w).mono ?_
  rintro e w1 ⟨rfl, rfl⟩
  go_wp2_with fail
  refine (lput_ok n count hX hm (by omega) h10).mono ?_
  rintro e w1 ⟨g, rfl, hG, hB, hg⟩
  go_wp2
  go_ret2
  exact ⟨g, rfl, hG, hB, hg⟩

theorem pad_no {w : World} {A : Option Addr} {m c : Nat} (n : Nat) (count : Int) (hn : n < 18446744073709551616) (h1 : count < (lenD n : Int) ∨ 10 < count) :
    Calls Try.prog 45 #[.slice A m c, .int .u64 n, .int .i64 count] w fun e w' => e = .returned (.tuple #[.slice none 0 0, .int .i64 1]) ∧ w = w' := by
  have HL := hid (len_ok n hn)
  clear hn
  by_cases h0 : count < (lenD n : Int)
  · have d0 : decide (count < (lenD n : Int)) = true := by simp [h0]
    go_enter Try.func45, Try.ntmps45
    go_wp2_with fail
    refine (HL.out w).mono ?_
    rintro e w1 ⟨rfl, rfl⟩
    go_wp2
    go_ret2
    exact ⟨rfl, rfl⟩
  · have d0 : decide (count < (lenD n : Int)) = false := by simp [h0]
    have d1 : decide (10 < count) = true := by simp; omega
    go_enter Try.func45, Try.ntmps45
    go_wp2_with fail
    refine (HL.out w).mono ?_
    rintro e w1 ⟨rfl, rfl⟩
    go_wp2
    go_ret2
    exact ⟨rfl, rfl⟩
end Go.Proofs.Ytkbddjmfccbcoaa
