/- The rest of a reader's calls: Take, Skip, Number; Width, Most. -/
import Derived.Test.YtmbbjhlpfgpibaaOct
import Derived.Test.YtmbbjhlpfgpibaaMem
namespace Go.Proofs.Ytmbbjhlpfgpibaa
open Go.RowKit

theorem width_yes {w : World} (width : Int) (h1 : 1 ≤ width) (h8 : width ≤ 8) :
    Calls Try.prog 56 #[.int .i64 width] w fun e w' => e = .returned (.bool true) ∧ w = w' := by
  go_enter Try.func56, Try.ntmps56
  go_wp2
  go_ret
  exact ⟨rfl, rfl⟩

theorem width_no {w : World} (width : Int) (hw : width < 1 ∨ 8 < width) :
    Calls Try.prog 56 #[.int .i64 width] w fun e w' => e = .returned (.bool false) ∧ w = w' := by
  rcases hw with hw | hw
  · have hd : decide (1 ≤ width) = false := by simp; omega
    go_enter Try.func56, Try.ntmps56
    go_wp2
    go_ret
    exact ⟨rfl, rfl⟩
  · have h1 : 1 ≤ width := by omega
    have hd : decide (width ≤ 8) = false := by simp; omega
    go_enter Try.func56, Try.ntmps56
    go_wp2
    go_ret
    exact ⟨rfl, rfl⟩

/-- New, told by what it is good for. -/
theorem new_rd {w : World} {A : Option Addr} {n c : Nat} {l : List UInt8} (hD : RdB w A n l) (hc : n ≤ c) (hl : c ≤ 9223372036854775807) :
    Calls Try.prog 39 #[.slice A n c] w fun e w' => ∃ p, e = .returned (.pointer (some ⟨p, 0, none⟩)) ∧ Rdr w' p A n c 0 l ∧ Below w.heap.size w w' ∧ w.heap.size ≤ p := by
  refine (new_any A n c w).mono ?_
  rintro e w' ⟨rfl, rfl⟩
  exact ⟨_, rfl, Rdr.fresh hD hc hl, (Below.refl _ _).alloc (Nat.le_refl _) _, Nat.le_refl _⟩

theorem take_neg {w : World} {p : Nat} (m : Int) (hm : m < 0) :
    Calls Try.prog 41 #[.pointer (some ⟨p, 0, none⟩), .int .i64 m] w fun e w' => e = .returned (.tuple #[.slice none 0 0, .int .i64 1]) ∧ w = w' := by
  go_enter Try.func41, Try.ntmps41
  go_wp2_with (go_at_call 58; refine (next_neg m hm).mono ?_; rintro e w' ⟨rfl, rfl⟩)
  go_ret2
  exact ⟨rfl, rfl⟩

theorem take_end {w : World} {p : Nat} {A : Option Addr} {n c rd : Nat} {l : List UInt8} (hR : Rdr w p A n c rd l) (m : Int) (hm : (n : Int) - rd < m) :
    Calls Try.prog 41 #[.pointer (some ⟨p, 0, none⟩), .int .i64 m] w fun e w' => e = .returned (.tuple #[.slice none 0 0, .int .i64 10]) ∧ ∃ k, w.drewN k = w' := by
  go_enter Try.func41, Try.ntmps41
  go_wp2_with (go_at_call 58; refine (next_end hR m hm).mono ?_; rintro e w' ⟨rfl, k, rfl⟩)
  go_ret2
  exact ⟨rfl, _, rfl⟩

/-- The next m bytes were read, and lie in a block of their own. -/
def Took (w w' : World) (p : Nat) (A : Option Addr) (n c rd m : Nat) (l : List UInt8) (e : Ending) : Prop :=
  ∃ g, e = .returned (.tuple #[.slice (some ⟨g, 0, none⟩) m m, .int .i64 0]) ∧ Blk w' g 5 (((l.drop rd).take m).map isB) ∧ w.heap.size ≤ g ∧ Rdr w' p A n c (rd + m) l ∧ w.grownBy w' (some p)

theorem take_ok {w : World} {p : Nat} {A : Option Addr} {n c rd m : Nat} {l : List UInt8} (hR : Rdr w p A n c rd l) (h1 : rd + m ≤ n) (hm : m ≤ 4294967296) :
    Calls Try.prog 41 #[.pointer (some ⟨p, 0, none⟩), .int .i64 m] w fun e w' => Took w w' p A n c rd m l e := by
  have hlen := hR.len
  have hXl : ((l.drop rd).take m).length = m := by simp; omega
  generalize hX : (l.drop rd).take m = X at *
  have HX := hid hX
  clear hX
  have hmk := run_makeB m hm
  go_enter Try.func41, Try.ntmps41
  go_wp2_with fail
  refine (next_ok hR h1).mono ?_
  rintro e w1 ⟨A', c', rfl, hb, ha, hm', hc, hr, hg⟩
  have HXl := hid hXl
  clear hXl
  rw [HX.out] at hb
  go_wp2_with (with_reducible refine wpList_copyB rfl (.tmp 21) (.tmp 22) rfl _ _ _ rfl _ _ _ rfl w1.heap.size 0 (zeros m).toList (Blk.zeros_ w1 m) X (hb.alloc _) (fun _ => rfl) (Nat.le_refl _) (by rw [zeros_len]; omega) ?_; intro w2 HG hg2)
  go_ret2
  have hG := HG.out
  rw [splice_zeros m X HXl.out] at hG
  have hbl := below_fresh hg2
  exact ⟨w1.heap.size, rfl, by rw [HX.out]; exact hG, hg.size, hr.below hbl, grown_trans hg (grown_of_below hbl _)⟩

theorem num_range {w : World} {p : Nat} (width : Int) (little : Bool) (hw : width < 1 ∨ 8 < width) :
    Calls Try.prog 40 #[.pointer (some ⟨p, 0, none⟩), .int .i64 width, .bool little] w fun e w' => e = .returned (.tuple #[.int .u64 0, .int .i64 1]) ∧ w = w' := by
  go_enter Try.func40, Try.ntmps40
  go_wp2_with (go_at_call 56; refine (width_no width hw).mono ?_; rintro e w' ⟨rfl, rfl⟩)
  go_ret2
  exact ⟨rfl, rfl⟩

theorem num_end {w : World} {p : Nat} {A : Option Addr} {n c rd : Nat} {l : List UInt8} (hR : Rdr w p A n c rd l) (width : Nat) (little : Bool) (h1 : 1 ≤ width) (h8 : width ≤ 8) (hm : n < rd + width) :
    Calls Try.prog 40 #[.pointer (some ⟨p, 0, none⟩), .int .i64 width, .bool little] w fun e w' => e = .returned (.tuple #[.int .u64 0, .int .i64 10]) ∧ ∃ k, w.drewN k = w' := by
  have hle := hR.le
  go_enter Try.func40, Try.ntmps40
  go_wp2_with (first | (go_at_call 56; refine (width_yes _ (by omega) (by omega)).mono ?_; rintro e w' ⟨rfl, rfl⟩) | (go_at_call 58; refine (next_end hR width (by omega)).mono ?_; rintro e w' ⟨rfl, k, rfl⟩))
  go_ret2
  exact ⟨rfl, _, rfl⟩

theorem num_ok {w : World} {p : Nat} {A : Option Addr} {n c rd width : Nat} {l : List UInt8} (hR : Rdr w p A n c rd l) (little : Bool) (h1 : 1 ≤ width) (h8 : width ≤ 8) (hm : rd + width ≤ n) :
    Calls Try.prog 40 #[.pointer (some ⟨p, 0, none⟩), .int .i64 width, .bool little] w fun e w' => e = .returned (.tuple #[.int .u64 (ofB little ((l.drop rd).take width)), .int .i64 0]) ∧ Rdr w' p A n c (rd + width) l ∧ w.grownBy w' (some p) := by
  go_enter Try.func40, Try.ntmps40
  go_wp2_with (go_at_call 56; refine (width_yes _ (by omega) (by omega)).mono ?_; rintro e w' ⟨rfl, rfl⟩)
  refine (next_ok hR hm).mono ?_
  rintro e w1 ⟨A', c', rfl, hb, ha, hm', hc, hr, hg⟩
  go_wp2_with (go_at_call 59; refine (octOf_any little hb (by omega)).mono ?_; rintro e w' ⟨rfl, rfl⟩)
  go_ret2
  exact ⟨rfl, hr, hg⟩

/-- The greatest number of so many bytes. -/
def mostN (k : Nat) : Nat := 256 ^ k - 1

theorem most_ok {w : World} (width : Nat) (h1 : 1 ≤ width) (h8 : width ≤ 8) :
    Calls Try.prog 57 #[.int .i64 width] w fun e w' => e = .returned (.int .u64 (mostN width)) ∧ w = w' := by
  obtain rfl | rfl | rfl | rfl | rfl | rfl | rfl | rfl : width = 1 ∨ width = 2 ∨ width = 3 ∨ width = 4 ∨ width = 5 ∨ width = 6 ∨ width = 7 ∨ width = 8 := by omega
  all_goals
    go_enter Try.func57, Try.ntmps57
    go_wp2_with (go_at_call 56; refine (width_yes _ (by omega) (by omega)).mono ?_; rintro e w' ⟨rfl, rfl⟩)
    go_ret
    exact ⟨rfl, rfl⟩

theorem most_no {w : World} (width : Int) (hw : width < 1 ∨ 8 < width) :
    Calls Try.prog 57 #[.int .i64 width] w fun e w' => e = .returned (.int .u64 0) ∧ w = w' := by
  go_enter Try.func57, Try.ntmps57
  go_wp2_with (go_at_call 56; refine (width_no width hw).mono ?_; rintro e w' ⟨rfl, rfl⟩)
  go_ret
  exact ⟨rfl, rfl⟩
end Go.Proofs.Ytmbbjhlpfgpibaa
