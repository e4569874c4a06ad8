/- class: Bytes. -/
import Derived.Test.YtplldfbjbekdlaaDoorFirst
import Derived.RangeFuncBox
import Derived.Maps.AppendAt
import Derived.Laws.MakeOwn
namespace Go.Proofs.YtplldfbjbekdlaaDoor
set_option linter.unusedVariables false
set_option linter.unusedSimpArgs false
open Go.RowKit Go.Shelf
attribute [local go_sem] Oper.semAt_some

def toB (l : List Nat) : List UInt8 := l.map Nat.toUInt8
theorem toB_snoc (l : List Nat) (x : Nat) : (toB (l ++ [x])).map isB = (toB l).map isB ++ [isB x.toUInt8] := by simp [toB]
theorem toB_len (l : List Nat) : (toB l).length = l.length := by simp [toB]
theorem isB_of (x : Nat) (hx : x < 256) : isB x.toUInt8 = .int .u8 (x : Int) := by
  unfold isB
  rw [show x.toUInt8.toNat = x from by simp; omega]
theorem run_makeB0 (n : Nat) (hn : n ≤ 4294967296) (w : World) :
    (Instr.makeSlice 49 (.int .i64 0) (.int .i64 (n : Int))).run Tryd.prog w = .ok (.slice (some ⟨w.heap.size, 0, none⟩) 0 n) (w.alloc (.cells (zeros n) 5)) := by
  obtain ⟨i0, hi, hz0, hz1, hz2⟩ := info_parts info_b
  have hr := run_make (P := Tryd.prog) w 49 5 i0 (.int .u8 0) Tryd.underlying49 hi hz0 .i64 .i64 0 n (by omega) (by omega) (by rw [hz2]; omega) (by omega)
  rw [hz1] at hr
  simp only [Int.toNat_natCast, Nat.mul_one, made_zeros] at hr
  exact hr
theorem own_zero (w : World) (n : Nat) (hn : n ≤ 4294967296) : (w.alloc (.cells (zeros n) 5)).ownsRow w.heap.size 5 1 (.slice (some ⟨w.heap.size, 0, none⟩) 0 n) 0 [] :=
  ⟨rfl, .inr ⟨w.heap.size, n, _, rfl, Nat.le_refl _, heap_alloc_new w _, Nat.zero_le _, by simp only [maxLen]; omega, by simp [zeros], by simp⟩⟩

end Go.Proofs.YtplldfbjbekdlaaDoor
