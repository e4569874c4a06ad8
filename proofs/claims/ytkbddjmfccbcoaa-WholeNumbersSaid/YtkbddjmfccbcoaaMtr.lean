/- leb's Meter, and Read. -/
import Derived.Test.YtkbddjmfccbcoaaLeb
import Derived.Test.YtkbddjmfccbcoaaOctB
import Derived.RegionTactic
namespace Go.Proofs.Ytkbddjmfccbcoaa
open Go.RowKit

/-- A meter: block q; the number so far, and of how many bytes. -/
def Mtr (w : World) (q : Nat) (lenient : Bool) (v cnt : Nat) : Prop := Blk w q 64 [.bool lenient, .int .u64 (v : Int), .int .i64 (cnt : Int)]

section
variable {w : World} {q v cnt : Nat} {lenient : Bool}
theorem Mtr.c0 (h : Mtr w q lenient v cnt) : w.cell? ⟨q, 0, none⟩ = some (.bool lenient) := h.at 0
theorem Mtr.c1 (h : Mtr w q lenient v cnt) : w.cell? ⟨q, 1, none⟩ = some (.int .u64 (v : Int)) := h.at 1
theorem Mtr.c2 (h : Mtr w q lenient v cnt) : w.cell? ⟨q, 2, none⟩ = some (.int .i64 (cnt : Int)) := h.at 2
theorem Mtr.f1 (h : Mtr w q lenient v cnt) : w.frozen? ⟨q, 1, none⟩ = false := h.free 1
theorem Mtr.f2 (h : Mtr w q lenient v cnt) : w.frozen? ⟨q, 2, none⟩ = false := h.free 2
end

theorem Mtr.grown {w w' : World} {q v cnt : Nat} {lenient : Bool} {row : Option Nat} (h : Mtr w q lenient v cnt) (hg : w.grownBy w' row) (hr : some q ≠ row) : Mtr w' q lenient v cnt := Blk.grown h hg hr

theorem value_any {w : World} {q v cnt : Nat} {lenient : Bool} (h : Mtr w q lenient v cnt) :
    Calls Try.prog 41 #[.pointer (some ⟨q, 0, none⟩)] w fun e w' => e = .returned (.int .u64 v) ∧ w = w' := by
  have c1 := h.c1
  go_enter Try.func41, Try.ntmps41
  go_wp2
  go_ret
  exact ⟨rfl, rfl⟩
theorem count_any {w : World} {q v cnt : Nat} {lenient : Bool} (h : Mtr w q lenient v cnt) :
    Calls Try.prog 42 #[.pointer (some ⟨q, 0, none⟩)] w fun e w' => e = .returned (.int .i64 cnt) ∧ w = w' := by
  have c2 := h.c2
  go_enter Try.func42, Try.ntmps42
  go_wp2
  go_ret
  exact ⟨rfl, rfl⟩

theorem step_var {w : World} {q v cnt : Nat} {lenient : Bool} (h : Mtr w q lenient v cnt) (b : UInt8) (hb : 10 ≤ cnt ∨ cnt = 9 ∧ 1 < b.toNat) :
    Calls Try.prog 40 #[.pointer (some ⟨q, 0, none⟩), .int .u8 (b.toNat : Int)] w fun e w' => e = .returned (.tuple #[.bool false, .int .i64 20]) ∧ w = w' := by
  have c2 := h.c2
  rcases hb with hb | ⟨rfl, hb⟩
  · have d0 : decide ((10 : Int) ≤ cnt) = true := by simp; omega
    go_enter Try.func40, Try.ntmps40
    go_wp2
    go_ret2
    exact ⟨rfl, rfl⟩
  · have d0 : decide ((1 : Int) < (b.toNat : Int)) = true := by simp; omega
    go_enter Try.func40, Try.ntmps40
    go_wp2
    go_ret2
    exact ⟨rfl, rfl⟩

theorem step_canon {w : World} {q v cnt : Nat} (h : Mtr w q false v cnt) (h0 : 0 < cnt) (h9 : cnt ≤ 9) :
    Calls Try.prog 40 #[.pointer (some ⟨q, 0, none⟩), .int .u8 0] w fun e w' => e = .returned (.tuple #[.bool false, .int .i64 21]) ∧ w = w' := by
  have c0 := h.c0
  have c2 := h.c2
  have d0 : decide ((10 : Int) ≤ cnt) = false := by simp; omega
  have d2 : decide ((0 : Int) < cnt) = true := by simp; omega
  by_cases e9 : cnt = 9
  · subst e9
    go_enter Try.func40, Try.ntmps40
    go_wp2
    go_ret2
    exact ⟨rfl, rfl⟩
  · have d1 : ((cnt : Int) == 9) = false := by simp; omega
    go_enter Try.func40, Try.ntmps40
    go_wp2
    go_ret2
    exact ⟨rfl, rfl⟩

theorem step_canon0 {w : World} {q v cnt : Nat} (h : Mtr w q false v cnt) (b : UInt8) (hb : b.toNat = 0) (h0 : 0 < cnt) (h9 : cnt ≤ 9) :
    Calls Try.prog 40 #[.pointer (some ⟨q, 0, none⟩), .int .u8 (b.toNat : Int)] w fun e w' => e = .returned (.tuple #[.bool false, .int .i64 21]) ∧ w = w' := by
  have h := step_canon h h0 h9
  rw [hb]
  exact h

/-- What stands behind a byte that was taken. -/
def Took1 (w w' : World) (q : Nat) (lenient : Bool) (v cnt : Nat) (b : UInt8) (e : Ending) : Prop :=
  e = .returned (.tuple #[.bool (decide ((b.toNat : Int) < 128)), .int .i64 0]) ∧ Mtr w' q lenient (v + b.toNat % 128 * 128 ^ cnt) (cnt + 1) ∧ w.grownBy w' (some q)

theorem took1 {w : World} {q v cnt : Nat} {lenient : Bool} (h : Mtr w q lenient v cnt) (b : UInt8) (h9 : cnt ≤ 9) (hv : v < 128 ^ cnt) (hb : cnt = 9 → b.toNat ≤ 1) :
    Took1 w ((w.setCell ⟨q, 1, none⟩ (.int .u64 (bits .or .u64 (v : Int) (IntKind.u64.wrap (IntKind.u64.wrap (bits .andNot .u8 (b.toNat : Int) 128) * 2 ^ (7 * cnt)))))).setCell ⟨q, 2, none⟩ (.int .i64 ((cnt : Int) + 1))).drew q lenient v cnt b
      (.returned (.tuple #[.bool (decide ((b.toNat : Int) < 128)), .int .i64 0])) := by
  rw [step_val v cnt b hv h9 hb]
  refine ⟨rfl, (Blk.put h 1 _).put 2 _, ?_⟩
  have g1 := grown_set w 0 q 1 (.int .u64 ((v + b.toNat % 128 * 128 ^ cnt : Nat) : Int))
  have g2 := grown_set (w.setCell ⟨q, 1, none⟩ (.int .u64 ((v + b.toNat % 128 * 128 ^ cnt : Nat) : Int))) 0 q 2 (.int .i64 ((cnt : Int) + 1))
  have g3 := grown_trans g1 g2
  exact ⟨g3.os, g3.tape, g3.output, g3.size, g3.block⟩

theorem step_ok {w : World} {q v cnt : Nat} {lenient : Bool} (h : Mtr w q lenient v cnt) (b : UInt8) (h9 : cnt ≤ 9) (hv : v < 128 ^ cnt) (hb : cnt = 9 → b.toNat ≤ 1) (hc : ¬ (b.toNat = 0 ∧ 0 < cnt ∧ lenient = false)) :
    Calls Try.prog 40 #[.pointer (some ⟨q, 0, none⟩), .int .u8 (b.toNat : Int)] w fun e w' => Took1 w w' q lenient v cnt b e := by
  have c0 := h.c0
  have c1 := h.c1
  have c2 := h.c2
  have f1 := h.f1
  have f2 := h.f2
  have HF := hid (took1 h b h9 hv hb)
  have d0 : decide ((10 : Int) ≤ cnt) = false := by simp; omega
  have hbl := b.toNat_lt
  clear hv
  have h1 : ((cnt : Int) == 9) = true ∧ decide ((1 : Int) < (b.toNat : Int)) = false ∨ ((cnt : Int) == 9) = false ∧ cnt ≤ 9 := by
    rcases (show cnt = 9 ∨ cnt < 9 by omega) with e | e
    · exact .inl ⟨by simp [e], by have := hb e; simp; omega⟩
    · exact .inr ⟨by simp; omega, h9⟩
  have h2 : ((b.toNat : Int) == 0) = false ∨ ((b.toNat : Int) == 0) = true ∧ (cnt : Int) < 1 ∨ ((b.toNat : Int) == 0) = true ∧ (0 : Int) < (cnt : Int) ∧ lenient = true := by
    by_cases e : b.toNat = 0
    · by_cases e2 : 0 < cnt
      · refine .inr (.inr ⟨by simp [e], by omega, ?_⟩)
        cases lenient
        · exact absurd ⟨e, e2, rfl⟩ hc
        · rfl
      · exact .inr (.inl ⟨by simp [e], by omega⟩)
    · exact .inl (by simp; omega)
  clear hb hc
  rcases h1 with ⟨d5, d1⟩ | ⟨d1, _⟩ <;> rcases h2 with d2 | ⟨d2, d3⟩ | ⟨d2, d3, rfl⟩
  all_goals first
    | (exfalso; simp only [beq_iff_eq] at d5; omega)
    | (go_enter Try.func40, Try.ntmps40
       go_wp2
       go_region
       all_goals (go_wp2; go_ret2; exact HF.out))
end Go.Proofs.Ytkbddjmfccbcoaa
