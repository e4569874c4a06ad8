/- class: two sets compared. -/
import Derived.Test.YtimffgmbchpfeaaCls
import Derived.Laws.StructEq
namespace Go.Proofs.Ytimffgmbchpfeaa
open Go.RowKit

theorem bs_eq_words (a b : BS) : decide (a = b) = ((((wd a 0 : Nat) : Int) == ((wd b 0 : Nat) : Int)) && ((((wd a 1 : Nat) : Int) == ((wd b 1 : Nat) : Int)) && ((((wd a 2 : Nat) : Int) == ((wd b 2 : Nat) : Int)) && (((wd a 3 : Nat) : Int) == ((wd b 3 : Nat) : Int))))) := by
  rw [Bool.eq_iff_iff]
  simp only [decide_eq_true_eq, Bool.and_eq_true, beq_iff_eq]
  constructor
  · rintro rfl; exact ⟨rfl, rfl, rfl, rfl⟩
  · rintro ⟨h0, h1, h2, h3⟩
    exact bs_ext (by omega) (by omega) (by omega) (by omega)

theorem run_eq4 (T : TypeId) (hT : Try.prog.underlying T = some (.array 4 22)) (d : Nat) (x0 x1 x2 x3 y0 y1 y2 y3 : Int) (w : World) :
    (Op.equalIn (d + 1 + 1) T (.agg #[.int .u64 x0, .int .u64 x1, .int .u64 x2, .int .u64 x3]) (.agg #[.int .u64 y0, .int .u64 y1, .int .u64 y2, .int .u64 y3])).run Try.prog w =
      .ok ((x0 == y0) && ((x1 == y1) && ((x2 == y2) && (x3 == y3)))) w := by
  have hs : (sizeOf 22).run Try.prog w = .ok 1 w := by kernel_rfl
  have he : ∀ x y, (Op.equalIn (d + 1) 22 (.int .u64 x) (.int .u64 y)).run Try.prog w = .ok (x == y) w := fun x y => run_equalIn_int w d 22 .u64 .u64 x y Try.underlying22
  rw [Op.equalIn]
  simp only [Sem.run_bind, run_underlying hT, Result.andThen_ok, hs]
  rw [Std.Legacy.Range.forIn_eq_forIn_range']
  simp only [List.range', Std.Legacy.Range.size, Nat.sub_zero, Nat.reduceAdd, Nat.reduceSub, Nat.reduceDiv, List.forIn_cons, List.forIn_nil]
  by_cases h0 : x0 = y0
  · by_cases h1 : x1 = y1
    · by_cases h2 : x2 = y2
      · by_cases h3 : x3 = y3 <;> simp [part, he, h0, h1, h2, h3]
      · simp [part, he, h0, h1, h2]
    · simp [part, he, h0, h1]
  · simp [part, he, h0]

theorem run_eqSet (a b : BS) (w : World) : (binOp .eql 65 (setV a) (setV b)).run Try.prog w = .ok (.bool (decide (a = b))) w := by
  unfold setV
  rw [run_eql_struct, run_eq4 65 Try.underlying65 9998, Result.andThen_ok, bs_eq_words]
theorem run_neSet (a b : BS) (w : World) : (binOp .neq 65 (setV a) (setV b)).run Try.prog w = .ok (.bool (!decide (a = b))) w := by
  unfold setV
  rw [run_neq_struct, run_eq4 65 Try.underlying65 9998, Result.andThen_ok, bs_eq_words]
end Go.Proofs.Ytimffgmbchpfeaa
