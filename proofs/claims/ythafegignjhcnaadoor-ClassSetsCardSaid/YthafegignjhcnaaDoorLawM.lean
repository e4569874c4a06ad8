/- class's laws: plain facts on sets. -/
import Derived.Test.YthafegignjhcnaaDoorBytes
import Derived.Test.YthafegignjhcnaaDoorOfR
namespace Go.Proofs.YthafegignjhcnaaDoor
open Go.RowKit

theorem ofL_bytes (a : BS) : ofL (toB (bytesOf a)) = a := by
  refine bs_has_ext fun c hc => ?_

  rw [has_ofL]
  rw [Bool.eq_iff_iff, List.any_eq_true]
  constructor
  · rintro ⟨d, hd, he⟩
    obtain ⟨x, hx, rfl⟩ := List.mem_map.1 hd
    have hlt := bytesOf_lt a x hx
    have : x.toUInt8.toNat = x := by simp; omega
    rw [this] at he
    have hxc : x = c := by simpa using he
    subst hxc
    exact (mem_bytesOf a x).1 hx
  · intro h
    refine ⟨c.toUInt8, List.mem_map.2 ⟨c, (mem_bytesOf a c).2 h, rfl⟩, ?_⟩
    have : c.toUInt8.toNat = c := by simp; omega
    simp [this]
theorem filter_or_and (p q : Nat → Bool) (l : List Nat) : (l.filter p).length + (l.filter q).length = (l.filter fun x => p x || q x).length + (l.filter fun x => p x && q x).length := by
  induction l with
  | nil => rfl
  | cons x l ih =>
    simp only [List.filter_cons]
    cases p x <;> cases q x <;> simp <;> omega
theorem bytesOf_le (a : BS) : (bytesOf a).length ≤ 256 := by
  have := List.length_filter_le (has a) (List.range 256)
  simpa [bytesOf] using this
theorem len_or_and (a b : BS) : (bytesOf a).length + (bytesOf b).length = (bytesOf (a ||| b)).length + (bytesOf (a &&& b)).length := by
  have h := filter_or_and (has a) (has b) (List.range 256)
  unfold bytesOf
  have e1 : (fun x => has a x || has b x) = has (a ||| b) := by funext x; simp [has]
  have e2 : (fun x => has a x && has b x) = has (a &&& b) := by funext x; simp [has]
  rw [e1, e2] at h
  exact h
end Go.Proofs.YthafegignjhcnaaDoor
