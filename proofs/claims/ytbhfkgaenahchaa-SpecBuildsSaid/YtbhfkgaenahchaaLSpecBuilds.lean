/- For every specification the law SpecBuilds returns true, and what came in reads as before; no condition. -/
import Derived.Test.YtbhfkgaenahchaaSpWs
import Derived.Test.YtbhfkgaenahchaaWBuilds
namespace Go.Proofs.Ytbhfkgaenahchaa.specBuildsLaw
open Go.ChangeShapes Go.WideShapes Go.ChangeAt Go.RowKit
set_option linter.unusedSimpArgs false
set_option linter.unusedVariables false

theorem walk (x0 : SpV) (w : World) (w0 : SpecOk w (· < w.heap.size) x0 ∧ (∀ y ∈ x0.vs, Wfn y.t) ∧ (∀ y ∈ x0.ds, I64 y.ty) ∧ x0.N.n ≤ maxLen ∧ x0.D.n ≤ maxLen) (hnm : ∀ v ∈ x0.vs, ∀ f ∈ v.t.fs, f.nm.size ≤ 140737488355328) :
    Calls Try.prog 4 #[x0.val] w fun e w' => e = .returned (.bool true) ∧ Below w.heap.size w w' := by
  exact bld_walk x0 w w0.1 w0.2.2.2.1 hnm

set_option maxRecDepth 100000 in
theorem lifted (os : Os) (started : os.Started) (H : Type) (enc : TypeId × Value → H) :
    ReturnsInHanded {} Try.checked os 4 .any (Rows.specBuildsSpec.pre6 enc Try.prog Try.f4 Rows.specBuildsRow.domain false) (Rows.specBuildsSpec.post enc Try.prog Try.f4 false true false false) := by
  refine returnsInHanded_of_change_sized (C := Try.checked) own started (by kernel_rfl) Try.func4
    (ChangeSpec.witness6 (enc := enc) (C := Try.checked) false ⟨#[], #[.agg #[.slice none 0 0, .slice none 0 0]], []⟩ 8 (by kernel_rfl) (by kernel_rfl) (by kernel_rfl) (by kernel_rfl)) ?_
  intro W base args ds gs before hval0 hW hcnd hsz _
  have hval : ∀ (j : Nat) t v, Try.f4.params[j]? = some t → args[j]? = some v → Value.okWide Try.prog W .any base t v := hval0
  have hW' := hW
  obtain ⟨p, q, hA0, hV, rfl, hfz, hnd⟩ := hW
  have hA : DataW.TrodAll enc Try.prog W 0 (fun _ => true) true Try.f4.params.toList args.toList ds p := hA0
  rw [Try.params4] at hA hval
  obtain ⟨v0, vs0, d0, ds0, p0, q0, hargs, rfl, rfl, h0, r0⟩ := trodAll_cons hA
  obtain ⟨rfl, rfl, rfl⟩ := trodAll_nil r0
  obtain rfl : args = #[v0] := by cases args; simp_all
  obtain ⟨rfl, rfl⟩ := trodVars_none hV
  have k0 := h0
  have lt0 : ∀ x ∈ p0, x.block < W.heap.size := by obtain ⟨m, hm⟩ := k0; exact DataW.trod_lt m _ _ _ hm
  obtain ⟨x0, rfl, w0⟩ := open_spec h0
  have hnm : ∀ v ∈ x0.vs, ∀ f ∈ v.t.fs, f.nm.size ≤ 140737488355328 := fun v hv f hf => Nat.le_trans (names_short k0 rfl w0.1 (R := reachBytes) (fun n hn => by
    have := List.all_eq_true.1 hsz n (DataW.weights_mem_each (j := 0) (by rw [Try.params4]; rfl) rfl n hn)
    simpa using this) v hv f hf) (by decide)
  clear hA0 hval0
  refine (walk x0 W w0 hnm).mono fun e W' ⟨he, bel⟩ => ?_
  subst he
  exact ⟨_, rfl, _, _, _, [], _, [], hW', trodAll_mk1 (shut_bool Try.underlying4 _), (trodAll_cons_mk (Below.trod laidOut (by kernel_rfl) (of_decide_eq_true (by kernel_rfl)) k0 bel lt0) trodAll_mk0), rfl, bel.frame _, fun h => by cases h⟩

theorem over : Rows.specBuildsRow.holds Try.pinned (OpenSpec.ofChange Rows.specBuildsSpec) :=
  OpenClaim.holds_of_wide 4 Try.f4 rfl rfl rfl rfl rfl rfl rfl ⟨rfl, rfl, rfl, rfl, rfl⟩ rfl rfl rfl rfl rfl (by kernel_rfl) Try.func4 (by kernel_rfl)
    (of_decide_eq_true (by kernel_rfl)) (by unfold Func.isWrapper; first | (rw [if_pos (by decide +kernel)]; kernel_rfl) | (rw [if_neg (by decide +kernel)]; exact ⟨rfl, rfl⟩))
    (fun os started H enc _ => lifted os started H enc)

/-- The given statement. -/
theorem proved : Rows.SpecBuildsSaid := over
end Go.Proofs.Ytbhfkgaenahchaa.specBuildsLaw
