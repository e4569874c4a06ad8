/- For all numbers without a sign, all most ones and all expressions the law WideInts returns true; no condition. -/
import Derived.Test.YtmbbjhlpfgpibaaRow
import Derived.Test.YtmbbjhlpfgpibaaWInts
import Derived.ChangeMaps5
import Derived.Lib.SmallJoins
namespace Go.Proofs.Ytmbbjhlpfgpibaa.wideIntsLaw
open Go.ChangeShapes Go.WideShapes Go.ChangeAt Go.RowKit
set_option linter.unusedVariables false

theorem walk (a0 : Int) (a1 : Int) (s2 : ByteArray) (m2 q2 : Int) (w : World) (w0 : (Lit.int .u64 a0).wf = true) (w1 : (Lit.int .i64 a1).wf = true) (wm2 : (Lit.int .u64 m2).wf = true) (wq2 : (Lit.int .u64 q2).wf = true) :
    Calls Try.prog 13 #[.int .u64 a0, .int .i64 a1, .agg #[.string s2, .int .u64 m2, .int .u64 q2]] w fun e w' => e = .returned (.bool true) ∧ Below w.heap.size w w' := by
  obtain ⟨h0, h1⟩ := wf_u64_bounds w0
  obtain ⟨h2, h3⟩ := wf_i64_bounds w1
  obtain ⟨h4, h5⟩ := wf_u64_bounds wm2
  obtain ⟨h6, h7⟩ := wf_u64_bounds wq2
  obtain ⟨x, rfl⟩ := Int.eq_ofNat_of_zero_le h0
  obtain ⟨y, rfl⟩ := Int.eq_ofNat_of_zero_le h4
  obtain ⟨z, rfl⟩ := Int.eq_ofNat_of_zero_le h6
  exact wideInts_law x a1 s2 y z (by omega) h3 (by omega) (by omega) w

set_option maxRecDepth 100000 in
theorem lifted (os : Os) (started : os.Started) (H : Type) (enc : TypeId × Value → H) :
    ReturnsInHanded {} Try.checked os 13 .any (Rows.wideIntsSpec.pre6 enc Try.prog Try.f13 Rows.wideIntsRow.domain false) (Rows.wideIntsSpec.post enc Try.prog Try.f13 false true false false) := by
  refine returnsInHanded_of_change (C := Try.checked) own started (by kernel_rfl) Try.func13
    (ChangeSpec.witness6 (enc := enc) (C := Try.checked) false ⟨#[], #[.int .u64 0, .int .i64 0, .agg #[.string ⟨#[]⟩, .int .u64 0, .int .u64 0]], []⟩ 8 (by kernel_rfl) (by kernel_rfl) (by kernel_rfl) (by kernel_rfl)) ?_
  intro W base args ds gs before hval0 hW hcnd _
  have hval : ∀ (j : Nat) t v, Try.f13.params[j]? = some t → args[j]? = some v → Value.okWide Try.prog W .any base t v := hval0
  have hW' := hW
  obtain ⟨p, q, hA0, hV, rfl, hfz, hnd⟩ := hW
  have hA : DataW.TrodAll enc Try.prog W 0 (fun _ => true) true Try.f13.params.toList args.toList ds p := hA0
  rw [Try.params13] at hA hval
  obtain ⟨v0, vs0, d0, ds0, p0, q0, hargs, rfl, rfl, h0, r0⟩ := trodAll_cons hA
  obtain ⟨v1, vs1, d1, ds1, p1, q1, rfl, rfl, rfl, h1, r1⟩ := trodAll_cons r0
  obtain ⟨v2, vs2, d2, ds2, p2, q2, rfl, rfl, rfl, h2, r2⟩ := trodAll_cons r1
  obtain ⟨rfl, rfl, rfl⟩ := trodAll_nil r2
  obtain rfl : args = #[v0, v1, v2] := by cases args; simp_all
  obtain ⟨rfl, rfl⟩ := trodVars_none hV
  obtain ⟨a0, rfl, rfl, rfl, w0⟩ := open_int Try.underlying41 (hval 0 41 v0 rfl rfl) h0
  obtain ⟨a1, rfl, rfl, rfl, w1⟩ := open_int Try.underlying3 (hval 1 3 v1 rfl rfl) h1
  have k2 := h2
  have lt2 : ∀ x ∈ p2, x.block < W.heap.size := by obtain ⟨m, hm⟩ := k2; exact DataW.trod_lt m _ _ _ hm
  obtain ⟨u2, u2_, u2__, y2, y2_, y2__, nf2, rfl, _, _, t2, t2_, t2__⟩ := Go.Joins.open_agg3 Try.underlying77 (by kernel_rfl) (by kernel_rfl) (hval 2 77 v2 rfl rfl) h2
  obtain ⟨s2, hs2, _, _⟩ := DataW.trod_string Try.underlying9 t2
  obtain ⟨m2, hm2, _, wm2⟩ := DataW.trod_int Try.underlying41 t2_
  obtain ⟨q2, hq2, _, wq2⟩ := DataW.trod_int Try.underlying41 t2__
  simp only [List.cons.injEq, and_true] at hs2 hm2 hq2
  subst hs2 hm2 hq2
  clear hA0 hval0
  refine (walk a0 a1 s2 m2 q2 W w0 w1 wm2 wq2).mono fun e W' ⟨he, bel⟩ => ?_
  subst he
  exact ⟨_, rfl, _, _, _, [], _, [], hW', trodAll_mk1 (shut_bool Try.underlying4 _), (trodAll_cons_mk (shut_int Try.underlying41 w0) (trodAll_cons_mk (shut_int Try.underlying3 w1) (trodAll_cons_mk (Below.trod laidOut (by kernel_rfl) (of_decide_eq_true (by kernel_rfl)) k2 bel lt2) trodAll_mk0))), rfl, bel.frame _, fun h => by cases h⟩

theorem over : Rows.wideIntsRow.holds Try.pinned (OpenSpec.ofChange Rows.wideIntsSpec) :=
  OpenClaim.holds_of_wide 13 Try.f13 rfl rfl rfl rfl rfl rfl rfl ⟨rfl, rfl, rfl, rfl, rfl⟩ rfl rfl rfl rfl rfl (by kernel_rfl) Try.func13 (by kernel_rfl)
    (of_decide_eq_true (by kernel_rfl)) (by unfold Func.isWrapper; first | (rw [if_pos (by decide +kernel)]; kernel_rfl) | (rw [if_neg (by decide +kernel)]; exact ⟨rfl, rfl⟩))
    (fun os started H enc _ => lifted os started H enc)

/-- The given statement. -/
theorem proved : Rows.WideIntsSaid := over
end Go.Proofs.Ytmbbjhlpfgpibaa.wideIntsLaw
