/- The walk of the law WideSums. -/
import Derived.Test.YtmbbjhlpfgpibaaRec
import Derived.Test.YtmbbjhlpfgpibaaRow
namespace Go.Proofs.Ytmbbjhlpfgpibaa
open Go.RowKit

/-- Numbers together. -/
def sumL (l : List Nat) : Nat := l.foldl (· + ·) 0
theorem sumL_snoc (l : List Nat) (x : Nat) : sumL (l ++ [x]) = sumL l + x := by simp [sumL]
theorem sumL_take_succ (l : List Nat) (k : Nat) (h : k < l.length) : sumL (l.take (k + 1)) = sumL (l.take k) + l[k] := by
  rw [List.take_succ_eq_append_getElem h, sumL_snoc]
theorem foldl_add (l : List Nat) (v : Nat) : l.foldl (· + ·) v = v + sumL l := by
  induction l generalizing v with
  | nil => simp [sumL]
  | cons c l ih =>
    unfold sumL
    simp only [List.foldl_cons]
    rw [ih, ih (0 + c)]
    omega
theorem sumL_take_le (l : List Nat) (k : Nat) : sumL (l.take k) ≤ sumL l := by
  have h : sumL l = sumL (l.take k) + sumL (l.drop k) := by
    conv => lhs; rw [← List.take_append_drop k l]; unfold sumL
    rw [List.foldl_append, foldl_add]
    rfl
  omega

/-- Numbers of 64 bits, where they lie. -/
def RdU (w : World) (A : Option Addr) (n : Nat) (l : List Nat) : Prop :=
  l.length = n ∧ (∀ x ∈ l, x < 18446744073709551616) ∧ (0 < n → ∃ b o, A = some ⟨b, o, none⟩ ∧ b < w.heap.size ∧ ∀ j (h : j < l.length), w.cell? ⟨b, o + j, none⟩ = some (.int .u64 (l[j] : Nat)))
theorem RdI.nat {w : World} {A : Option Addr} {n : Nat} {l : List Int} (h : RdI .u64 w A n l) (hw : ∀ x ∈ l, (Lit.int .u64 x).wf = true) : ∃ u, RdU w A n u := by
  refine ⟨l.map Int.toNat, by simp; exact h.1, fun x hx => ?_, fun hn => ?_⟩
  · obtain ⟨y, hy, rfl⟩ := List.mem_map.1 hx
    have := wf_u64_bounds (hw y hy)
    omega
  · obtain ⟨b, o, e, hb, hc⟩ := h.2 hn
    refine ⟨b, o, e, hb, fun j hj => ?_⟩
    have hj' : j < l.length := by simpa using hj
    have := wf_u64_bounds (hw _ (List.getElem_mem hj'))
    rw [hc j hj']
    simp only [List.getElem_map]
    congr 2
    omega
theorem RdU.below {a b : World} {A : Option Addr} {n : Nat} {l : List Nat} (h : RdU a A n l) (hb : Below a.heap.size a b) : RdU b A n l := by
  refine ⟨h.1, h.2.1, fun hn => ?_⟩
  obtain ⟨g, o, e, hg, hcell⟩ := h.2.2 hn
  exact ⟨g, o, e, Nat.lt_of_lt_of_le hg hb.size, fun j hj => (World.cell?_of_block (w := a) (w' := b) (a := ⟨g, o + j, none⟩) (hb.block g hg)).trans (hcell j hj)⟩

theorem sum_ok {w : World} {A : Option Addr} {n c : Nat} {l : List Nat} (hR : RdU w A n l) (hn : n ≤ 9223372036854775807) (h : sumL l < 18446744073709551616) :
    Calls Try.prog 31 #[.slice A n c] w fun e w' => e = .returned (.tuple #[.int .u64 ((sumL l : Nat) : Int), .int .i64 0]) ∧ w = w' := by
  have HR := hid hR
  have HV := hid h
  have hlen := hid hR.1
  clear hR h
  go_enter Try.func31, Try.ntmps31
  go_wp2
  go_loop [4, 11] (fun v i => ∃ k : Nat, k ≤ n ∧ i = .int .i64 k ∧ v = .int .u64 ((sumL (l.take k) : Nat) : Int)) (fun _ i => n - (intOf i).toNat)
  case atStart => exact ⟨0, by omega, rfl, rfl⟩
  case round =>
    obtain ⟨k, hk, rfl, rfl⟩ := hrel
    by_cases hlt : k < n
    · obtain ⟨b, o, rfl, hb, hc⟩ := HR.out.2.2 (by omega)
      have hck := hc k (by rw [hlen.out]; exact hlt)
      have hx := HR.out.2.1 _ (List.getElem_mem (l := l) (n := k) (by rw [hlen.out]; exact hlt))
      have hs1 := sumL_take_succ l k (by rw [hlen.out]; exact hlt)
      have hle := sumL_take_le l (k + 1)
      have HL := hid (fun w => add_ok (sumL (l.take k)) (l[k]'(by rw [hlen.out]; exact hlt)) (by have := HV.out; omega) w)
      rw [← hs1] at HL
      clear hs1 hle hc hx
      generalize hv1 : sumL (l.take (k + 1)) = v1 at HL
      have HV1 := hid hv1
      clear hv1
      generalize sumL (l.take k) = v0 at *
      generalize (l[k]'(by rw [hlen.out]; exact hlt)) = x at *
      go_wp2_with (go_at_call 26; refine (HL.out _).mono ?_; rintro e w' ⟨rfl, rfl⟩)
      go_round
      case rel => exact ⟨k + 1, by omega, by go_num, by rw [HV1.out]⟩
      case measure => simp [intOf]; omega
    · have HE := hid (show l.take k = l from List.take_of_length_le (by rw [hlen.out]; omega))
      go_wp2
      go_ret2
      exact ⟨by rw [HE.out]; rfl, rfl⟩

theorem sum_over {w : World} {A : Option Addr} {n c : Nat} {l : List Nat} (hR : RdU w A n l) (hn : n ≤ 9223372036854775807) (h : 18446744073709551616 ≤ sumL l) :
    Calls Try.prog 31 #[.slice A n c] w fun e w' => e = .returned (.tuple #[.int .u64 0, .int .i64 40]) ∧ w = w' := by
  have HR := hid hR
  have HV := hid h
  have hlen := hid hR.1
  clear hR h
  go_enter Try.func31, Try.ntmps31
  go_wp2
  go_loop [4, 11] (fun v i => ∃ k : Nat, k ≤ n ∧ i = .int .i64 k ∧ v = .int .u64 ((sumL (l.take k) : Nat) : Int) ∧ sumL (l.take k) < 18446744073709551616) (fun _ i => n - (intOf i).toNat)
  case atStart => exact ⟨0, by omega, rfl, rfl, by simp [sumL]⟩
  case round =>
    obtain ⟨k, hk, rfl, rfl, hlo⟩ := hrel
    by_cases hlt : k < n
    · obtain ⟨b, o, rfl, hb, hc⟩ := HR.out.2.2 (by omega)
      have hck := hc k (by rw [hlen.out]; exact hlt)
      have hx := HR.out.2.1 _ (List.getElem_mem (l := l) (n := k) (by rw [hlen.out]; exact hlt))
      have hs1 := sumL_take_succ l k (by rw [hlen.out]; exact hlt)
      by_cases hov : sumL (l.take (k + 1)) < 18446744073709551616
      · have HL := hid (fun w => add_ok (sumL (l.take k)) (l[k]'(by rw [hlen.out]; exact hlt)) (by omega) w)
        rw [← hs1] at HL
        have HO := hid hov
        clear hs1 hc hx hov hlo
        generalize hv1 : sumL (l.take (k + 1)) = v1 at HL HO
        have HV1 := hid hv1
        clear hv1
        generalize sumL (l.take k) = v0 at *
        generalize (l[k]'(by rw [hlen.out]; exact hlt)) = x at *
        go_wp2_with (go_at_call 26; refine (HL.out _).mono ?_; rintro e w' ⟨rfl, rfl⟩)
        go_round
        case rel => exact ⟨k + 1, by omega, by go_num, by rw [HV1.out], by rw [HV1.out]; exact HO.out⟩
        case measure => simp [intOf]; omega
      · have HL := hid (fun w => add_over (sumL (l.take k)) (l[k]'(by rw [hlen.out]; exact hlt)) hlo hx (by omega) w)
        clear hs1 hc hx hov hlo
        generalize sumL (l.take k) = v0 at *
        generalize (l[k]'(by rw [hlen.out]; exact hlt)) = x at *
        go_wp2_with (go_at_call 26; refine (HL.out _).mono ?_; rintro e w' ⟨rfl, rfl⟩)
        go_ret2
        exact ⟨rfl, rfl⟩
    · have HE : l.take k = l := List.take_of_length_le (by rw [hlen.out]; omega)
      rw [HE] at hlo
      exact absurd HV.out (by omega)

theorem wideSums_law {w : World} {A : Option Addr} {n c : Nat} {l : List Nat} (hR : RdU w A n l) (hn : n ≤ 9223372036854775807) :
    Calls Try.prog 11 #[.slice A n c] w fun e w' => e = .returned (.bool true) ∧ Below w.heap.size w w' := by
  by_cases h100 : 100 < n
  · have d0 : decide ((100 : Int) < n) = true := by simp; omega
    go_enter Try.func11, Try.ntmps11
    go_wp2_with (go_at_call 25; refine (reckons_any _).mono ?_; rintro e w1 ⟨rfl, hb1⟩)
    go_ret
    exact ⟨rfl, hb1⟩
  have d0 : decide ((100 : Int) < n) = false := by simp; omega
  have hlen := hid hR.1
  by_cases hv : sumL l < 18446744073709551616
  · have HV := hid hv
    clear hv
    go_enter Try.func11, Try.ntmps11
    go_wp2_with (first
      | (go_at_call 25; refine (reckons_any _).mono ?_; rintro e w1 ⟨rfl, hb1⟩)
      | (go_at_call 31; refine (sum_ok (hR.below hb1) hn HV.out).mono ?_; rintro e w' ⟨rfl, rfl⟩))
    have HR := hid (hR.below hb1)
    clear hR
    generalize hS : sumL l = S at *
    have HS := hid hS
    clear hS
    go_loop [5, 20] (fun v i => ∃ k : Nat, k ≤ n ∧ i = .int .i64 k ∧ v = .int .u64 ((sumL (l.take k) : Nat) : Int)) (fun _ i => n - (intOf i).toNat)
    case atStart => exact ⟨0, by omega, rfl, rfl⟩
    case round =>
      obtain ⟨k, hk, rfl, rfl⟩ := hrel
      by_cases hlt : k < n
      · obtain ⟨b, o, rfl, hb, hc⟩ := HR.out.2.2 (by omega)
        have hck := hc k (by rw [hlen.out]; exact hlt)
        have hs1 := sumL_take_succ l k (by rw [hlen.out]; exact hlt)
        have hle := sumL_take_le l (k + 1)
        have hx : (l[k]'(by rw [hlen.out]; exact hlt)) ≤ 18446744073709551615 - sumL (l.take k) := by have := HV.out; have := HS.out; omega
        have hm : (18446744073709551615 : Int) - ((sumL (l.take k) : Nat) : Int) = ((18446744073709551615 - sumL (l.take k) : Nat) : Int) := by have := HV.out; have := HS.out; omega
        have hx2 : sumL (l.take k) + (l[k]'(by rw [hlen.out]; exact hlt)) ≤ 18446744073709551615 := by have := HV.out; have := HS.out; omega
        have HV1 := hid hs1
        clear hs1 hle hc
        generalize hv0 : sumL (l.take k) = v0 at *
        have HV0 := hid hv0
        clear hv0
        generalize hxe : (l[k]'(by rw [hlen.out]; exact hlt)) = x at *
        clear hxe
        go_wp2
        go_round
        case rel => exact ⟨k + 1, by omega, by go_num, by rw [HV1.out]; go_num⟩
        case measure => simp [intOf]; omega
      · have HE := hid (show sumL (l.take k) = S by rw [List.take_of_length_le (by rw [hlen.out]; omega)]; exact HS.out)
        rw [HE.out]
        go_wp2
        go_ret
        exact ⟨rfl, hb1⟩
  · have HV := hid (show 18446744073709551616 ≤ sumL l by omega)
    clear hv
    go_enter Try.func11, Try.ntmps11
    go_wp2_with (first
      | (go_at_call 25; refine (reckons_any _).mono ?_; rintro e w1 ⟨rfl, hb1⟩)
      | (go_at_call 31; refine (sum_over (hR.below hb1) hn HV.out).mono ?_; rintro e w' ⟨rfl, rfl⟩))
    have HR := hid (hR.below hb1)
    clear hR
    go_loop [5, 20] (fun v i => ∃ k : Nat, k ≤ n ∧ i = .int .i64 k ∧ v = .int .u64 ((sumL (l.take k) : Nat) : Int) ∧ sumL (l.take k) < 18446744073709551616) (fun _ i => n - (intOf i).toNat)
    case atStart => exact ⟨0, by omega, rfl, rfl, by simp [sumL]⟩
    case round =>
      obtain ⟨k, hk, rfl, rfl, hlo⟩ := hrel
      by_cases hlt : k < n
      · obtain ⟨b, o, rfl, hb, hc⟩ := HR.out.2.2 (by omega)
        have hck := hc k (by rw [hlen.out]; exact hlt)
        have hs1 := sumL_take_succ l k (by rw [hlen.out]; exact hlt)
        have hm : (18446744073709551615 : Int) - ((sumL (l.take k) : Nat) : Int) = ((18446744073709551615 - sumL (l.take k) : Nat) : Int) := by omega
        have HV1 := hid hs1
        clear hs1 hc
        by_cases hov : sumL (l.take k) + (l[k]'(by rw [hlen.out]; exact hlt)) < 18446744073709551616
        · have hx : (l[k]'(by rw [hlen.out]; exact hlt)) ≤ 18446744073709551615 - sumL (l.take k) := by omega
          have HO := hid hov
          clear hov
          generalize hv0 : sumL (l.take k) = v0 at *
          have HV0 := hid hv0
          clear hv0
          generalize hxe : (l[k]'(by rw [hlen.out]; exact hlt)) = x at *
          clear hxe
          have hx2 : v0 + x ≤ 18446744073709551615 := by have := HO.out; omega
          go_wp2
          go_round
          case rel => exact ⟨k + 1, by omega, by go_num, by rw [HV1.out]; go_num, by rw [HV1.out]; exact HO.out⟩
          case measure => simp [intOf]; omega
        · have hx : ¬ (l[k]'(by rw [hlen.out]; exact hlt)) ≤ 18446744073709551615 - sumL (l.take k) := by omega
          clear hov
          generalize hv0 : sumL (l.take k) = v0 at *
          clear hv0
          generalize hxe : (l[k]'(by rw [hlen.out]; exact hlt)) = x at *
          clear hxe
          have hx' : 18446744073709551615 - v0 < x := by omega
          clear hx
          go_wp2
          go_ret
          exact ⟨rfl, hb1⟩
      · have HE : l.take k = l := List.take_of_length_le (by rw [hlen.out]; omega)
        rw [HE] at hlo
        exact absurd HV.out (by omega)
end Go.Proofs.Ytmbbjhlpfgpibaa
