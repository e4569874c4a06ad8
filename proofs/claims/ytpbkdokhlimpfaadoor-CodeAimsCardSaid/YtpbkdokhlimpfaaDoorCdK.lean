/- code: slices.Clone of ways and of steps. -/
import Derived.Test.YtpbkdokhlimpfaaDoorCdJ
import Derived.Maps.AppendAt
import Derived.Deep.Upon
namespace Go.Proofs.YtpbkdokhlimpfaaDoor
set_option linter.unusedSimpArgs false
set_option linter.unusedVariables false
open Go.RowKit

theorem info_way : (Tryd.prog.info? 46).map (fun i => (i.zero, i.size, i.bytes)) = some (some (.agg #[.int .u64 0, .int .i64 0]), 2, 16) := by kernel_rfl
theorem info_step : (Tryd.prog.info? 37).map (fun i => (i.zero, i.size, i.bytes)) = some (some (.agg Tryd.zeroCells37), 265, 344) := by kernel_rfl
theorem Rw.of_own {w : World} {base : Nat} {e : TypeId} {size : Nat} {A : Option Addr} {n c m : Nat} {xs : List Value} (h : w.ownsRow base e size (.slice A n c) m xs) : Rw w (fun b => base ≤ b) ⟨A, n, c⟩ xs := by
  rcases h.2 with ⟨hv, hm⟩ | ⟨g, cap, cur, hv, hb, hg, h1, h2, h3, h4⟩
  · injection hv with e1 e2 e3
    subst e1
    have hx : xs = [] := List.eq_nil_of_length_eq_zero (by rw [h.1, hm]; simp)
    exact ⟨fun _ => hx, fun hp => by rw [hx] at hp; simp at hp⟩
  · injection hv with e1 e2 e3
    subst e1
    refine ⟨fun hh => (by cases hh), fun hp => ⟨g, 0, rfl, (Array.getElem?_eq_some_iff.1 hg).1, hb, fun j hj => ?_⟩⟩
    have := h.cells (g := g) rfl j xs[j] (List.getElem?_eq_getElem hj)
    rw [addr_add] at this
    exact this
theorem run_build0 {P : Program} (w : World) (t e : TypeId) (sz : Nat) (ht : P.underlying t = some (.slice e)) (hs : (P.info? e).map (·.size) = some sz) : (Instr.buildSlice t 0 #[]).run P w = .ok (.slice (some ⟨w.heap.size, 0, none⟩) 0 0) (w.alloc (.cells #[] e)) := by
  cases hq : P.info? e with
  | none => simp [hq] at hs
  | some i =>
    simp [Instr.buildSlice, run_underlying ht, sizeOf, typeInfo, hq, newRow, newObj, Instr.fill]
    go_simp
    try rfl
/-- What slices.Clone answers: an owned row of the same cells. -/
def ClR (T : TypeId) (sz : Nat) (xs : List Value) (n : Nat) (w : World) (e : Ending) (w' : World) : Prop :=
  ∃ s' : SV, e = .returned s'.val ∧ s'.n = n ∧ Below w.heap.size w w' ∧ w'.ownsRow w.heap.size T sz s'.val n xs
/-! Clones. -/
theorem zsW : (Value.agg #[.int .u64 0, .int .i64 0]).cells.size = 2 := by kernel_rfl
theorem own_emptyW (w : World) : (w.alloc (.cells #[] 46)).ownsRow w.heap.size 46 2 (.slice (some ⟨w.heap.size, 0, none⟩) 0 0) 0 [] :=
  ⟨rfl, .inr ⟨w.heap.size, 0, #[], rfl, Nat.le_refl _, heap_alloc_new w _, Nat.le_refl _, by decide, rfl, rfl⟩⟩
set_option maxRecDepth 100000 in
set_option maxHeartbeats 1000000 in
theorem cloneW_any (P : Nat → Prop) (s : SV) (xs : List Value) (w : World) (h : Rw w P s xs) (hn : s.n * 2 = xs.length) (hl : s.n ≤ 1048576) (h1 : ∀ u ∈ xs, u.oneCell' = true) : Calls Tryd.prog 27 #[s.val] w (ClR 46 2 xs s.n w) := by
  obtain ⟨RR, hRR⟩ : ∃ RR, RR = ClR 46 2 xs s.n w := ⟨_, rfl⟩
  rw [← hRR]
  have HRR := hid hRR
  clear hRR
  obtain ⟨A, n, c⟩ := s
  unfold SV.val
  simp only at hn hl ⊢
  rcases A with _ | ad
  · have hx : xs = [] := h.1 rfl
    have HX := hid hx
    have hq := run_eql_slice_nil (P := Tryd.prog) w 34 46 none n c Tryd.underlying34
    have HN := hid hn
    clear h hn hx h1
    go_enter Tryd.func27, Tryd.ntmps27
    go_wp2
    show RR (.returned (.slice none 0 0)) _
    rw [HRR.out]
    have hn := HN.out
    rw [HX.out] at hn
    have hn0 : n = 0 := by simp at hn; omega
    subst hn0
    rw [HX.out]
    exact ⟨SV.nil, rfl, rfl, Below.refl _ _, World.ownsRow_nil w _ _ _⟩
  · have hq := run_eql_slice_nil (P := Tryd.prog) w 34 46 (some ad) n c Tryd.underlying34
    have HB := hid ((Below.refl w.heap.size w).alloc (Nat.le_refl _) (.cells #[] 46))
    have HR := hid (h.keep HB.out)
    have HO := hid (own_emptyW w)
    have hbd : ∀ W, (Instr.buildSlice 34 0 #[]).run Tryd.prog W = .ok (.slice (some ⟨W.heap.size, 0, none⟩) 0 0) (W.alloc (.cells #[] 46)) := fun W => run_build0 W 34 46 2 Tryd.underlying34 (size_of_info info_way)
    have HN := hid hn
    have H1 := hid h1
    have HS := hid (show (w.alloc (.cells #[] 46)).heap.size = w.heap.size + 1 by simp)
    clear h hn h1
    go_enter Tryd.func27, Tryd.ntmps27
    go_upto_region 3 with (fail)
    obtain ⟨i0, hi0, hz0, hz1, hz2⟩ := info_parts info_way
    have HI := hid (And.intro hi0 (And.intro hz0 (And.intro hz1 hz2)))
    clear hi0 hz0 hz1 hz2
    by_cases h0 : n = 0
    · subst h0
      have hx : xs = [] := by
        have := HN.out
        exact List.eq_nil_of_length_eq_zero (by omega)
      subst hx
      have HE := hid (run_append_nothing (P := Tryd.prog) (w.alloc (.cells #[] 46)) 34 34 34 46 i0 Tryd.underlying34 HI.out.1 (some ⟨w.heap.size, 0, none⟩) 0 0 (Nat.le_refl _) (.slice (some ad) 0 c) (Src.ofSlice _ Tryd.underlying34 ad 0 c [] (by simp) (fun j u h => by simp at h) (fun u h => by cases h)))
      have he := HE.out
      go_wp2_with fail
      show RR (.returned (.slice (some ⟨w.heap.size, 0, none⟩) 0 0)) _
      rw [HRR.out]
      exact ⟨⟨some ⟨w.heap.size, 0, none⟩, 0, 0⟩, rfl, rfl, HB.out, HO.out⟩
    · obtain ⟨ad', hA, hsrc⟩ := HR.out.src (by have := HN.out; omega)
      injection hA with hA
      subst hA
      have HSr := hid hsrc
      clear hsrc
      go_wp2_with ((refine wpList_append_own_at _ rfl _ _ 34 rfl w.heap.size 46 i0 _ 2 16 Tryd.underlying34 HI.out.1 HI.out.2.1 HI.out.2.2.1 HI.out.2.2.2 zsW (by decide) (.slice (some ⟨w.heap.size, 0, none⟩) 0 0) 0 [] ?_ HO.out ad n c xs ?_ HN.out.symm HSr.out H1.out ?_ ?_ ?_ ?_); rfl; rfl; unfold maxLen; omega; omega; rw [HS.out]; omega; intro v' w' hown hgrow hnil hat)
      obtain ⟨A', c', hsh⟩ := owns_shape hown
      subst hsh
      have HOw := hid hown
      have HGr := hid hgrow
      clear hown hgrow hnil hat
      go_wp2_with fail
      show RR (.returned (.slice A' (0 + n) c')) w'
      rw [HRR.out]
      rw [Nat.zero_add] at HOw ⊢
      rw [List.nil_append] at HOw
      exact ⟨⟨A', n, c'⟩, rfl, rfl, HB.out.grown HGr.out (by rw [HS.out]; omega) (fun k hk => Nat.le_of_eq (by simpa [Value.ownBlock] using hk)), HOw.out⟩
theorem zsS : (Value.agg Tryd.zeroCells37).cells.size = 265 := by kernel_rfl
theorem own_emptyS (w : World) : (w.alloc (.cells #[] 37)).ownsRow w.heap.size 37 265 (.slice (some ⟨w.heap.size, 0, none⟩) 0 0) 0 [] :=
  ⟨rfl, .inr ⟨w.heap.size, 0, #[], rfl, Nat.le_refl _, heap_alloc_new w _, Nat.le_refl _, by decide, rfl, rfl⟩⟩
set_option maxRecDepth 100000 in
set_option maxHeartbeats 1000000 in
theorem cloneS_any (P : Nat → Prop) (s : SV) (xs : List Value) (w : World) (h : Rw w P s xs) (hn : s.n * 265 = xs.length) (hl : s.n ≤ 1048576) (h1 : ∀ u ∈ xs, u.oneCell' = true) : Calls Tryd.prog 34 #[s.val] w (ClR 37 265 xs s.n w) := by
  obtain ⟨RR, hRR⟩ : ∃ RR, RR = ClR 37 265 xs s.n w := ⟨_, rfl⟩
  rw [← hRR]
  have HRR := hid hRR
  clear hRR
  obtain ⟨A, n, c⟩ := s
  unfold SV.val
  simp only at hn hl ⊢
  rcases A with _ | ad
  · have hx : xs = [] := h.1 rfl
    have HX := hid hx
    have hq := run_eql_slice_nil (P := Tryd.prog) w 22 37 none n c Tryd.underlying22
    have HN := hid hn
    clear h hn hx h1
    go_enter Tryd.func34, Tryd.ntmps34
    go_wp2
    show RR (.returned (.slice none 0 0)) _
    rw [HRR.out]
    have hn := HN.out
    rw [HX.out] at hn
    have hn0 : n = 0 := by simp at hn; omega
    subst hn0
    rw [HX.out]
    exact ⟨SV.nil, rfl, rfl, Below.refl _ _, World.ownsRow_nil w _ _ _⟩
  · have hq := run_eql_slice_nil (P := Tryd.prog) w 22 37 (some ad) n c Tryd.underlying22
    have HB := hid ((Below.refl w.heap.size w).alloc (Nat.le_refl _) (.cells #[] 37))
    have HR := hid (h.keep HB.out)
    have HO := hid (own_emptyS w)
    have hbd : ∀ W, (Instr.buildSlice 22 0 #[]).run Tryd.prog W = .ok (.slice (some ⟨W.heap.size, 0, none⟩) 0 0) (W.alloc (.cells #[] 37)) := fun W => run_build0 W 22 37 265 Tryd.underlying22 (size_of_info info_step)
    have HN := hid hn
    have H1 := hid h1
    have HS := hid (show (w.alloc (.cells #[] 37)).heap.size = w.heap.size + 1 by simp)
    clear h hn h1
    go_enter Tryd.func34, Tryd.ntmps34
    go_upto_region 3 with (fail)
    obtain ⟨i0, hi0, hz0, hz1, hz2⟩ := info_parts info_step
    have HI := hid (And.intro hi0 (And.intro hz0 (And.intro hz1 hz2)))
    clear hi0 hz0 hz1 hz2
    by_cases h0 : n = 0
    · subst h0
      have hx : xs = [] := by
        have := HN.out
        exact List.eq_nil_of_length_eq_zero (by omega)
      subst hx
      have HE := hid (run_append_nothing (P := Tryd.prog) (w.alloc (.cells #[] 37)) 22 22 22 37 i0 Tryd.underlying22 HI.out.1 (some ⟨w.heap.size, 0, none⟩) 0 0 (Nat.le_refl _) (.slice (some ad) 0 c) (Src.ofSlice _ Tryd.underlying22 ad 0 c [] (by simp) (fun j u h => by simp at h) (fun u h => by cases h)))
      have he := HE.out
      go_wp2_with fail
      show RR (.returned (.slice (some ⟨w.heap.size, 0, none⟩) 0 0)) _
      rw [HRR.out]
      exact ⟨⟨some ⟨w.heap.size, 0, none⟩, 0, 0⟩, rfl, rfl, HB.out, HO.out⟩
    · obtain ⟨ad', hA, hsrc⟩ := HR.out.src (by have := HN.out; omega)
      injection hA with hA
      subst hA
      have HSr := hid hsrc
      clear hsrc
      go_wp2_with ((refine wpList_append_own_at _ rfl _ _ 22 rfl w.heap.size 37 i0 _ 265 344 Tryd.underlying22 HI.out.1 HI.out.2.1 HI.out.2.2.1 HI.out.2.2.2 zsS (by decide) (.slice (some ⟨w.heap.size, 0, none⟩) 0 0) 0 [] ?_ HO.out ad n c xs ?_ HN.out.symm HSr.out H1.out ?_ ?_ ?_ ?_); rfl; rfl; unfold maxLen; omega; omega; rw [HS.out]; omega; intro v' w' hown hgrow hnil hat)
      obtain ⟨A', c', hsh⟩ := owns_shape hown
      subst hsh
      have HOw := hid hown
      have HGr := hid hgrow
      clear hown hgrow hnil hat
      go_wp2_with fail
      show RR (.returned (.slice A' (0 + n) c')) w'
      rw [HRR.out]
      rw [Nat.zero_add] at HOw ⊢
      rw [List.nil_append] at HOw
      exact ⟨⟨A', n, c'⟩, rfl, rfl, HB.out.grown HGr.out (by rw [HS.out]; omega) (fun k hk => Nat.le_of_eq (by simpa [Value.ownBlock] using hk)), HOw.out⟩
end Go.Proofs.YtpbkdokhlimpfaaDoor
