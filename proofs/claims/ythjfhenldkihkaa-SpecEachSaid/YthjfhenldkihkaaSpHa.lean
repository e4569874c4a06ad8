/- spec: has; slices.EqualFunc over two lists of the same numbers, by a function value that finds each alike. -/
import Derived.Test.YthjfhenldkihkaaSpSa
namespace Go.Proofs.Ythjfhenldkihkaa
set_option linter.unusedSimpArgs false
set_option linter.unusedVariables false
open Go.RowKit

set_option maxRecDepth 100000 in
set_option maxHeartbeats 1000000 in
theorem has_any (N D : SV) (at_ : Int) (w : World) : Calls Try.prog 26 #[.agg #[.slice N.A N.n N.c, .slice D.A D.n D.c], .int .i64 at_] w fun e w' => e = .returned (.bool (decide (0 ≤ at_ ∧ at_ < N.n))) ∧ Below w.heap.size w w' := by
  obtain ⟨NA, Nn, Nc⟩ := N
  obtain ⟨DA, Dn, Dc⟩ := D
  obtain ⟨hbx, hb0⟩ := spec_box w (.slice NA Nn Nc) (.slice DA Dn Dc)
  have HB := hid hbx
  have x0 := Blk.at hb0 0
  simp only [List.getElem?_cons_zero] at x0
  clear hbx hb0
  simp only
  by_cases h0 : 0 ≤ at_
  · have hd : decide (0 ≤ at_ ∧ at_ < (Nn : Int)) = decide (at_ < (Nn : Int)) := by rw [Bool.eq_iff_iff]; simp [h0]
    rw [hd]
    clear hd
    have h0d : decide (0 ≤ at_) = true := by simpa using h0
    go_enter Try.func26, Try.ntmps26
    go_wp2
    go_ret
    exact ⟨rfl, HB.out⟩
  · have hd : decide (0 ≤ at_ ∧ at_ < (Nn : Int)) = false := by simp [h0]
    rw [hd]
    clear hd
    have h0d : decide (0 ≤ at_) = false := by simpa using h0
    go_enter Try.func26, Try.ntmps26
    go_wp2
    go_ret
    exact ⟨rfl, HB.out⟩
/-- A function value that is handed two numbers, the same, one pair after the other. -/
structure Hands2 (F : Nat) (caps : Array Value) (ps : List Int) (Inv : Nat → World → Prop) : Prop where
  ent : ∀ args w, (callFunc F args).run Try.prog w = .ok (.enter F args) w
  call : ∀ i (h : i < ps.length) W, Inv i W → Calls Try.prog F (caps ++ #[.int .i64 ps[i], .int .i64 ps[i]]) W fun e W' => e = .returned (.bool true) ∧ Inv (i + 1) W'
set_option maxRecDepth 100000 in
set_option maxHeartbeats 2000000 in
theorem eqI_any {P : Nat → Prop} {F : Nat} {cap : Value} (s1 s2 : SV) (xs : List Int) (w : World) (Inv : Nat → World → Prop) (H : Hands2 F #[cap] xs Inv) (hI : Inv 0 w)
    (h1 : ∀ i W, Inv i W → Rw W P s1 (intC xs)) (h2 : ∀ i W, Inv i W → Rw W P s2 (intC xs)) (n1 : s1.n = xs.length) (n2 : s2.n = xs.length) (hl : xs.length ≤ 1048576) :
    Calls Try.prog 60 #[s1.val, s2.val, .func (.func F) #[cap] #[]] w fun e w' => e = .returned (.bool true) ∧ Inv xs.length w' := by
  obtain ⟨A, n, c⟩ := s1
  obtain ⟨A2, m, c2⟩ := s2
  unfold SV.val
  simp only at n1 n2 ⊢
  subst n2
  obtain rfl : n = xs.length := n1
  obtain ⟨n, hn⟩ : ∃ n, n = xs.length := ⟨_, rfl⟩
  rw [← hn] at hl h1 h2 ⊢
  have hent := H.ent
  have HI := hid hI
  have HN := hid hn
  have HC := hid H.call
  have HA := hid h1
  have HA2 := hid h2
  clear hI hn H h1 h2
  go_enter Try.func60, Try.ntmps60
  go_wp2_with fail
  go_loopw [17] (fun i wr => ∃ q : Nat, q ≤ n ∧ i = .int .i64 q ∧ Hid (Inv q wr)) (fun i _ => n - (intOf i).toNat)
  case atStart => exact ⟨0, by omega, rfl, HI⟩
  case round =>
    clear HI
    obtain ⟨q, hq, rfl, HI⟩ := hrel
    by_cases hlt : q < n
    · have hlt' : (q : Int) < (n : Int) := by omega
      have hq1 : q < xs.length := by rw [← HN.out]; exact hlt
      obtain ⟨b1, o1, hA, _, _, hc1⟩ := (HA.out q wr HI.out).at (by rw [intC_len]; omega)
      obtain ⟨b2, o2, hA2, _, _, hc2⟩ := (HA2.out q wr HI.out).at (by rw [intC_len]; omega)
      have hA' : A = some ⟨b1, o1, none⟩ := hA
      have hA2' : A2 = some ⟨b2, o2, none⟩ := hA2
      have hx : (intC xs)[q]? = some (.int .i64 xs[q]) := by simp [intC, List.getElem?_eq_getElem hq1]
      have e0 := hc1 q (by rw [intC_len]; exact hq1)
      have d0 := hc2 q (by rw [intC_len]; exact hq1)
      rw [hx] at e0 d0
      have HK := hid (HC.out q hq1 wr HI.out)
      generalize xs[q] = p at *
      have HK2 := hid (show Calls Try.prog F #[cap, .int .i64 p, .int .i64 p] wr _ from HK.out)
      clear hA hA2 hc1 hc2 hx HI HK hq1
      rw [hA', hA2']
      go_wp2_with (refine HK2.out.mono ?_; rintro e w6 ⟨rfl, hi6⟩; have HI6 := hid hi6; clear hi6)
      all_goals exact ⟨⟨q + 1, by omega, by go_num, HI6⟩, by simp [intOf]; omega⟩
    · obtain rfl : q = n := by omega
      go_wp2
      go_ret
      exact ⟨rfl, HI.out⟩
end Go.Proofs.Ythjfhenldkihkaa
