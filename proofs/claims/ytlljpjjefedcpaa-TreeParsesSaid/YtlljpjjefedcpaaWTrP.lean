/- tree: TreeParses, its walk. -/
import Derived.Test.YtlljpjjefedcpaaTrV
import Derived.Test.YtlljpjjefedcpaaTrY
import Derived.Test.YtlljpjjefedcpaaTrM
import Derived.Test.YtlljpjjefedcpaaTrF
import Derived.Deep.CutRange
namespace Go.Proofs.Ytlljpjjefedcpaa
set_option linter.unusedSimpArgs false
set_option linter.unusedVariables false
open Go.RowKit

theorem below_then' {W X Y : World} (h : Below W.heap.size W X) (h2 : Below X.heap.size X Y) : Below W.heap.size W Y := h.trans (h2.mono h.size)
theorem below_d0' (W : World) : Below W.heap.size W W.drew := ⟨rfl, rfl, rfl, Nat.le_refl _, fun _ _ => rfl⟩
theorem parse_er {l : List UInt8} {c : Nat} (hl : l.length ≤ 1048576) (h : pParse l = .error c) : c = 5 ∨ c = 6 ∨ c = 40 := by
  unfold pParse at h
  rw [if_neg (by omega)] at h
  split at h
  · rename_i e he
    simp only [Except.error.injEq] at h
    subst h
    exact pTree_er 400 he
  · split at h
    · simp only [Except.error.injEq] at h; omega
    · cases h
theorem parse_w {l : List UInt8} {t : TT} (h : pParse l = .ok t) : wT t ≤ l.length := by
  unfold pParse at h
  split at h
  · cases h
  · split at h
    · cases h
    · rename_i t' i hp
      split at h
      · cases h
      · simp only [Except.ok.injEq] at h
        subst h
        have := pTree_lt 400 hp
        omega
set_option maxRecDepth 100000 in
set_option maxHeartbeats 8000000 in
theorem parses_walk (HTx : ∀ w, Calls Try.prog 8 #[] w fun e w' => e = .returned (.bool true) ∧ Below w.heap.size w w') (s : ByteArray) (w : World) :
    Calls Try.prog 4 #[.string s] w fun e w' => e = .returned (.bool true) ∧ Below w.heap.size w w' := by
  obtain ⟨RR, hRR⟩ : ∃ RR : Ending → World → Prop, RR = fun e w' => e = .returned (.bool true) ∧ Below w.heap.size w w' := ⟨_, rfl⟩
  rw [← hRR]
  have HRR := hid hRR
  have HT := hid (HTx w)
  clear hRR HTx
  go_enter Try.func4, Try.ntmps4
  go_upto_region 3 with (go_at_call 8; (with_reducible refine HT.out.mono ?_); rintro e w1 ⟨rfl, hb1⟩; have HB1 := hid hb1; clear hb1)
  by_cases hbig : (2000 : Int) < (s.size : Int)
  · go_wp2_with fail
    show RR (.returned (.bool true)) w1
    rw [HRR.out]
    exact ⟨rfl, HB1.out⟩
  have HPa := hid (parse_any s (by omega) w1)
  go_upto_region 5 with (fail)
  have HSz := hid (show s.data.toList.length ≤ 1048576 by have : s.data.toList.length = s.size := rfl; omega)
  clear hbig
  cases hp : pParse s.data.toList with
  | error c =>
    have hEr := parse_er (HSz.out) hp
    have HZz := hid (show ∀ W : World, Calls Try.prog 12 #[.agg #[.int .u64 0, .bool false, .slice none 0 0, .slice none 0 0], .agg #[.int .u64 0, .bool false, .slice none 0 0, .slice none 0 0]] W (fun e w' => e = .returned (.bool true) ∧ Below W.heap.size W w') from fun W => same_any TT.zero TT.zero TV.zero TV.zero W (fun _ => True) (fun _ => True) (Rep.zero _ _) (Rep.zero _ _) (by decide) (by decide))
    have HPe := hid (show Calls Try.prog 10 #[.string s] w1 (fun e w' => e = .returned (.tuple #[.agg #[.int .u64 0, .bool false, .slice none 0 0, .slice none 0 0], .int .i64 (c : Int)]) ∧ Below w1.heap.size w1 w') from HPa.out.mono fun e w' hh => by
      obtain ⟨h1, h2⟩ := hh
      rcases h1 with ⟨t, x, hq, _⟩ | ⟨c', _, hq, he⟩
      · rw [hp] at hq; cases hq
      · rw [hp] at hq
        simp only [Except.error.injEq] at hq
        subst hq
        exact ⟨he, h2⟩)
    clear HPa hp
    go_upto_region 6 with (go_at_call 10; (with_reducible refine HPe.out.mono ?_); rintro e w2 ⟨rfl, hb2⟩; have HB2 := hid (below_then' HB1.out hb2); clear hb2)
    go_upto_region 7 with (fail)
    go_cut [2] from 17 to 31 (fun s2 wx => s2 = .bool true ∧ Hid (Below w.heap.size w wx))
    case first =>
      rcases hEr with rfl | rfl | rfl
      all_goals
        go_wp2_with (go_at_call 12; (with_reducible refine (HZz.out _).mono ?_); rintro e w4 ⟨rfl, hb4⟩; have HB4 := hid (below_then' (HB2.out.trans (Below.mono ((Below.refl w2.heap.size w2).alloc (Nat.le_refl _) _) HB2.out.size)) hb4); clear hb4)
        go_meet
        exact ⟨by first | rfl | simp, HB4⟩
    case rest =>
      obtain ⟨rfl, HBe⟩ := hcut
      go_wp2_with fail
      show RR (.returned (.bool true)) wc
      rw [HRR.out]
      exact ⟨rfl, HBe.out⟩
  | ok t =>
    obtain ⟨htx, hdp⟩ := parse_text hp
    have HPe := hid (show Calls Try.prog 10 #[.string s] w1 (fun e w' => ∃ x : TV, e = .returned (.tuple #[.agg #[.int .u64 (x.num : Int), .bool x.bl, .slice x.D.A x.D.n x.D.c, .slice x.K.A x.K.n x.K.c], .int .i64 0]) ∧ Rep w' (fun _ => True) x t ∧ Below w1.heap.size w1 w') from HPa.out.mono fun e w' hh => by
      obtain ⟨h1, h2⟩ := hh
      rcases h1 with ⟨t', x, hq, he, hr⟩ | ⟨c', _, hq, he⟩
      · rw [hp] at hq
        simp only [Except.ok.injEq] at hq
        subst hq
        exact ⟨x, he, hr.mono (fun _ _ _ => rfl) (Nat.le_refl _) (fun _ _ _ => trivial), h2⟩
      · rw [hp] at hq; cases hq)
    clear HPa
    go_upto_region 6 with (go_at_call 10; (with_reducible refine HPe.out.mono ?_); rintro e w2 ⟨x, rfl, hx, hb2⟩; have HX := hid hx; have HB2 := hid (below_then' HB1.out hb2); clear hb2 hx)
    have hbx := box_new w2 x
    have hw := parse_w hp
    have HWt := hid (show wT t ≤ 1048576 by have := HSz.out; omega)
    have hse : (⟨(textT t).toArray⟩ : ByteArray) = s := by rw [htx]
    change Code.wp _ _ _ _ (w2.alloc (.cells x.cells.toArray 26))
    generalize w2.alloc (.cells x.cells.toArray 26) = w3 at *
    have HK := hid hbx.2
    have HB3 := hid (below_then' HB2.out hbx.1)
    have HX3 := hid (HX.out.keep hbx.1)
    have HTe := hid (show ∀ W : World, Below w3.heap.size w3 W → Calls Try.prog 11 #[.agg #[.int .u64 (x.num : Int), .bool x.bl, .slice x.D.A x.D.n x.D.c, .slice x.K.A x.K.n x.K.c]] W (fun e w' => e = .returned (.string s) ∧ Below W.heap.size W w') from fun W hW => by
      have h := text_any (HX3.out.keep hW) HWt.out
      rw [hse] at h
      exact h)
    have HDe := hid (show ∀ W : World, Below w3.heap.size w3 W → Calls Try.prog 13 #[.agg #[.int .u64 (x.num : Int), .bool x.bl, .slice x.D.A x.D.n x.D.c, .slice x.K.A x.K.n x.K.c]] W (fun e w' => e = .returned (.int .i64 (dpT t : Nat)) ∧ Below W.heap.size W w') from fun W hW => depth_any t x W _ (HX3.out.keep hW) HWt.out)
    have hdi : (dpT t : Int) ≤ 400 := by omega
    obtain ⟨x0, x1, x2, x3⟩ := BoxT.four HK.out
    have b0 := Below.refl w3.heap.size w3
    clear hbx hw hse htx hp hdp HX
    go_upto_region 8 with (fail)
    go_cut [2] from 32 to 40 (fun s2 wx => s2 = .bool true ∧ Hid (Below w3.heap.size w3 wx))
    case first =>
      go_wp2_with (first
        | (go_at_call 11; (with_reducible refine (HTe.out _ b0).mono ?_); rintro e w4 ⟨rfl, hb4⟩; have HB4 := hid (below_then' b0 hb4); have HK4 := hid (show BoxT w4 w2.heap.size x from Blk.keep HK.out HB4.out); clear hb4 x0 x1 x2 x3; obtain ⟨x0, x1, x2, x3⟩ := BoxT.four HK4.out)
        | (go_at_call 13; (with_reducible refine (HDe.out _ HB4.out).mono ?_); rintro e w5 ⟨rfl, hb5⟩; have HB5 := hid (below_then' HB4.out hb5); clear hb5 x0 x1 x2 x3))
      go_meet
      exact ⟨by first | rfl | simp, HB5⟩
    case rest =>
      obtain ⟨rfl, HBe⟩ := hcut
      go_wp2_with fail
      show RR (.returned (.bool true)) wc
      rw [HRR.out]
      exact ⟨rfl, (below_then' HB3.out HBe.out)⟩
end Go.Proofs.Ytlljpjjefedcpaa
