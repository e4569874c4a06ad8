/- The law SpecEach: the two functions that it hands to Each. -/
import Derived.Test.YthjfhenldkihkaaSpEb
import Derived.Test.YthjfhenldkihkaaSpKd
namespace Go.Proofs.Ythjfhenldkihkaa
set_option linter.unusedSimpArgs false
set_option linter.unusedVariables false
open Go.RowKit

/-- What is counted. -/
def YC (cb gs : Nat) (stop : Int) (sg : List Int) (W : World) : Prop := Blk W cb 3 [.int .i64 (sg.length : Int)] ∧ Blk W gs 3 [.int .i64 stop] ∧ cb ≠ gs
theorem own_count {cb gs : Nat} {stop : Int} {sg : List Int} {W : World} (h : YC cb gs stop sg W) (k : Nat) : Own cb W k ↔ k = cb := by
  have h0 := Blk.at h.1 0
  simp only [List.getElem?_cons_zero] at h0
  constructor
  · rintro (e | ⟨v, hv, e⟩)
    · exact e
    · rw [h0] at hv
      injection hv with hv
      subst hv
      cases e
  · exact .inl
set_option maxRecDepth 100000 in
set_option maxHeartbeats 1000000 in
theorem yields_count (cb gs : Nat) (stop : Int) : Yields 10 #[.pointer (some ⟨cb, 0, none⟩), .pointer (some ⟨gs, 0, none⟩)] cb (fun sg => ((sg.length : Int) != stop)) (YC cb gs stop) where
  ent := enters_of Try.func10 (by kernel_rfl) rfl
  lt := fun sg W h => h.1.lt
  ob := fun sg W k h e => by rw [(own_count h k).1 e]; exact h.1.lt
  keep := by
    rintro sg W W' S h hc hS
    have h1 : ¬ S cb := fun e => (hS _ e).1 ((own_count h cb).2 rfl)
    have h2 : ¬ S gs := fun e => by
      obtain ⟨cs, hB⟩ := (hS _ e).2
      exact absurd (blk_type hB h.2.1) (by decide)
    exact ⟨h.1.chg hc h1, h.2.1.chg hc h2, h.2.2⟩
  call := by
    rintro sg i W h hl
    have x0 := Blk.at h.1 0
    have x1 := Blk.at h.2.1 0
    have hf := Blk.free h.1 0
    simp only [List.getElem?_cons_zero] at x0 x1
    have HO := hid h
    obtain ⟨m, hm⟩ : ∃ m, m = sg.length := ⟨_, rfl⟩
    rw [← hm] at x0
    have HM := hid hm
    have hne : (⟨cb, 0, none⟩ : Addr) ≠ ⟨gs, 0, none⟩ := fun e => h.2.2 (by injection e)
    have hml : m < 4096 := by omega
    have x2 : (W.setCell ⟨cb, 0, none⟩ (.int .i64 ((m : Int) + 1))).cell? ⟨cb, 0, none⟩ = some (.int .i64 ((m : Int) + 1)) := World.cell?_setCell_same _ _ _ x0
    have x3 : (W.setCell ⟨cb, 0, none⟩ (.int .i64 ((m : Int) + 1))).cell? ⟨gs, 0, none⟩ = some (.int .i64 stop) := by rw [World.cell?_setCell_other _ _ _ _ hne]; exact x1
    have hk1 := h.1.put 0 (.int .i64 ((m : Int) + 1))
    have hk2 := h.2.1.other (p := ⟨cb, 0, none⟩) (fun e => h.2.2 e.symm) (.int .i64 ((m : Int) + 1))
    have HK := hid (And.intro hk1 hk2)
    obtain ⟨RR, hRR⟩ : ∃ RR : Ending → World → Prop, RR = fun e W' => e = .returned (.bool (((sg ++ [(i : Int)]).length : Int) != stop)) ∧ YC cb gs stop (sg ++ [(i : Int)]) W' ∧ Chg W W' (Own cb W) ∧ ∀ k, k < W.heap.size → ¬ Own cb W k → ¬ Own cb W' k := ⟨_, rfl⟩
    show Calls _ _ _ _ fun e W' => e = .returned (.bool (((sg ++ [(i : Int)]).length : Int) != stop)) ∧ YC cb gs stop (sg ++ [(i : Int)]) W' ∧ Chg W W' (Own cb W) ∧ ∀ k, k < W.heap.size → ¬ Own cb W k → ¬ Own cb W' k
    rw [← hRR]
    have HRR := hid hRR
    clear hRR h hm hne hk1 hk2 hl
    show Calls _ _ #[.int .i64 (i : Int), .pointer (some ⟨cb, 0, none⟩), .pointer (some ⟨gs, 0, none⟩)] _ _
    go_enter Try.func10, Try.ntmps10
    go_wp2_with fail
    show RR (.returned (.bool ((m : Int) + 1 != stop))) _
    rw [HRR.out]
    have hlen : ((sg ++ [(i : Int)]).length : Int) = (m : Int) + 1 := by rw [List.length_append, HM.out]; simp
    refine ⟨by rw [hlen], ⟨by rw [hlen]; exact HK.out.1, HK.out.2, HO.out.2.2⟩, (Chg.refl W _).set cb 0 (.inl rfl) _, fun k hk hn e => hn ?_⟩
    rw [own_count HO.out]
    rcases e with e | ⟨v, hv, e⟩
    · exact e
    · rw [x2] at hv
      injection hv with hv
      subst hv
      cases e
/-- What has been seen. -/
def YS (cb base0 : Nat) (sg : List Int) (W : World) : Prop := ∃ v, Blk W cb 30 [v] ∧ W.ownsRow base0 3 1 v sg.length (intC sg) ∧ base0 ≤ W.heap.size
theorem YS.cell {cb base0 : Nat} {sg : List Int} {W : World} {v : Value} (h : Blk W cb 30 [v]) : W.cell? ⟨cb, 0, none⟩ = some v := by
  have := Blk.at h 0
  simpa using this
set_option maxRecDepth 100000 in
set_option maxHeartbeats 1000000 in
theorem yields_seen (cb base0 : Nat) : Yields 8 #[.pointer (some ⟨cb, 0, none⟩)] cb (fun _ => true) (YS cb base0) where
  ent := enters_of Try.func8 (by kernel_rfl) rfl
  lt := by rintro sg W ⟨v, h, _⟩; exact h.lt
  ob := by
    rintro sg W k ⟨v, h, ho, _⟩ (e | ⟨u, hu, e⟩)
    · rw [e]; exact h.lt
    · rw [YS.cell (base0 := base0) (sg := sg) h] at hu
      injection hu with hu
      subst hu
      exact (owns_block ho k e).2
  keep := by
    rintro sg W W' S ⟨v, h, ho, hb⟩ hc hS
    exact ⟨v, h.chg hc (fun e => (hS _ e).1 (.inl rfl)), owns_chg ho hc (fun k hk e => (hS _ e).1 (.inr ⟨v, YS.cell (base0 := base0) (sg := sg) h, hk⟩)), Nat.le_trans hb hc.size⟩
  call := by
    rintro sg i W ⟨v, h, ho, hb⟩ hl
    obtain ⟨A, c, rfl⟩ := owns_shape ho
    obtain ⟨i0, hi0, hz0, hz1, hz2⟩ := info_parts info_int
    have hal := (Below.refl W.heap.size W).alloc (Nat.le_refl _) (.cells #[.int .i64 (i : Int)] 3)
    have x0 := YS.cell (base0 := base0) (sg := sg) h
    have hsz : (W.alloc (.cells #[.int .i64 (i : Int)] 3)).heap.size = W.heap.size + 1 := by simp
    have hN : Blk (W.alloc (.cells #[.int .i64 (i : Int)] 3)) W.heap.size 3 [.int .i64 (i : Int)] := heap_alloc_new W _
    have HS := hid (And.intro hal (And.intro hsz hN))
    have HO1 := hid (owns_keep ho (fun b _ hl => hal.block b hl))
    have HC1 := hid (h.keep hal)
    have HI := hid (And.intro h (And.intro ho (And.intro hb hl)))
    have HT := hid (And.intro hi0 (And.intro hz0 (And.intro hz1 hz2)))
    obtain ⟨RR, hRR⟩ : ∃ RR : Ending → World → Prop, RR = fun e W' => e = .returned (.bool true) ∧ YS cb base0 (sg ++ [(i : Int)]) W' ∧ Chg W W' (Own cb W) ∧ ∀ k, k < W.heap.size → ¬ Own cb W k → ¬ Own cb W' k := ⟨_, rfl⟩
    show Calls _ _ _ _ fun e W' => e = .returned (.bool true) ∧ YS cb base0 (sg ++ [(i : Int)]) W' ∧ Chg W W' (Own cb W) ∧ ∀ k, k < W.heap.size → ¬ Own cb W k → ¬ Own cb W' k
    rw [← hRR]
    have HRR := hid hRR
    clear hRR h ho hb hl hal hsz hN hi0 hz0 hz1 hz2
    show Calls _ _ #[.int .i64 (i : Int), .pointer (some ⟨cb, 0, none⟩)] _ _
    go_enter Try.func8, Try.ntmps8
    go_wp2_with (first
      | ((with_reducible refine wpList_append_own_at _ rfl _ _ 30 rfl base0 3 i0 (.int .i64 0) 1 8 Try.underlying30 HT.out.1 HT.out.2.1 HT.out.2.2.1 HT.out.2.2.2 rfl (by decide) _ _ _ ?_ HO1.out ⟨W.heap.size, 0, none⟩ 1 1 [.int .i64 (i : Int)] ?_ rfl ?_ ?_ ?_ ?_ ?_ ?_); exact rfl; exact rfl; (intro j u hj; rw [addr_add, Nat.zero_add, Blk.at HS.out.2.2]; exact hj); (intro u hu; simp at hu; subst hu; rfl); (have := HI.out.2.2.2; unfold maxLen; omega); (have := HI.out.2.2.2; omega); (have := HI.out.2.2.1; have := HS.out.2.1; omega); (intro v2 w2 ho2 hg2 _ hnew; have HO2 := hid ho2; have HG2 := hid hg2; have HNw := hid hnew; have HC2 := hid (HC1.out.chg (Chg.of_grown hg2) (fun e => absurd (own_type HO1.out e HC1.out) (by decide))); clear ho2 hg2 hnew; have x1 := YS.cell (base0 := base0) (sg := sg) HC2.out; have hf1 := Blk.free HC2.out 0; obtain ⟨A2, c2, hv2⟩ := owns_shape HO2.out; subst hv2)))
    show RR (.returned (.bool true)) _
    rw [HRR.out]
    have hl1 : (sg ++ [(i : Int)]).length = sg.length + 1 := by simp
    have hcI : intC (sg ++ [(i : Int)]) = intC sg ++ [.int .i64 (i : Int)] := by simp [intC]
    have hc0 := YS.cell (base0 := base0) (sg := sg) HI.out.1
    have hC3 := HC2.out.put 0 (.slice A2 (sg.length + 1) c2)
    have hO3 := owns_chg HO2.out ((Chg.refl w2 (· = cb)).set cb 0 rfl (.slice A2 (sg.length + 1) c2)) (fun k hk e => by subst e; exact absurd (own_type HO2.out hk HC2.out) (by decide))
    have hc1 : Chg W w2 (Own cb W) := (Chg.of_below HS.out.1 (Own cb W)).trans ((Chg.of_grown HG2.out).more (fun k _ hk => .inr ⟨_, hc0, hk⟩))
    have hc2 : Chg W (w2.setCell ⟨cb, 0, none⟩ (.slice A2 (sg.length + 1) c2)) (Own cb W) := hc1.set cb 0 (.inl rfl) _
    refine ⟨rfl, ⟨_, hC3, by rw [hl1, hcI]; exact hO3, Nat.le_trans HI.out.2.2.1 hc2.size⟩, hc2, fun k hk hn e => hn ?_⟩
    rcases e with e | ⟨u, hu, e⟩
    · exact .inl e
    · rw [World.cell?_setCell_same _ _ _ x1] at hu
      injection hu with hu
      subst hu
      rcases HNw.out with h1 | h1
      · exact .inr ⟨_, hc0, by rw [← h1]; exact e⟩
      · rw [h1, HS.out.2.1] at e
        injection e with e
        omega
end Go.Proofs.Ythjfhenldkihkaa
