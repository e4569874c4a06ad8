/- lex: Show. -/
import Derived.Test.YtmefllfmcjjbaaaLxH
namespace Go.Proofs.Ytmefllfmcjjbaaa
open Go.RowKit

/-- Tokens, where they lie. -/
def RdK (w : World) (A : Option Addr) (ts : List Tk) : Prop :=
  0 < ts.length → ∃ b o, A = some ⟨b, o, none⟩ ∧ b < w.heap.size ∧ ∀ j (h : j < ts.length), w.cell? ⟨b, o + j * 3, none⟩ = some (.int .i64 (ts[j].k : Int)) ∧ w.cell? ⟨b, o + j * 3 + 1, none⟩ = some (.int .i64 (ts[j].p : Int)) ∧ w.cell? ⟨b, o + j * 3 + 2, none⟩ = some (.string ⟨ts[j].x.toArray⟩)
theorem RdK.keep {w w' : World} {A : Option Addr} {ts : List Tk} (h : RdK w A ts) (hb : Below w.heap.size w w') : RdK w' A ts := fun h0 => by
  obtain ⟨b, o, e, hl, hc⟩ := h h0
  refine ⟨b, o, e, Nat.lt_of_lt_of_le hl hb.size, fun j hj => ?_⟩
  have hbl := hb.block b hl
  obtain ⟨h1, h2, h3⟩ := hc j hj
  exact ⟨(World.cell?_of_block (w := w) (w' := w') (a := ⟨b, _, none⟩) hbl).trans h1, (World.cell?_of_block (w := w) (w' := w') (a := ⟨b, _, none⟩) hbl).trans h2, (World.cell?_of_block (w := w) (w' := w') (a := ⟨b, _, none⟩) hbl).trans h3⟩
theorem RdK.take {w : World} {A : Option Addr} {ts : List Tk} (h : RdK w A ts) (n : Nat) : RdK w A (ts.take n) := fun h0 => by
  rw [List.length_take] at h0
  obtain ⟨b, o, e, hl, hc⟩ := h (by omega)
  refine ⟨b, o, e, hl, fun j hj => ?_⟩
  have hj' : j < ts.length := by rw [List.length_take] at hj; omega
  have := hc j hj'
  simpa [List.getElem_take] using this
theorem RdK.of_own {w : World} {base : Nat} {A : Option Addr} {n c : Nat} {ts : List Tk} (h : w.ownsRow base 33 3 (.slice A n c) n (flatK ts)) (hn : n = ts.length) : RdK w A ts := fun h0 => by
  rcases h.2 with ⟨_, hz⟩ | ⟨g, cap, cur, hv, hb, hg, hnc, hcm, hcs, ht⟩
  · omega
  · injection hv with hA _ _
    refine ⟨g, 0, hA, (Array.getElem?_eq_some_iff.1 hg).1, fun j hj => ?_⟩
    have key : ∀ i (hi : i < 3), w.cell? ⟨g, 0 + j * 3 + i, none⟩ = ts[j].cells[i]? := by
      intro i hi
      rw [Nat.zero_add, cell_of_row w g (j * 3 + i) cur _ (0, 0) hg]
      have e := flatK_get ts j i hj hi
      rw [← ht, List.getElem?_take_of_lt (by omega)] at e
      rw [← Array.getElem?_toList, e]
    exact ⟨key 0 (by omega), key 1 (by omega), key 2 (by omega)⟩
/-- A token as it stands in a text. -/
def shT (t : Tk) : List UInt8 := if t.k = 3 then 47 :: (t.x ++ [47]) else t.x
set_option maxRecDepth 100000 in
theorem show_any (t : Tk) (hl : t.x.length ≤ 65536) (w : World) : Calls Try.prog 14 #[.agg #[.int .i64 (t.k : Int), .int .i64 (t.p : Int), .string ⟨t.x.toArray⟩]] w fun e w' => e = .returned (.string ⟨(shT t).toArray⟩) ∧ Below w.heap.size w w' := by
  have hB := hid ((Below.refl w.heap.size w).alloc (Nat.le_refl _) (.cells #[.int .i64 (t.k : Int), .int .i64 (t.p : Int), .string ⟨t.x.toArray⟩] 33))
  have hF := Blk.fresh w 33 [.int .i64 (t.k : Int), .int .i64 (t.p : Int), .string ⟨t.x.toArray⟩]
  have c0 := Blk.at hF 0
  have c2 := Blk.at hF 2
  simp only [List.getElem?_cons_zero, List.getElem?_cons_succ] at c0 c2
  have a1 := fun W => run_strAdd [47] t.x (by simp; omega) W
  have a2 := fun W => run_strAdd ([47] ++ t.x) [47] (by simp; omega) W
  simp only [List.cons_append, List.nil_append] at a1 a2
  unfold shT
  clear hF
  by_cases h3 : t.k = 3
  · rw [if_pos h3]
    have h3' : (t.k : Int) = 3 := by omega
    rw [h3'] at c0 hB ⊢
    go_enter Try.func14, Try.ntmps14
    go_wp2
    go_ret
    exact ⟨rfl, hB.out⟩
  · rw [if_neg h3]
    have h3' : ¬ (t.k : Int) = 3 := by omega
    clear a1 a2
    go_enter Try.func14, Try.ntmps14
    go_wp2
    go_ret
    exact ⟨rfl, hB.out⟩
end Go.Proofs.Ytmefllfmcjjbaaa
