/- code: which steps can be met, by sweeps. -/
import Derived.Test.YtfcokopnaohgeaaDoorCeG
namespace Go.Proofs.YtfcokopnaohgeaaDoor
set_option linter.unusedSimpArgs false
set_option linter.unusedVariables false
open Go.RowKit

def Subb (a b : List Bool) : Prop := ∀ i : Nat, a[i]? = some true → b[i]? = some true
def cntT (l : List Bool) : Nat := (l.filter id).length
theorem cnt_le (l : List Bool) : cntT l ≤ l.length := List.length_filter_le _ _
theorem subb_cons {x y : Bool} {a b : List Bool} (h : Subb (x :: a) (y :: b)) : (x = true → y = true) ∧ Subb a b :=
  ⟨fun hx => by have := h 0 (by simp [hx]); simpa using this, fun i hi => by have := h (i + 1) (by simpa using hi); simpa using this⟩
theorem sub_cnt : ∀ (a b : List Bool), a.length = b.length → Subb a b → a = b ∨ cntT a < cntT b
  | [], [], _, _ => .inl rfl
  | [], _ :: _, h, _ => by simp at h
  | _ :: _, [], h, _ => by simp at h
  | x :: a, y :: b, h, hs => by
    obtain ⟨h1, h2⟩ := subb_cons hs
    have hle : ∀ (a b : List Bool), a.length = b.length → Subb a b → cntT a ≤ cntT b := fun a b hl hs => by
      induction a generalizing b with
      | nil => simp [cntT]
      | cons x a ih =>
        cases b with
        | nil => simp at hl
        | cons y b =>
          obtain ⟨g1, g2⟩ := subb_cons hs
          have := ih b (by simpa using hl) g2
          unfold cntT at this ⊢
          cases x <;> cases y <;> simp_all <;> omega
    have h3 := hle a b (by simpa using h) h2
    rcases sub_cnt a b (by simpa using h) h2 with e | e
    · subst e
      cases x <;> cases y
      · exact .inl rfl
      · exact .inr (by simp [cntT])
      · simp at h1
      · exact .inl rfl
    · refine .inr ?_
      unfold cntT at e ⊢
      cases x <;> cases y <;> simp_all <;> omega
/-- What marking these steps makes of it. -/
structure MkL (a b : List Bool) (L : List Int) : Prop where
  len : b.length = a.length
  sub : Subb a b
  mem : ∀ l ∈ L, b[l.toNat]? = some true
  inv : ∀ k : Nat, b[k]? = some true → a[k]? = some true ∨ ((k : Nat) : Int) ∈ L
theorem MkL.refl (a : List Bool) : MkL a a [] := ⟨rfl, fun _ h => h, fun l h => (by cases h), fun k h => .inl h⟩
theorem MkL.add {a b : List Bool} {L : List Int} (h : MkL a b L) (j : Nat) (hj : j < a.length) : MkL a (b.set j true) (L ++ [(j : Int)]) := by
  refine ⟨by rw [List.length_set]; exact h.len, fun i hi => met_set (h.sub i hi), fun l hl => ?_, fun k hk => ?_⟩
  · rcases List.mem_append.1 hl with hl | hl
    · exact met_set (h.mem l hl)
    · rw [List.mem_singleton] at hl
      subst hl
      rw [Int.toNat_natCast, List.getElem?_set_self (by rw [h.len]; exact hj)]
  · rw [List.getElem?_set] at hk
    split at hk
    · rename_i e
      subst e
      exact .inr (List.mem_append_right _ (by simp))
    · rcases h.inv k hk with hk | hk
      · exact .inl hk
      · exact .inr (List.mem_append_left _ hk)
theorem MkL.iff {a b : List Bool} {L M : List Int} (h : MkL a b L) (he : ∀ l, l ∈ L ↔ l ∈ M) : MkL a b M :=
  ⟨h.len, h.sub, fun l hl => h.mem l ((he l).2 hl), fun k hk => (h.inv k hk).imp id (fun hh => (he _).1 hh)⟩
/-- After so many sweeps. -/
structure SwM (p : PT) (want : List Bool) (t : Nat) : Prop where
  len : want.length = p.ss.length
  zero : want[0]? = some true
  rch : ∀ i : Nat, want[i]? = some true → Rch p i
  grow : (∀ i : Nat, want[i]? = some true → ∀ j ∈ stepAt p i, want[j.toNat]? = some true) ∨ t + 1 ≤ cntT want
/-- In a sweep, before step i. -/
structure SwI (p : PT) (w0 want : List Bool) (i : Nat) : Prop where
  len : want.length = p.ss.length
  len0 : w0.length = p.ss.length
  zero : want[0]? = some true
  rch : ∀ i : Nat, want[i]? = some true → Rch p i
  sub : Subb w0 want
  don : ∀ j : Nat, j < i → w0[j]? = some true → ∀ l ∈ stepAt p j, want[l.toNat]? = some true
theorem SwM.start {p : PT} {want : List Bool} {t : Nat} (h : SwM p want t) : SwI p want want 0 :=
  ⟨h.len, h.len, h.zero, h.rch, fun _ h => h, fun j hj => absurd hj (by omega)⟩
theorem SwI.skip {p : PT} {w0 want : List Bool} {i : Nat} (h : SwI p w0 want i) (hi : want[i]? ≠ some true) : SwI p w0 want (i + 1) :=
  ⟨h.len, h.len0, h.zero, h.rch, h.sub, fun j hj hw => by
    rcases Nat.lt_or_ge j i with h1 | h1
    · exact h.don j h1 hw
    · obtain rfl : j = i := by omega
      exact absurd (h.sub j hw) hi⟩
theorem SwI.step {p : PT} {w0 want w2 : List Bool} {i : Nat} (hc : (ckS (mayS p) p).1 = 0) (h : SwI p w0 want i) (hi : want[i]? = some true) (hm : MkL want w2 (stepAt p i)) : SwI p w0 w2 (i + 1) := by
  refine ⟨hm.len.trans h.len, h.len0, hm.sub 0 h.zero, fun k hk => ?_, fun k hk => hm.sub k (h.sub k hk), fun j hj hw l hl => ?_⟩
  · rcases hm.inv k hk with hk | hk
    · exact h.rch k hk
    · have := Rch.step (h.rch i hi) hk
      rwa [Int.toNat_natCast] at this
  · rcases Nat.lt_or_ge j i with h1 | h1
    · exact hm.sub _ (h.don j h1 hw l hl)
    · obtain rfl : j = i := by omega
      exact hm.mem l hl
theorem SwI.done {p : PT} {w0 want : List Bool} {t : Nat} (h : SwI p w0 want p.ss.length) (h0 : SwM p w0 t) : SwM p want (t + 1) := by
  refine ⟨h.len, h.zero, h.rch, ?_⟩
  have hclo : w0 = want → ∀ i : Nat, want[i]? = some true → ∀ j ∈ stepAt p i, want[j.toNat]? = some true := fun e i hi j hj => by
    refine h.don i ?_ (by rw [e]; exact hi) j hj
    have := (List.getElem?_eq_some_iff.1 hi).1
    rw [h.len] at this
    exact this
  rcases sub_cnt w0 want (h.len0.trans h.len.symm) h.sub with e | e
  · exact .inl (hclo e)
  · rcases h0.grow with hg | hg
    · refine .inl (hclo ?_)
      -- closed before: nothing new
      have hall : ∀ i : Nat, want[i]? = some true → w0[i]? = some true := fun i hi => by
        have hr := h.rch i hi
        induction hr with
        | zero => exact h0.zero
        | step _ hj ih =>
          rename_i a b hab
          have hw : w0[a]? = some true := by
            have := RcM.all (p := p) (met := w0) ⟨h0.len, fun t ht => (by cases ht), h0.rch, fun i hi => .inr (hg i hi), h0.zero⟩
            exact (this a).2 hab
          exact hg a hw _ hj
      apply List.ext_getElem?
      intro i
      by_cases hi : i < p.ss.length
      · have h1 : i < w0.length := by rw [h.len0]; exact hi
        have h2 : i < want.length := by rw [h.len]; exact hi
        have ha := hall i
        have hb := h.sub i
        rw [List.getElem?_eq_getElem h1, List.getElem?_eq_getElem h2] at *
        cases hx : w0[i] <;> cases hy : want[i] <;> simp_all
      · rw [List.getElem?_eq_none (by rw [h.len0]; omega), List.getElem?_eq_none (by rw [h.len]; omega)]
    · exact .inr (by omega)
theorem SwM.all {p : PT} {want : List Bool} (h : SwM p want p.ss.length) : ∀ i : Nat, want[i]? = some true ↔ Rch p i := by
  have hc := cnt_le want
  rcases h.grow with hg | hg
  · exact RcM.all (p := p) (met := want) ⟨h.len, fun t ht => (by cases ht), h.rch, fun i hi => .inr (hg i hi), h.zero⟩
  · rw [h.len] at hc; omega
theorem rch_one {p : PT} {a b : List Bool} (ha : rchL p a) (hb : rchL p b) : a = b := by
  obtain ⟨l1, h1⟩ := ha
  obtain ⟨l2, h2⟩ := hb
  have he : ∀ i : Nat, a[i]? = some true ↔ b[i]? = some true := by
    intro i
    split at h1
    · rename_i hc
      rw [if_pos hc] at h2
      rw [h1 i, h2 i]
    · rename_i hc
      rw [if_neg hc] at h2
      exact ⟨fun h => absurd h (h1 i), fun h => absurd h (h2 i)⟩
  apply List.ext_getElem?
  intro i
  by_cases hi : i < p.ss.length
  · have e1 : i < a.length := by omega
    have e2 : i < b.length := by omega
    have := he i
    rw [List.getElem?_eq_getElem e1, List.getElem?_eq_getElem e2] at *
    cases hx : a[i] <;> cases hy : b[i] <;> simp_all
  · rw [List.getElem?_eq_none (by omega), List.getElem?_eq_none (by omega)]
/-- The law's state. -/
structure RcW (w : World) (p : PT) (g0 gg gw : Nat) (got want : List Bool) (wr : World) : Prop where
  bel : Below w.heap.size w wr
  lo : w.heap.size ≤ gw
  ne : gg ≠ gw
  box : BoxP wr g0 p
  got : Blk wr gg 4 (bools got)
  want : Blk wr gw 4 (bools want)
theorem RcW.keep {w wr w' : World} {p : PT} {g0 gg gw : Nat} {got want : List Bool} (h : RcW w p g0 gg gw got want wr) (hb : Below wr.heap.size wr w') : RcW w p g0 gg gw got want w' :=
  ⟨h.bel.trans (hb.mono h.bel.size), h.lo, h.ne, Blk.keep h.box hb, Blk.keep h.got hb, Blk.keep h.want hb⟩
theorem RcW.mark {w wr : World} {p : PT} {g0 gg gw : Nat} {got want : List Bool} (h : RcW w p g0 gg gw got want wr) (i : Nat) : RcW w p g0 gg gw got (want.set i true) (wr.setCell ⟨gw, i, none⟩ (.bool true)) := by
  refine ⟨h.bel.setCell h.lo _, h.lo, h.ne, Blk.other h.box (fun e => ?_) _, Blk.other h.got (by show gg ≠ gw; exact h.ne) _, ?_⟩
  · simp only at e
    have h1 := h.box
    have h2 := h.want
    unfold BoxP Blk at h1
    unfold Blk at h2
    rw [e, h2] at h1
    injection h1 with h1
    injection h1 with _ h1
    revert h1
    decide
  · have := Blk.put h.want i (.bool true)
    unfold bools at this ⊢
    rw [List.map_set]
    exact this
theorem RcW.cell {w wr : World} {p : PT} {g0 gg gw : Nat} {got want : List Bool} (h : RcW w p g0 gg gw got want wr) {i : Nat} {b : Bool} (hb : want[i]? = some b) : wr.cell? ⟨gw, i, none⟩ = some (.bool b) := by
  rw [Blk.at h.want i]
  unfold bools
  rw [List.getElem?_map, hb]
  rfl
theorem RcW.cellg {w wr : World} {p : PT} {g0 gg gw : Nat} {got want : List Bool} (h : RcW w p g0 gg gw got want wr) {i : Nat} {b : Bool} (hb : got[i]? = some b) : wr.cell? ⟨gg, i, none⟩ = some (.bool b) := by
  rw [Blk.at h.got i]
  unfold bools
  rw [List.getElem?_map, hb]
  rfl
end Go.Proofs.YtfcokopnaohgeaaDoor
