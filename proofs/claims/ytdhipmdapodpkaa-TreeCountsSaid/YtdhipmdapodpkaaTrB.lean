/- tree: trees as plain mathematics, and in memory. -/
import Derived.Test.YtdhipmdapodpkaaTrA
namespace Go.Proofs.Ytdhipmdapodpkaa
set_option linter.unusedSimpArgs false
set_option linter.unusedVariables false
open Go.RowKit

/-- A tree. -/
inductive TT where
  | nd (num : Nat) (bl : Bool) (d : List UInt8) (ks : List TT)
mutual
theorem TT.ind {P : TT → Prop} (h : ∀ n b d ks, (∀ t ∈ ks, P t) → P (.nd n b d ks)) : ∀ t, P t
  | .nd n b d ks => h n b d ks (TT.indL h ks)
theorem TT.indL {P : TT → Prop} (h : ∀ n b d ks, (∀ t ∈ ks, P t) → P (.nd n b d ks)) : ∀ (ks : List TT), ∀ t ∈ ks, P t
  | [], _, ht => by cases ht
  | x :: ks, t, ht => (List.mem_cons.1 ht).elim (fun e => e ▸ TT.ind h x) (fun ht => TT.indL h ks t ht)
end
mutual
/-- How many parts it has. -/
def szT : TT → Nat
  | .nd _ _ _ ks => 1 + szL ks
def szL : List TT → Nat
  | [] => 0
  | t :: ts => szT t + szL ts
end
mutual
/-- How much there is of it. -/
def wT : TT → Nat
  | .nd _ _ d ks => 1 + d.length + wL ks
def wL : List TT → Nat
  | [] => 0
  | t :: ts => wT t + wL ts
end
mutual
/-- How deep it is. -/
def dpT : TT → Nat
  | .nd _ _ _ ks => dpL ks + 1
def dpL : List TT → Nat
  | [] => 0
  | t :: ts => max (dpT t) (dpL ts)
end
mutual
/-- Are two the same? -/
def smT : TT → TT → Bool
  | .nd n b d ks, .nd m c e us => decide (n = m) && ((b == c) && ((d == e) && smL ks us))
def smL : List TT → List TT → Bool
  | [], [] => true
  | t :: ts, u :: us => smT t u && smL ts us
  | [], _ :: _ => false
  | _ :: _, [] => false
end
def TT.num : TT → Nat | .nd n _ _ _ => n
def TT.bl : TT → Bool | .nd _ b _ _ => b
def TT.data : TT → List UInt8 | .nd _ _ d _ => d
def TT.kids : TT → List TT | .nd _ _ _ ks => ks
def TT.zero : TT := .nd 0 false [] []
theorem szL_app (a b : List TT) : szL (a ++ b) = szL a + szL b := by
  induction a with
  | nil => simp [szL]
  | cons x a ih => rw [List.cons_append, szL, szL, ih, Nat.add_assoc]
theorem wL_app (a b : List TT) : wL (a ++ b) = wL a + wL b := by
  induction a with
  | nil => simp [wL]
  | cons x a ih => rw [List.cons_append, wL, wL, ih, Nat.add_assoc]
theorem wT_pos (t : TT) : 1 ≤ wT t := by
  obtain ⟨n, b, d, ks⟩ := t
  rw [wT]; omega
theorem wL_len (ks : List TT) : ks.length ≤ wL ks := by
  induction ks with
  | nil => exact Nat.zero_le _
  | cons t ks ih => rw [wL, List.length_cons]; have := wT_pos t; omega
theorem wL_get {ks : List TT} {j : Nat} (h : j < ks.length) : wT ks[j] ≤ wL ks := by
  induction ks generalizing j with
  | nil => simp at h
  | cons t ks ih =>
    rw [wL]
    cases j with
    | zero => show wT t ≤ _; omega
    | succ j => have := ih (j := j) (by simpa using h); show wT (ks[j]'(by simpa using h)) ≤ _; omega
mutual
theorem szT_le : ∀ t, szT t ≤ wT t
  | .nd n b d ks => by
    rw [szT, wT]
    have := szL_le ks
    omega
theorem szL_le : ∀ ts, szL ts ≤ wL ts
  | [] => by simp [szL, wL]
  | t :: ts => by
    rw [szL, wL]
    have := szL_le ts
    have := szT_le t
    omega
end
theorem szL_take {ks : List TT} {j : Nat} (h : j < ks.length) : szL (ks.take (j + 1)) = szL (ks.take j) + szT ks[j] := by
  rw [List.take_add_one, List.getElem?_eq_getElem h, szL_app]
  simp [szL]
theorem szL_take_le (ks : List TT) (j : Nat) : szL (ks.take j) ≤ szL ks := by
  have h : szL (ks.take j ++ ks.drop j) = szL ks := by rw [List.take_append_drop]
  rw [szL_app] at h
  omega
theorem dpL_app (a b : List TT) : dpL (a ++ b) = max (dpL a) (dpL b) := by
  induction a with
  | nil => simp [dpL]
  | cons x a ih => rw [List.cons_append, dpL, dpL, ih, Nat.max_assoc]
theorem dpL_take {ks : List TT} {j : Nat} (h : j < ks.length) : dpL (ks.take (j + 1)) = max (dpL (ks.take j)) (dpT ks[j]) := by
  rw [List.take_add_one, List.getElem?_eq_getElem h, dpL_app]
  simp [dpL]
mutual
theorem dpT_le : ∀ t, dpT t ≤ wT t
  | .nd n b d ks => by
    rw [dpT, wT]
    have := dpL_le ks
    omega
theorem dpL_le : ∀ ts, dpL ts ≤ wL ts
  | [] => by simp [dpL, wL]
  | t :: ts => by
    rw [dpL, wL]
    have := dpL_le ts
    have := dpT_le t
    omega
end
theorem smT_iff : ∀ t u, smT t u = true ↔ t = u := by
  refine TT.ind fun n b d ks ih u => ?_
  obtain ⟨m, c, e, us⟩ := u
  rw [smT]
  simp only [Bool.and_eq_true, decide_eq_true_eq, beq_iff_eq, TT.nd.injEq]
  have key : ∀ (ks : List TT), (∀ t ∈ ks, ∀ u, smT t u = true ↔ t = u) → ∀ us, smL ks us = true ↔ ks = us := by
    intro ks
    induction ks with
    | nil => intro _ us; cases us <;> simp [smL]
    | cons t ks ih2 =>
      intro h us
      cases us with
      | nil => simp [smL]
      | cons u us =>
        rw [smL, Bool.and_eq_true, h t List.mem_cons_self u, ih2 (fun t ht => h t (List.mem_cons_of_mem _ ht)) us, List.cons.injEq]
  rw [key ks ih us]
theorem smT_self (t : TT) : smT t t = true := (smT_iff t t).2 rfl
theorem smL_len {ks us : List TT} (h : ks.length ≠ us.length) : smL ks us = false := by
  induction ks generalizing us with
  | nil =>
    cases us with
    | nil => exact absurd rfl h
    | cons _ _ => rw [smL]
  | cons a ks ih =>
    cases us with
    | nil => rw [smL]
    | cons b us => rw [smL, ih (by simpa using h), Bool.and_false]
theorem smL_false {ks us : List TT} {j : Nat} (h1 : j < ks.length) (h2 : j < us.length) (h : smT ks[j] us[j] = false) : smL ks us = false := by
  induction ks generalizing us j with
  | nil => simp at h1
  | cons a ks ih =>
    cases us with
    | nil => simp at h2
    | cons b us =>
      cases j with
      | zero =>
        have h : smT a b = false := h
        rw [smL, h, Bool.false_and]
      | succ j =>
        rw [smL, ih (us := us) (j := j) (by simpa using h1) (by simpa using h2) h, Bool.and_false]
theorem smL_true {ks us : List TT} (hl : ks.length = us.length) (h : ∀ j (h1 : j < ks.length) (h2 : j < us.length), smT ks[j] us[j] = true) : smL ks us = true := by
  induction ks generalizing us with
  | nil =>
    cases us with
    | nil => rw [smL]
    | cons _ _ => simp at hl
  | cons a ks ih =>
    cases us with
    | nil => simp at hl
    | cons b us =>
      have h0 : smT a b = true := h 0 (by simp) (by simp)
      rw [smL, h0, ih (by simpa using hl) (fun j h1 h2 => h (j + 1) (by simpa using h1) (by simpa using h2))]
      rfl

/-- A tree's value, part by part. -/
structure TV where
  num : Nat
  bl : Bool
  D : SV
  K : SV
def TV.cells (v : TV) : List Value := [.int .u64 (v.num : Int), .bool v.bl, .slice v.D.A v.D.n v.D.c, .slice v.K.A v.K.n v.K.c]
def TV.val (v : TV) : Value := .agg #[.int .u64 (v.num : Int), .bool v.bl, .slice v.D.A v.D.n v.D.c, .slice v.K.A v.K.n v.K.c]
theorem TV.val_eq (v : TV) : v.val = .agg v.cells.toArray := rfl
def TV.zero : TV := ⟨0, false, ⟨none, 0, 0⟩, ⟨none, 0, 0⟩⟩
theorem TV.len (v : TV) : v.cells.length = 4 := rfl
theorem tv_one (v : TV) : v.cells.toArray.all (·.oneCell') = true := by simp [TV.cells, Value.oneCell']
theorem tv_ones (v : TV) : ∀ u ∈ v.cells, u.oneCell' = true := by
  have := tv_one v
  simpa using this
theorem tv_size (v : TV) : (Try.prog.info? 26).map (·.size) = some v.cells.toArray.size := by
  rw [show v.cells.toArray.size = 4 from rfl]; kernel_rfl
theorem info_tree : (Try.prog.info? 26).map (fun i => (i.zero, i.size, i.bytes)) = some (some (.agg #[.int .u64 0, .bool false, .slice none 0 0, .slice none 0 0]), 4, 64) := by kernel_rfl
theorem info_int : (Try.prog.info? 3).map (fun i => (i.zero, i.size, i.bytes)) = some (some (.int .i64 0), 1, 8) := by kernel_rfl
def flatV (l : List TV) : List Value := l.flatMap TV.cells
theorem flatV_len (l : List TV) : (flatV l).length = l.length * 4 := flat_len (f := TV.cells) (fun _ => rfl) l
theorem flatV_get (l : List TV) (j i : Nat) (hj : j < l.length) (hi : i < 4) : (flatV l)[j * 4 + i]? = (l[j]).cells[i]? := flat_get (f := TV.cells) (fun _ => rfl) l j i hj hi
theorem flatV_snoc (l : List TV) (v : TV) : flatV (l ++ [v]) = flatV l ++ v.cells := by simp [flatV]
theorem ones_V (l : List TV) : ∀ u ∈ flatV l, u.oneCell' = true := by
  intro u hu
  obtain ⟨c, _, hu⟩ := List.mem_flatMap.1 hu
  exact tv_ones c u hu
theorem ones_B (l : List UInt8) : ∀ u ∈ l.map isB, u.oneCell' = true := one_isB l

/-- A value stands for a tree; its bytes and parts lie in blocks of which P holds. -/
inductive Rep (w : World) (P : Nat → Prop) : TV → TT → Prop
  | mk (v : TV) (d : List UInt8) (ks : List TT) (vs : List TV) (hb : v.num < 18446744073709551616) (hd : v.D.n = d.length) (hD : Rw w P v.D (d.map isB))
      (hk : v.K.n = ks.length) (hl : vs.length = ks.length) (hK : Rw w P v.K (flatV vs)) (hr : ∀ j (h1 : j < vs.length) (h2 : j < ks.length), Rep w P vs[j] ks[j]) : Rep w P v (.nd v.num v.bl d ks)
theorem Rep.mono {w w' : World} {P Q : Nat → Prop} {v : TV} {t : TT} (h : Rep w P v t) (hb : ∀ b, P b → b < w.heap.size → w'.heap[b]? = w.heap[b]?) (hs : w.heap.size ≤ w'.heap.size) (hPQ : ∀ b, P b → b < w.heap.size → Q b) : Rep w' Q v t := by
  induction h with
  | mk v d ks vs hn hd hD hk hl hK hr ih => exact .mk v d ks vs hn hd (hD.mono hb hs hPQ) hk hl (hK.mono hb hs hPQ) ih
theorem Rep.keep {w w' : World} {P : Nat → Prop} {v : TV} {t : TT} (h : Rep w P v t) (hb : Below w.heap.size w w') : Rep w' P v t :=
  h.mono (fun b _ hl => hb.block b hl) hb.size (fun _ h _ => h)
theorem Rep.inv {w : World} {P : Nat → Prop} {v : TV} {n : Nat} {b : Bool} {d : List UInt8} {ks : List TT} (h : Rep w P v (.nd n b d ks)) :
    v.num = n ∧ v.bl = b ∧ n < 18446744073709551616 ∧ v.D.n = d.length ∧ Rw w P v.D (d.map isB) ∧ v.K.n = ks.length ∧ ∃ vs : List TV, vs.length = ks.length ∧ Rw w P v.K (flatV vs) ∧ ∀ j (h1 : j < vs.length) (h2 : j < ks.length), Rep w P vs[j] ks[j] := by
  cases h with
  | mk _ _ _ vs hb hd hD hk hl hK hr => exact ⟨rfl, rfl, hb, hd, hD, hk, vs, hl, hK, hr⟩
theorem Rep.zero (w : World) (P : Nat → Prop) : Rep w P TV.zero TT.zero :=
  .mk TV.zero [] [] [] (by decide) rfl (Rw.nil _ _ _) rfl rfl (Rw.nil _ _ _) (fun j h => absurd h (by simp))
/-- Parts in memory. -/
structure RepL (w : World) (P : Nat → Prop) (K : SV) (ks : List TT) (vs : List TV) : Prop where
  n : K.n = ks.length
  l : vs.length = ks.length
  r : Rw w P K (flatV vs)
  each : ∀ j (h1 : j < vs.length) (h2 : j < ks.length), Rep w P vs[j] ks[j]
theorem RepL.mono {w w' : World} {P Q : Nat → Prop} {K : SV} {ks : List TT} {vs : List TV} (h : RepL w P K ks vs) (hb : ∀ b, P b → b < w.heap.size → w'.heap[b]? = w.heap[b]?) (hs : w.heap.size ≤ w'.heap.size) (hPQ : ∀ b, P b → b < w.heap.size → Q b) : RepL w' Q K ks vs :=
  ⟨h.n, h.l, h.r.mono hb hs hPQ, fun j h1 h2 => (h.each j h1 h2).mono hb hs hPQ⟩
theorem RepL.keep {w w' : World} {P : Nat → Prop} {K : SV} {ks : List TT} {vs : List TV} (h : RepL w P K ks vs) (hb : Below w.heap.size w w') : RepL w' P K ks vs :=
  h.mono (fun b _ hl => hb.block b hl) hb.size (fun _ h _ => h)
theorem Rep.kids {w : World} {P : Nat → Prop} {v : TV} {t : TT} (h : Rep w P v t) : ∃ vs, RepL w P v.K t.kids vs := by
  obtain ⟨n, b, d, ks⟩ := t
  obtain ⟨_, _, _, _, _, hk, vs, hl, hK, hr⟩ := h.inv
  exact ⟨vs, hk, hl, hK, hr⟩
/-- The cells of a part. -/
theorem Rw.range {w : World} {P : Nat → Prop} {K : SV} {vs : List TV} (h : Rw w P K (flatV vs)) {j : Nat} (hj : j < vs.length) : ∃ b o, K.A = some ⟨b, o, none⟩ ∧ b < w.heap.size ∧ P b ∧ w.rangeAt b (o + j * 4) (vs[j]).cells := by
  obtain ⟨b, o, e, hb, hP, hc⟩ := h.at (by rw [flatV_len]; omega)
  refine ⟨b, o, e, hb, hP, fun i u hu => ?_⟩
  have hi : i < 4 := by
    have := (List.getElem?_eq_some_iff.1 hu).1
    rwa [TV.len] at this
  rw [Nat.add_assoc, hc (j * 4 + i) (by rw [flatV_len]; omega), flatV_get vs j i hj hi, hu]
theorem range_keep {w w' : World} {b o : Nat} {cs : List Value} (h : w.rangeAt b o cs) (hb : w'.heap[b]? = w.heap[b]?) : w'.rangeAt b o cs := fun j v hv => by
  rw [World.cell?_of_block (w := w) (w' := w') (a := ⟨b, o + j, none⟩) hb]; exact h j v hv
theorem Rw.rdb {w : World} {P : Nat → Prop} {s : SV} {l : List UInt8} (h : Rw w P s (l.map isB)) (hn : s.n = l.length) : RdB w s.A s.n l := by
  refine ⟨hn.symm, fun h0 => ?_⟩
  obtain ⟨b, o, e, hb, _, hc⟩ := h.2 (by simp; omega)
  exact ⟨b, o, e, hb, fun j hj => by have := hc j (by simpa using hj); simpa [isB] using this⟩
/-- A tree's box. -/
def BoxT (w : World) (g : Nat) (v : TV) : Prop := Blk w g 26 v.cells
theorem box_new (w : World) (v : TV) : Below w.heap.size w (w.alloc (.cells v.cells.toArray 26)) ∧ BoxT (w.alloc (.cells v.cells.toArray 26)) w.heap.size v :=
  ⟨(Below.refl _ _).alloc (Nat.le_refl _) _, heap_alloc_new w _⟩
theorem BoxT.four {w : World} {g : Nat} {v : TV} (h : BoxT w g v) : w.cell? ⟨g, 0, none⟩ = some (.int .u64 (v.num : Int)) ∧ w.cell? ⟨g, 1, none⟩ = some (.bool v.bl) ∧ w.cell? ⟨g, 2, none⟩ = some (.slice v.D.A v.D.n v.D.c) ∧ w.cell? ⟨g, 3, none⟩ = some (.slice v.K.A v.K.n v.K.c) :=
  ⟨Blk.at h 0, Blk.at h 1, Blk.at h 2, Blk.at h 3⟩
end Go.Proofs.Ytdhipmdapodpkaa
