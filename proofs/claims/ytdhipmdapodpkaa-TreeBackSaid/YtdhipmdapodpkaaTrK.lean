/- tree: Put. -/
import Derived.Test.YtdhipmdapodpkaaTrJ
import Derived.Deep.MidRow
namespace Go.Proofs.Ytdhipmdapodpkaa
set_option linter.unusedSimpArgs false
set_option linter.unusedVariables false
open Go.RowKit

/-- A tree in which another part stands on a way. -/
def putT : TT → List Int → TT → TT
  | _, [], s => s
  | .nd n b d ks, i :: l, s => .nd n b d (match ks[i.toNat]? with
    | some k => ks.set i.toNat (putT k l s)
    | none => ks)
theorem putT_snoc : ∀ (l : List Int) (t u s : TT) (i : Int), atT t l = some u → putT t (l ++ [i]) s = putT t l (putT u [i] s)
  | [], t, u, s, i, h => by
    obtain ⟨n, b, d, ks⟩ := t
    simp only [atT, Option.some.injEq] at h
    subst h
    rfl
  | j :: l, .nd n b d ks, u, s, i, h => by
    simp only [atT] at h
    split at h
    · cases hk : ks[j.toNat]? with
      | none => rw [hk] at h; cases h
      | some k =>
        rw [hk] at h
        simp only [List.cons_append, putT, hk]
        rw [putT_snoc l k u s i h]
    · cases h
theorem wL_set {ks : List TT} {i : Nat} {k x : TT} (h : ks[i]? = some k) : wL (ks.set i x) + wT k = wL ks + wT x := by
  induction ks generalizing i with
  | nil => simp at h
  | cons t ks ih =>
    cases i with
    | zero =>
      simp only [List.getElem?_cons_zero, Option.some.injEq] at h
      subst h
      simp only [List.set_cons_zero, wL]
      omega
    | succ i =>
      simp only [List.getElem?_cons_succ] at h
      have := ih h
      simp only [List.set_cons_succ, wL]
      omega
theorem wT_put : ∀ (l : List Int) (t s u : TT), atT t l = some u → wT (putT t l s) + wT u = wT t + wT s
  | [], t, s, u, h => by
    obtain ⟨n, b, d, ks⟩ := t
    simp only [atT, Option.some.injEq] at h
    subst h
    simp only [putT]
    omega
  | j :: l, .nd n b d ks, s, u, h => by
    simp only [atT] at h
    split at h
    · cases hk : ks[j.toNat]? with
      | none => rw [hk] at h; cases h
      | some k =>
        rw [hk] at h
        have h1 := wT_put l k s u h
        have h2 := wL_set (x := putT k l s) hk
        simp only [putT, hk, wT]
        omega
    · cases h
theorem szL_set {ks : List TT} {i : Nat} {k x : TT} (h : ks[i]? = some k) : szL (ks.set i x) + szT k = szL ks + szT x := by
  induction ks generalizing i with
  | nil => simp at h
  | cons t ks ih =>
    cases i with
    | zero =>
      simp only [List.getElem?_cons_zero, Option.some.injEq] at h
      subst h
      simp only [List.set_cons_zero, szL]
      omega
    | succ i =>
      simp only [List.getElem?_cons_succ] at h
      have := ih h
      simp only [List.set_cons_succ, szL]
      omega
theorem szT_put : ∀ (l : List Int) (t s u : TT), atT t l = some u → szT (putT t l s) + szT u = szT t + szT s
  | [], t, s, u, h => by
    obtain ⟨n, b, d, ks⟩ := t
    simp only [atT, Option.some.injEq] at h
    subst h
    simp only [putT]
    omega
  | j :: l, .nd n b d ks, s, u, h => by
    simp only [atT] at h
    split at h
    · cases hk : ks[j.toNat]? with
      | none => rw [hk] at h; cases h
      | some k =>
        rw [hk] at h
        have h1 := szT_put l k s u h
        have h2 := szL_set (x := putT k l s) hk
        simp only [putT, hk, szT]
        omega
    · cases h
theorem at_put : ∀ (l : List Int) (t s u : TT), atT t l = some u → atT (putT t l s) l = some s
  | [], t, s, u, h => by
    obtain ⟨n, b, d, ks⟩ := s
    simp [putT, atT]
  | j :: l, .nd n b d ks, s, u, h => by
    simp only [atT] at h
    split at h
    · rename_i hj
      cases hk : ks[j.toNat]? with
      | none => rw [hk] at h; cases h
      | some k =>
        rw [hk] at h
        have hi := (List.getElem?_eq_some_iff.1 hk).1
        simp only [putT, hk, atT, if_pos hj]
        rw [List.getElem?_set_self hi]
        exact at_put l k s u h
    · cases h
theorem put_put : ∀ (l : List Int) (t s u : TT), atT t l = some u → putT (putT t l s) l u = t
  | [], t, s, u, h => by
    obtain ⟨n, b, d, ks⟩ := t
    simp only [atT, Option.some.injEq] at h
    subst h
    simp [putT]
  | j :: l, .nd n b d ks, s, u, h => by
    simp only [atT] at h
    split at h
    · rename_i hj
      cases hk : ks[j.toNat]? with
      | none => rw [hk] at h; cases h
      | some k =>
        rw [hk] at h
        obtain ⟨hi, hki⟩ := List.getElem?_eq_some_iff.1 hk
        simp only [putT, hk]
        rw [List.getElem?_set_self hi]
        simp only
        rw [put_put l k s u h, List.set_set, ← hki, List.set_getElem_self]
    · cases h
theorem blk_type {w : World} {g : Nat} {T U : TypeId} {cs ds : List Value} (h : Blk w g T cs) (k : Blk w g U ds) : T = U := by
  unfold Blk at h k
  rw [h] at k
  injection k with k
  injection k
/-- Where a part's cells stand, and what the whole is once other cells stand there. -/
structure Spot (w : World) (base g0 : Nat) (t : TT) (path : List Int) (b o lo hi : Nat) (z : TV) (u : TT) (cs : List Value) : Prop where
  blk : Blk w b 26 cs
  fit : o + 4 ≤ cs.length
  zc : (cs.drop o).take 4 = z.cells
  seg : Seg w lo hi z u
  out : ¬ (lo ≤ b ∧ b < hi)
  bs : base ≤ b ∧ base ≤ lo
  hil : hi ≤ w.heap.size
  it : atT t path = some u
  whole : ∀ (w' : World) (y : TV) (s : TT), (∀ k, k < w.heap.size → k ≠ b → ¬ (lo ≤ k ∧ k < hi) → w'.heap[k]? = w.heap[k]?) → Blk w' b 26 (cs.take o ++ y.cells ++ cs.drop (o + 4)) → Rep w' (fun c => base ≤ c) y s →
    ∃ x : TV, BoxT w' g0 x ∧ Rep w' (fun c => base ≤ c) x (putT t path s)
theorem Spot.start {w : World} {base g0 lo hi : Nat} {v : TV} {t : TT} (hbs : base ≤ g0 ∧ base ≤ lo) (hB : BoxT w g0 v) (hS : Seg w lo hi v t) (hg : ¬ (lo ≤ g0 ∧ g0 < hi)) (hh : hi ≤ w.heap.size) : Spot w base g0 t [] g0 0 lo hi v t v.cells := by
  refine ⟨hB, by rw [TV.len]; exact Nat.le_refl _, ?_, hS, hg, hbs, hh, by cases t; rfl, fun w' y s _ hb hr => ⟨y, ?_, ?_⟩⟩
  · rw [List.drop_zero]; exact List.take_of_length_le (Nat.le_of_eq v.len)
  · have e : v.cells.take 0 ++ y.cells ++ v.cells.drop (0 + 4) = y.cells := by
      rw [List.take_zero, List.nil_append, List.drop_eq_nil_of_le (Nat.le_of_eq v.len), List.append_nil]
    rw [e] at hb
    exact hb
  · simpa [putT] using hr
theorem take4 {cs : List Value} {o : Nat} {z : TV} (h : (cs.drop o).take 4 = z.cells) (hf : o + 4 ≤ cs.length) : cs.take o ++ z.cells ++ cs.drop (o + 4) = cs := by
  rw [← h, ← List.drop_drop, List.append_assoc, List.take_append_drop, List.take_append_drop]
theorem Spot.step {w : World} {base g0 : Nat} {t : TT} {path : List Int} {b o lo hi : Nat} {z : TV} {u : TT} {cs : List Value} (h : Spot w base g0 t path b o lo hi z u cs) {j : Nat} {k : TT} (hk : u.kids[j]? = some k) :
    ∃ (b' lo' hi' : Nat) (y : TV) (cs' : List Value), z.K.A = some ⟨b', 0, none⟩ ∧ lo ≤ b' ∧ lo ≤ lo' ∧ Spot w base g0 t (path ++ [(j : Int)]) b' (j * 4) lo' hi' y k cs' := by
  obtain ⟨n, bl, d, ks⟩ := u
  have hk : ks[j]? = some k := hk
  obtain ⟨hj, hkj⟩ := List.getElem?_eq_some_iff.1 hk
  obtain ⟨e1, e2, hn, mid, vs, m, hlo, h0, hm, hh, hD, hl, hK, hr⟩ := h.seg.inv
  have hml := mono_m hm
  have hjv : j < vs.length := by omega
  have m1 := hml 0 j (Nat.zero_le _) (by omega)
  have m2 := hml (j + 1) ks.length (by omega) (Nat.le_refl _)
  have m3 := hm j hj
  rcases hK.2 with ⟨_, e⟩ | ⟨b', hb1, hb2, hK1, hK2⟩
  · have := congrArg List.length e
    rw [flatV_len] at this
    simp at this
    omega
  refine ⟨b', m j, m (j + 1), vs[j], flatV vs, by rw [hK1], hb1, by omega, ⟨hK2, by rw [flatV_len]; omega, ?_, ?_, by omega, ⟨Nat.le_trans h.bs.2 hb1, Nat.le_trans h.bs.2 (by omega)⟩, by have := h.hil; omega, ?_, fun w' y s hsame hb' hy => ?_⟩⟩
  · apply List.ext_getElem?
    intro i
    by_cases hi : i < 4
    · rw [List.getElem?_take_of_lt hi, List.getElem?_drop, flatV_get vs j i hjv hi]
    · rw [List.getElem?_take_eq_none (by omega), List.getElem?_eq_none (by rw [TV.len]; omega)]
  · rw [← hkj]; exact hr j hjv hj
  · rw [atT_snoc, h.it]
    simp [atT, hk]
  · have hb0 : w'.heap[b]? = w.heap[b]? := hsame b h.blk.lt (fun e => h.out (by omega)) (fun e => h.out (by omega))
    have hput : putT t (path ++ [(j : Int)]) s = putT t path (.nd n bl d (ks.set j s)) := by
      rw [putT_snoc path t _ s _ h.it]
      simp [putT, hk]
    rw [hput]
    have hset : (flatV vs).take (j * 4) ++ y.cells ++ (flatV vs).drop (j * 4 + 4) = flatV (vs.set j y) := by
      have := flatV_set hjv y
      rwa [TV.len] at this
    rw [hset] at hb'
    refine h.whole w' z _ (fun k hkl hkb hkn => hsame k hkl (fun e => hkn (by omega)) (fun e => hkn (by omega))) ?_ ?_
    · rw [take4 h.zc h.fit]
      exact hb0.trans h.blk
    · have hbs := h.bs.2
      have hKw : Rw w' (fun c => base ≤ c) z.K (flatV (vs.set j y)) := by
        refine ⟨fun e => by (rw [hK1] at e; cases e), fun hx => ⟨b', 0, by rw [hK1], hb'.lt, Nat.le_trans hbs hb1, fun i hi => by rw [Nat.zero_add, hb'.at, List.getElem?_eq_getElem hi]⟩⟩
      have hDw : Rw w' (fun c => base ≤ c) z.D (d.map isB) := by
        rcases hD.2 with ⟨_, e'⟩ | ⟨gD, c1, c2, e, hk2⟩
        · rw [e']; exact Rw.nil _ _ _
        · have hne : gD ≠ b' := fun e => by
            subst e
            exact absurd (blk_type hk2 hK2) (by decide)
          have hb2 : Blk w' gD 5 (d.map isB) := (hsame gD hk2.lt hne (by omega)).trans hk2
          rw [e]
          exact ⟨fun e => by (cases e), fun hx => ⟨gD, 0, rfl, hb2.lt, Nat.le_trans hbs c1, fun i hi => by rw [Nat.zero_add, hb2.at, List.getElem?_eq_getElem hi]⟩⟩
      rw [← e1, ← e2]
      refine .mk z d (ks.set j s) (vs.set j y) (by rw [e1]; exact hn) hD.1 hDw (by rw [List.length_set]; exact hK.1) (by rw [List.length_set, List.length_set]; exact hl) hKw (fun i h1 h2 => ?_)
      rw [List.length_set] at h1 h2
      by_cases e : i = j
      · subst e
        rw [List.getElem_set_self, List.getElem_set_self]
        exact hy
      · rw [List.getElem_set_ne (by omega), List.getElem_set_ne (by omega)]
        have p1 := hml 0 i (Nat.zero_le _) (by omega)
        have p2 := hml (i + 1) ks.length (by omega) (Nat.le_refl _)
        have hdis : ∀ c, m i ≤ c → c < m (i + 1) → ¬ (m j ≤ c ∧ c < m (j + 1)) := fun c c1 c2 c3 => by
          rcases Nat.lt_or_gt_of_ne e with e | e
          · have := hml (i + 1) j (by omega) (by omega); omega
          · have := hml (j + 1) i (by omega) (by omega); omega
        have hsg := (hr i h1 h2).mono (w' := w') fun c c1 c2 => hsame c (by have := h.hil; omega) (by omega) (hdis c c1 c2)
        exact hsg.rep.mono (fun _ _ _ => rfl) (Nat.le_refl _) (fun c hc _ => Nat.le_trans hbs (by omega))
theorem Spot.kids {w : World} {base g0 : Nat} {t : TT} {path : List Int} {b o lo hi : Nat} {z : TV} {u : TT} {cs : List Value} (h : Spot w base g0 t path b o lo hi z u cs) : w.cell? ⟨b, o + 3, none⟩ = some (.slice z.K.A z.K.n z.K.c) ∧ z.K.n = u.kids.length := by
  constructor
  · rw [h.blk.at]
    have e : (z.cells)[3]? = some (.slice z.K.A z.K.n z.K.c) := rfl
    rw [← h.zc, List.getElem?_take_of_lt (by decide), List.getElem?_drop] at e
    exact e
  · obtain ⟨n, bl, d, ks⟩ := u
    obtain ⟨_, _, _, mid, vs, m, _, _, _, _, _, _, hK, _⟩ := h.seg.inv
    exact hK.1
/-- What the whole is once other cells stand there. -/
theorem Spot.laid {w w4 : World} {base g0 : Nat} {t : TT} {path : List Int} {b o lo hi : Nat} {z y : TV} {u s : TT} {cs : List Value} (h : Spot w base g0 t path b o lo hi z u cs) (hb : Below w.heap.size w w4) (hs : Seg w4 w.heap.size w4.heap.size y s) :
    w4.there b o y.cells.toArray.size ∧ ∃ x : TV, BoxT (w4.setCells b o y.cells) g0 x ∧ Rep (w4.setCells b o y.cells) (fun c => base ≤ c) x (putT t path s) := by
  have hk : Blk w4 b 26 cs := h.blk.keep hb
  have hf := h.fit
  have hc := chg_setCells (g := b) y.cells o w4
  refine ⟨fun i hi => ?_, h.whole _ y s (fun k hkl hkb _ => (hc.block k (Nat.lt_of_lt_of_le hkl hb.size) hkb).trans (hb.block k hkl)) ?_ ?_⟩
  · have hi : i < 4 := hi
    exact ⟨by rw [hk.at, List.getElem?_eq_getElem (by omega)]; rfl, hk.free _⟩
  · have := blk_setCells y.cells o cs w4 hk (by rw [TV.len]; exact hf)
    rwa [TV.len] at this
  · have h1 := hs.mono (w' := w4.setCells b o y.cells) fun k h1 h2 => hc.block k h2 (by have := h.blk.lt; omega)
    exact h1.rep.mono (fun _ _ _ => rfl) (Nat.le_refl _) (fun c hc _ => by have := h.blk.lt; have := h.bs.1; omega)
end Go.Proofs.Ytdhipmdapodpkaa
