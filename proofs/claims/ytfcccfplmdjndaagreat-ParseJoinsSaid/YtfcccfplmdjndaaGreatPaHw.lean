/- parse: likewise of a Switch. -/
import Derived.Test.YtfcccfplmdjndaaGreatPaHk
namespace Go.Proofs.YtfcccfplmdjndaaGreat
set_option linter.unusedSimpArgs false
set_option linter.unusedVariables false

theorem cases_hold {K : RS → Int × RS} (hK : Kp K) : ∀ (m : Nat) (cs : List CT) (s : RS), (Ok (casesP K m cs s).2 → Ok s) ∧ (casesP K m cs s).2.ds = s.ds ∧ (∀ t ∈ (casesP K m cs s).2.ts, t ∈ s.ts) ∧ ∀ U P, Nm s → Ok (casesP K m cs s).2 → cs.length ≤ 64 → cs.map CT.ty = natI P → Hold s.ns (U ++ P) → ∃ P', (casesP K m cs s).1.map CT.ty = natI P' ∧ Hold (casesP K m cs s).2.ns (U ++ P') ∧ (casesP K m cs s).1.length ≤ 64 ∧ (0 < m ∨ 0 < cs.length → 0 < (casesP K m cs s).1.length)
 | 0, cs, s => ⟨id, rfl, fun _ h => h, fun U P _ _ hl hp hh => ⟨P, hp, hh, hl, fun h => by rcases h with h | h; exact absurd h (Nat.lt_irrefl 0); exact h⟩⟩
 | m + 1, cs, s => by
  have h1 := (flat_room cs.length s).trans (flat_num 0 uMax _)
  have h2 := told_hold hK (numP 0 uMax (roomP cs.length s)).2
  have h3 : Ok (numP 0 uMax (roomP cs.length s)).2 → cs.length ≠ 64 := fun h => room_ok ((flat_num 0 uMax _).ok h)
  unfold casesP
  simp only
  generalize numP 0 uMax (roomP cs.length s) = r at *
  generalize toldP K r.2 = a at *
  obtain ⟨k1, k2, ks, k3⟩ := h2
  have hln : (cs ++ [(⟨r.1, a.1⟩ : CT)]).length = cs.length + 1 := by rw [List.length_append, List.length_singleton]
  split
  ·obtain ⟨i1, i2, is_, i3⟩ := cases_hold hK m (cs ++ [⟨r.1, a.1⟩]) a.2
   refine ⟨fun h => h1.ok (k1 (i1 h)), i2.trans (k2.trans h1.ds), fun t ht => h1.sub t (ks t (is_ t ht)), fun U P hn ho hl hp hh => ?_⟩
   have ha := i1 ho
   have hr := k1 ha
   have h64 := h3 hr
   obtain ⟨q, e, hq⟩ := k3 (U ++ P) (hn.sub h1.sub) ha (by rw [h1.ns]; exact hh)
   obtain ⟨P', p1, p2, p3, p4⟩ := i3 U (P ++ [q]) ((hn.sub h1.sub).sub ks) ho (by rw [hln]; omega) (by rw [List.map_append, hp, natI_snoc, ← e]; rfl) (by rw [← List.append_assoc]; exact hq)
   exact ⟨P', p1, p2, p3, fun _ => p4 (.inr (by rw [hln]; omega))⟩
  ·refine ⟨fun h => h1.ok (k1 h), k2.trans h1.ds, fun t ht => h1.sub t (ks t ht), fun U P hn ho hl hp hh => ?_⟩
   have hr := k1 ho
   have h64 := h3 hr
   obtain ⟨q, e, hq⟩ := k3 (U ++ P) (hn.sub h1.sub) ho (by rw [h1.ns]; exact hh)
   exact ⟨P ++ [q], by rw [List.map_append, hp, natI_snoc, ← e]; rfl, by rw [← List.append_assoc]; exact hq, by rw [hln]; omega, fun _ => by rw [hln]; omega⟩
theorem nxt_mem {s : RS} {k : Nat} (h : (nxt s).1 = k) (hk : k ≠ 5) : nxt s ∈ s.ts := by
 unfold nxt at *
 cases hs : s.ts with
 | nil => rw [hs] at h; exact absurd h.symm hk
 | cons a t => simp
theorem name_ne {s : RS} (hn : Nm s) (h : Ok (nameP s).2) : (nameP s).1 ≠ [] := by
 unfold nameP at h ⊢
 split at h
 ·exact absurd h (not_fail (by decide) s)
 ·rename_i h1
  rw [if_neg h1]
  have e : (nxt s).1 = 1 := by
   rcases Nat.decEq (nxt s).1 1 with e | e
   ·exact absurd (.inl e) h1
   ·exact e
  exact hn _ (nxt_mem e (by decide)) e
theorem may_switch {rg : List UInt8} {md : Nat} {cs : List CT} {el : Int} (h0 : rg ≠ []) (h1 : 0 < cs.length) (h2 : cs.length ≤ 64) (he : -1 ≤ el) : MayT { ntZ with k := 9, rg := strB rg, md := md, cs := cs, el := el } := by
 intro x hx k1 k2 k3 k4
 have hsw : swB 9 cs.length (strB rg) md el = true := by
  unfold swB strB
  rw [if_pos rfl, ByteArray.toList_eq]
  simp [h0, h1, he]
 have e2 : ¬ 64 < max (max ntZ.ks.length ntZ.fs.length) cs.length := by simp [ntZ]; omega
 unfold ckV foB
 rw [hx, k1, k2, k3, k4]
 dsimp only
 rw [hsw, if_neg e2]
 first
  | rfl
  | (show _ = (0 : Nat); kernel_rfl)
theorem np_choose {K : RS → Int × RS} (hK : Kp K) (s : RS) : Np s (chooseP K s).1 (chooseP K s).2 := by
 have h1 := flat_name s
 have hne := name_ne (s := s)
 have h2 := h1.trans (flat_took 4 [37] (nameP s).2)
 have h3 : Flat s (if (tookP 4 [37] (nameP s).2).1 = true then numP 1 uMax (tookP 4 [37] (nameP s).2).2 else ((0 : Nat), (tookP 4 [37] (nameP s).2).2)).2 := by
  split
  ·exact h2.trans (flat_num _ _ _)
  ·exact h2
 have h3b : Flat (nameP s).2 (if (tookP 4 [37] (nameP s).2).1 = true then numP 1 uMax (tookP 4 [37] (nameP s).2).2 else ((0 : Nat), (tookP 4 [37] (nameP s).2).2)).2 := by
  split
  ·exact (flat_took _ _ _).trans (flat_num _ _ _)
  ·exact flat_took _ _ _
 unfold chooseP
 simp only
 generalize (if (tookP 4 [37] (nameP s).2).1 = true then numP 1 uMax (tookP 4 [37] (nameP s).2).2 else ((0 : Nat), (tookP 4 [37] (nameP s).2).2)) = c at *
 clear h2
 have h4 := h3.trans (flat_sign [123] c.2)
 have h4b := h3b.trans (flat_sign [123] c.2)
 generalize signP [123] c.2 = d at *
 obtain ⟨i1, i2, is_, i3⟩ := cases_hold hK d.ts.length [] d
 have hz : d.ts.length = 0 → (casesP K d.ts.length [] d).2 = d := fun e => by rw [e]; rfl
 generalize casesP K d.ts.length [] d = E at *
 have h5 := flat_took 1 s_else E.2
 generalize tookP 1 s_else E.2 = f at *
 have hpos : (∃ x t, t ∈ E.2.ts ∧ x = t) → 0 < d.ts.length := by
  rintro ⟨_, t, ht, _⟩
  rcases Nat.eq_zero_or_pos d.ts.length with e | e
  ·rw [hz e] at ht
   have : d.ts = [] := List.length_eq_zero_iff.1 e
   rw [this] at ht
   cases ht
  ·exact e
 have key : ∀ (U : List Nat), Nm s → Ok f.2 → (∃ t, t ∈ f.2.ts) → Hold s.ns U → ∃ P', E.1.map CT.ty = natI P' ∧ Hold f.2.ns (U ++ P') ∧ E.1.length ≤ 64 ∧ 0 < E.1.length ∧ (nameP s).1 ≠ [] := by
  intro U hn ho ht hh
  have hE := h5.ok ho
  have hd := i1 hE
  obtain ⟨P', p1, p2, p3, p4⟩ := i3 U [] (hn.sub h4.sub) hE (Nat.zero_le _) rfl (by rw [List.append_nil, h4.ns]; exact hh)
  obtain ⟨t, ht⟩ := ht
  exact ⟨P', p1, by rw [h5.ns]; exact p2, p3, p4 (.inl (hpos ⟨t, t, h5.sub t ht, rfl⟩)), hne hn (h4b.ok hd)⟩
 have htok : ∀ {q : RS}, Ok (signP [125] q) → ∃ t, t ∈ q.ts := by
  intro q h
  have := sign_ne h
  cases hq : q.ts with
  | nil => rw [hq] at this; cases this
  | cons a t => exact ⟨a, by simp⟩
 split
 ·obtain ⟨k1, k2, ks, k3⟩ := told_hold hK f.2
  have h6 := flat_sign [125] (toldP K f.2).2
  refine ⟨fun h => h4.ok (i1 (h5.ok (k1 (h6.ok h)))), h6.ds.trans (k2.trans (h5.ds.trans (i2.trans h4.ds))), fun t ht => h4.sub t (is_ t (h5.sub t (ks t (h6.sub t ht)))), fun U hn ho hh => ?_⟩
  have hf := k1 (h6.ok ho)
  obtain ⟨t, ht⟩ := htok ho
  obtain ⟨P', p1, p2, p3, p4, p5⟩ := key U hn hf ⟨t, ks t ht⟩ hh
  obtain ⟨r, e, hr⟩ := k3 (U ++ P') (((hn.sub h4.sub).sub is_).sub h5.sub) (h6.ok ho) p2
  refine ⟨P' ++ [r], ?_, by rw [← List.append_assoc]; show Hold (signP [125] _).ns _; rw [h6.ns]; exact hr, may_switch p5 p4 p3 (by show -1 ≤ (toldP K f.2).1; rw [e]; omega)⟩
  show [] ++ [] ++ E.1.map CT.ty ++ (if (9 : Int) = 9 ∧ 0 ≤ (toldP K f.2).1 then [(toldP K f.2).1] else []) = _
  rw [if_pos ⟨rfl, by rw [e]; omega⟩, p1, natI_snoc, e]
  simp
 ·have h6 := flat_sign [125] f.2
  refine ⟨fun h => h4.ok (i1 (h5.ok (h6.ok h))), h6.ds.trans (h5.ds.trans (i2.trans h4.ds)), fun t ht => h4.sub t (is_ t (h5.sub t (h6.sub t ht))), fun U hn ho hh => ?_⟩
  obtain ⟨P', p1, p2, p3, p4, p5⟩ := key U hn (h6.ok ho) (htok ho) hh
  refine ⟨P', ?_, by show Hold (signP [125] _).ns _; rw [h6.ns]; exact p2, may_switch p5 p4 p3 (by decide)⟩
  show [] ++ [] ++ E.1.map CT.ty ++ (if (9 : Int) = 9 ∧ 0 ≤ (-1 : Int) then [-1] else []) = _
  rw [if_neg (by omega), p1]
  simp
end Go.Proofs.YtfcccfplmdjndaaGreat

/- parse: likewise of a Oneof, a Chain. -/
namespace Go.Proofs.YtfcccfplmdjndaaGreat
set_option linter.unusedSimpArgs false
set_option linter.unusedVariables false

theorem kids_hold {K : RS → Int × RS} (hK : Kp K) (chain : Bool) : ∀ (m : Nat) (ls : List Bool) (ks : List Int) (s : RS), (Ok (kidsP K chain m ls ks s).2 → Ok s) ∧ (kidsP K chain m ls ks s).2.ds = s.ds ∧ (∀ t ∈ (kidsP K chain m ls ks s).2.ts, t ∈ s.ts) ∧ ∀ U P, Nm s → Ok (kidsP K chain m ls ks s).2 → ks.length ≤ 64 → ks = natI P → ls.length = (if chain = true then ks.length else 0) → Hold s.ns (U ++ P) → ∃ P', (kidsP K chain m ls ks s).1.2 = natI P' ∧ Hold (kidsP K chain m ls ks s).2.ns (U ++ P') ∧ (kidsP K chain m ls ks s).1.2.length ≤ 64 ∧ (0 < m ∨ 0 < ks.length → 0 < (kidsP K chain m ls ks s).1.2.length) ∧ (kidsP K chain m ls ks s).1.1.length = (if chain = true then (kidsP K chain m ls ks s).1.2.length else 0)
 | 0, ls, ks, s => ⟨id, rfl, fun _ h => h, fun U P _ _ hl hp hls hh => ⟨P, hp, hh, hl, fun h => by rcases h with h | h; exact absurd h (Nat.lt_irrefl 0); exact h, hls⟩⟩
 | m + 1, ls, ks, s => by
  have h0 := flat_room ks.length s
  have hb : Flat (roomP ks.length s) (if chain = true then (ls ++ [(tookP 1 s_last (roomP ks.length s)).1], (tookP 1 s_last (roomP ks.length s)).2) else (ls, roomP ks.length s)).2 := by
   split
   ·exact flat_took _ _ _
   ·exact .refl _
  have hbl : (if chain = true then (ls ++ [(tookP 1 s_last (roomP ks.length s)).1], (tookP 1 s_last (roomP ks.length s)).2) else (ls, roomP ks.length s)).1.length = if chain = true then ls.length + 1 else ls.length := by
   split <;> simp
  have h1 := h0.trans hb
  have h3 : Ok (if chain = true then (ls ++ [(tookP 1 s_last (roomP ks.length s)).1], (tookP 1 s_last (roomP ks.length s)).2) else (ls, roomP ks.length s)).2 → ks.length ≠ 64 := fun h => room_ok (hb.ok h)
  unfold kidsP
  simp only
  generalize (if chain = true then (ls ++ [(tookP 1 s_last (roomP ks.length s)).1], (tookP 1 s_last (roomP ks.length s)).2) else (ls, roomP ks.length s)) = b at *
  have k1 := hK.ok b.2
  have k2 := hK.ds b.2
  have k3 := hK.sub b.2
  have k4 := hK.hold b.2
  generalize K b.2 = c at *
  have h5 := flat_took 4 [124] c.2
  generalize tookP 4 [124] c.2 = d at *
  have hln : (ks ++ [c.1]).length = ks.length + 1 := by rw [List.length_append, List.length_singleton]
  have key : ∀ U P, Nm s → Ok d.2 → ks.length ≤ 64 → ks = natI P → ls.length = (if chain = true then ks.length else 0) → Hold s.ns (U ++ P) → ∃ q : Nat, c.1 = (q : Int) ∧ Hold d.2.ns (U ++ (P ++ [q])) ∧ (ks ++ [c.1]).length ≤ 64 ∧ ks ++ [c.1] = natI (P ++ [q]) ∧ b.1.length = (if chain = true then (ks ++ [c.1]).length else 0) := by
   intro U P hn ho hl hp hls hh
   have hc := h5.ok ho
   have h64 := h3 (k1 hc)
   obtain ⟨q, e, hq⟩ := k4 (U ++ P) (hn.sub h1.sub) hc (by rw [h1.ns]; exact hh)
   refine ⟨q, e, by rw [h5.ns, ← List.append_assoc]; exact hq, by rw [hln]; omega, by rw [natI_snoc, ← hp, e], ?_⟩
   rw [hbl, hln, hls]
   split <;> rfl
  split
  ·obtain ⟨i1, i2, is_, i3⟩ := kids_hold hK chain m b.1 (ks ++ [c.1]) d.2
   refine ⟨fun h => h1.ok (k1 (h5.ok (i1 h))), i2.trans (h5.ds.trans (k2.trans h1.ds)), fun t ht => h1.sub t (k3 t (h5.sub t (is_ t ht))), fun U P hn ho hl hp hls hh => ?_⟩
   obtain ⟨q, e, q1, q2, q3, q4⟩ := key U P hn (i1 ho) hl hp hls hh
   obtain ⟨P', p1, p2, p3, p4, p5⟩ := i3 U (P ++ [q]) (((hn.sub h1.sub).sub k3).sub h5.sub) ho q2 q3 q4 q1
   exact ⟨P', p1, p2, p3, fun _ => p4 (.inr (by rw [hln]; omega)), p5⟩
  ·refine ⟨fun h => h1.ok (k1 (h5.ok h)), h5.ds.trans (k2.trans h1.ds), fun t ht => h1.sub t (k3 t (h5.sub t ht)), fun U P hn ho hl hp hls hh => ?_⟩
   obtain ⟨q, e, q1, q2, q3, q4⟩ := key U P hn ho hl hp hls hh
   exact ⟨P ++ [q], q3, q1, q2, fun _ => by rw [hln]; omega, q4⟩
theorem may_among {chain : Bool} {ls : List Bool} {ks : List Int} (h1 : 0 < ks.length) (h2 : ks.length ≤ 64) (h3 : ls.length = if chain = true then ks.length else 0) : MayT { ntZ with k := if chain = true then 11 else 10, ls := ls, ks := ks } := by
 intro x hx k1 k2 k3 k4
 have e2 : ¬ 64 < max (max ks.length ntZ.fs.length) ntZ.cs.length := by simp [ntZ]; omega
 have hkd : kidB (if chain = true then 11 else 10) ks.length ls.length = true := by
  unfold kidB
  cases chain <;> simp [h1, h3]
 unfold ckV foB
 rw [hx, k1, k2, k3, k4]
 dsimp only
 rw [hkd, if_neg e2]
 cases chain <;> first
  | rfl
  | (show _ = (0 : Nat); kernel_rfl)
theorem np_among {K : RS → Int × RS} (hK : Kp K) (chain : Bool) (s : RS) : Np s (amongP K chain s).1 (amongP K chain s).2 := by
 have h1 := flat_sign [123] s
 unfold amongP
 simp only
 generalize signP [123] s = a at *
 obtain ⟨i1, i2, is_, i3⟩ := kids_hold hK chain a.ts.length [] [] a
 have hz : a.ts.length = 0 → (kidsP K chain a.ts.length [] [] a).2 = a := fun e => by rw [e]; rfl
 generalize kidsP K chain a.ts.length [] [] a = E at *
 have h5 := flat_sign [125] E.2
 refine ⟨fun h => h1.ok (i1 (h5.ok h)), h5.ds.trans (i2.trans h1.ds), fun t ht => h1.sub t (is_ t (h5.sub t ht)), fun U hn ho hh => ?_⟩
 obtain ⟨P', p1, p2, p3, p4, p5⟩ := i3 U [] (hn.sub h1.sub) (h5.ok ho) (Nat.zero_le _) rfl (by split <;> rfl) (by rw [List.append_nil, h1.ns]; exact hh)
 have hpos : 0 < a.ts.length := by
  rcases Nat.eq_zero_or_pos a.ts.length with e | e
  ·have := sign_ne ho
   rw [hz e] at this
   omega
  ·exact e
 refine ⟨P', ?_, by show Hold (signP [125] _).ns _; rw [h5.ns]; exact p2, may_among (p4 (.inl hpos)) p3 p5⟩
 show E.1.2 ++ [] ++ [] ++ (if (if chain = true then (11 : Int) else 10) = 9 ∧ 0 ≤ (0 : Int) then [(0 : Int)] else []) = _
 rw [if_neg (by cases chain <;> decide), p1]
 simp
end Go.Proofs.YtfcccfplmdjndaaGreat

/- parse: ranges and expressions without a fault. -/
namespace Go.Proofs.YtfcccfplmdjndaaGreat
set_option linter.unusedSimpArgs false
set_option linter.unusedVariables false

theorem reckB_ok {m : Nat} {s : RS} (hn : Nm s) (hm : m ≠ 0) (h : Ok (reckB m s).2) : (reckB m s).1.1 ≠ [] ∧ (reckB m s).1.2.1 ≠ 0 := by
 have h2 := flat_took 4 [43] (nameP s).2
 have hne := name_ne (s := s) hn
 unfold reckB at h ⊢
 simp only at h ⊢
 split at h
 ·rename_i h1
  rw [if_pos h1]
  exact ⟨hne (h2.ok ((flat_num _ _ _).ok h)), hm⟩
 ·rename_i h1
  rw [if_neg h1]
  exact ⟨hne (h2.ok h), hm⟩
theorem reck_ok {s : RS} (hn : Nm s) (h : Ok (reckP s).2) : (reckP s).1.1 ≠ [] ↔ (reckP s).1.2.1 ≠ 0 := by
 have hf := (flat_num 0 uMax s).trans (flat_took 4 [42] (numP 0 uMax s).2)
 unfold reckP at h ⊢
 split at h
 ·rename_i h1
  rw [if_pos h1]
  simp only at h ⊢
  split at h
  ·rename_i h2
   rw [if_pos h2]
   split at h
   ·exact absurd ((flat_reckB _ _).ok h) (not_owe (by decide) _)
   ·rename_i h3
    rw [if_neg h3]
    have k := reckB_ok (hn.sub hf.sub) h3 h
    exact ⟨fun _ => k.2, fun _ => k.1⟩
  ·rename_i h2
   rw [if_neg h2]
   exact ⟨fun h => absurd rfl h, fun h => absurd rfl h⟩
 ·rename_i h1
  rw [if_neg h1]
  have k := reckB_ok hn (by decide) h
  exact ⟨fun _ => k.2, fun _ => k.1⟩
theorem often_ok {s : RS} (hn : Nm s) (h : Ok (oftenP s).2) : (oftenP s).1.1 ≠ [] ↔ (oftenP s).1.2.1 ≠ 0 :=
 reck_ok (hn.sub (flat_sign [91] s).sub) ((flat_sign [93] _).ok h)
theorem ranged_ok {n : NT} {s : RS} (hn : n.mn = 0) (h : Ok (rangedP n s).2) : ∃ a b, (rangedP n s).1 = { n with mn := a, mx := b } ∧ a ≤ b ∧ b ≤ mostV n.k n.wd := by
 unfold rangedP at h ⊢
 split at h
 ·rename_i h1
  rw [if_pos h1]
  simp only at h ⊢
  have k := num_ok h
  exact ⟨_, _, rfl, k.1, k.2⟩
 ·rename_i h1
  rw [if_neg h1]
  refine ⟨0, _, ?_, Nat.zero_le _, Nat.le_refl _⟩
  rw [← hn]
theorem wd_ex {k : Int} (hk : k = 4 ∨ k = 6 ∨ k = 8) (e : EX) (h : e.1 ≠ [] ↔ e.2.1 ≠ 0) : wdB k (strB []) (strB e.1) e.2.1 e.2.2 = true := by
 unfold wdB strB
 rw [ByteArray.toList_eq, ByteArray.toList_eq]
 by_cases h0 : e.2.1 = 0
 ·have : e.1 = [] := by
   rcases Decidable.em (e.1 = []) with h1 | h1
   ·exact h1
   ·exact absurd h0 (h.1 h1)
  rcases hk with rfl | rfl | rfl <;> simp [h0, this]
 ·have := h.2 h0
  rcases hk with rfl | rfl | rfl <;> simp [h0, this]
theorem fixD_fits {d : List UInt8} {l o : Bool} {wd : Nat} {li : Bool} (h : fixD d l o = some (wd, li)) : 2 ≤ wd ∧ wd ≤ 8 := by
 unfold fixD at h
 split at h
 ·rename_i h1
  injection h with h
  injection h with h h'
  omega
 ·cases h
theorem fix_fits {x : List UInt8} {wd : Nat} {li : Bool} (h : fixP x = some (wd, li)) : 1 ≤ wd ∧ wd ≤ 8 ∧ ¬ (wd = 1 ∧ li = true) := by
 unfold fixP at h
 split at h
 ·injection h with h
  injection h with h h'
  subst h h'
  decide
 ·split at h
  ·have := fixD_fits h
   omega
  ·have := fixD_fits h
   omega
theorem may_fixed {wd : Nat} {li : Bool} {a b : Nat} (h1 : 1 ≤ wd ∧ wd ≤ 8 ∧ ¬ (wd = 1 ∧ li = true)) (h2 : a ≤ b) (h3 : b ≤ mostV 1 (wd : Int)) : MayT { ntZ with k := 1, wd := (wd : Int), li := li, mn := a, mx := b } := by
 intro x hx k1 k2 k3 k4
 have hw : wrB 1 (wd : Int) li false false = true := by
  unfold wrB
  have : ¬ ((wd : Int) = 1 ∧ li = true) := fun h => h1.2.2 ⟨by omega, h.2⟩
  rcases li with _ | _
  ·simp
  ·have : ¬ (wd : Int) = 1 := fun e => this ⟨e, rfl⟩
   simp [this]
 have e0 : ¬ (((1 : Int) = 1) ∧ ¬ (1 ≤ (wd : Int) ∧ (wd : Int) ≤ 8)) := fun h => h.2 (by omega)
 have e1 : ¬ (((1 : Int) = 1 ∨ (1 : Int) = 2) ∧ (b < a ∨ mostV 1 (wd : Int) < b)) := fun h => by rcases h.2 with h | h <;> omega
 unfold ckV foB
 rw [hx, k1, k2, k3, k4]
 dsimp only
 rw [if_neg e0, show wrB 1 (wd : Int) li ntZ.zg ntZ.le = true from hw, if_neg e1]
 first
  | rfl
  | (show _ = (0 : Nat); kernel_rfl)
theorem may_varint {zg le : Bool} {a b : Nat} (h2 : a ≤ b) (h3 : b ≤ mostV 2 0) : MayT { ntZ with k := 2, zg := zg, le := le, mn := a, mx := b } := by
 intro x hx k1 k2 k3 k4
 have e1 : ¬ (((2 : Int) = 1 ∨ (2 : Int) = 2) ∧ (b < a ∨ mostV 2 ntZ.wd < b)) := fun h => by
  rcases h.2 with h | h
  ·omega
  ·have : mostV 2 ntZ.wd = mostV 2 0 := rfl
   omega
 have hw : wrB 2 ntZ.wd ntZ.li zg le = true := by cases zg <;> cases le <;> rfl
 unfold ckV foB
 rw [hx, k1, k2, k3, k4]
 dsimp only
 rw [hw, if_neg e1]
 first
  | rfl
  | (show _ = (0 : Nat); kernel_rfl)
theorem may_text {k : Int} (hk : k = 3 ∨ k = 13) {t : ByteArray} (ht : t.toList ≠ []) : MayT { ntZ with k := k, tx := t } := by
 intro x hx k1 k2 k3 k4
 have hw : wdB k t ntZ.er ntZ.mu ntZ.ad = true := by
  unfold wdB
  have : t.toList.isEmpty = false := by
   cases h : t.toList with
   | nil => exact absurd h ht
   | cons a b => rfl
  rw [this]
  rcases hk with rfl | rfl <;> (show _ = true; kernel_rfl)
 unfold ckV foB
 rw [hx, k1, k2, k3, k4]
 dsimp only
 rw [hw]
 rcases hk with rfl | rfl <;> first
  | rfl
  | (show _ = (0 : Nat); kernel_rfl)
theorem may_blob (e : EX) (h : e.1 ≠ [] ↔ e.2.1 ≠ 0) : MayT (withE { ntZ with k := 4 } e) := by
 intro x hx k1 k2 k3 k4
 have hw := wd_ex (.inl rfl) e h
 unfold ckV foB
 rw [hx, k1, k2, k3, k4]
 unfold withE
 dsimp only
 rw [show wdB 4 ntZ.tx (strB e.1) e.2.1 e.2.2 = true from hw]
 first
  | rfl
  | (show _ = (0 : Nat); kernel_rfl)
theorem may_empty : MayT { ntZ with k := 12 } := by
 intro x hx k1 k2 k3 k4
 unfold ckV foB
 rw [hx, k1, k2, k3, k4]
 first
  | rfl
  | (show _ = (0 : Nat); kernel_rfl)
end Go.Proofs.YtfcccfplmdjndaaGreat

/- parse: what the parser builds, from a name on. -/
namespace Go.Proofs.YtfcccfplmdjndaaGreat
set_option linter.unusedSimpArgs false
set_option linter.unusedVariables false

theorem parts_nil {t : NT} (h1 : t.ks = []) (h2 : t.fs = []) (h3 : t.cs = []) (h4 : t.k ≠ 9) : t.parts = [] := by
 unfold NT.parts
 rw [h1, h2, h3, if_neg (fun h => h4 h.1)]
 rfl
theorem Np.leafN {s s' : RS} {n : NT} (h : Flat s s') (hp : Ok s' → n.parts = []) (hm : Nm s → Ok s' → MayT n) : Np s n s' :=
 ⟨h.ok, h.ds, h.sub, fun U hn ho hh => ⟨[], hp ho, by rw [h.ns, List.append_nil]; exact hh, hm hn ho⟩⟩
theorem np_aroundN {K : RS → Int × RS} (hK : Kp K) {k : Int} (hk : k = 6 ∨ k = 8) (s : RS) : Np s (aroundP K (withE { ntZ with k := k } (oftenP s).1) (oftenP s).2).1 (aroundP K (withE { ntZ with k := k } (oftenP s).1) (oftenP s).2).2 := by
 have hf := flat_often s
 refine ⟨fun h => hf.ok (hK.ok _ h), (hK.ds _).trans hf.ds, fun t ht => hf.sub t (hK.sub _ t ht), fun U hn ho hh => ?_⟩
 have hq := np_around hK (n := withE { ntZ with k := k } (oftenP s).1) (by rcases hk with rfl | rfl; exact .inl rfl; exact .inr (.inr rfl)) ⟨rfl, rfl, rfl, rfl, rfl, rfl⟩ ⟨rfl, rfl, rfl, rfl, rfl, rfl⟩ (oftenP s).2 (fun h => wd_ex (by rcases hk with rfl | rfl; exact .inr (.inl rfl); exact .inr (.inr rfl)) _ (often_ok hn h))
 exact hq.hold U (hn.sub hf.sub) ho (by rw [hf.ns]; exact hh)
theorem np_named {K : RS → Int × RS} (hK : Kp K) {x : List UInt8} (s0 s : RS) (hfl : Flat s0 s) (hx : Nm s0 → x ≠ []) : Np s0 (namedP K x s).1 (namedP K x s).2 := by
 unfold namedP
 cases hfx : fixP x with
 | some v =>
  obtain ⟨wd, li⟩ := v
  simp only
  refine Np.leafN (hfl.trans (flat_ranged _ s)) (fun h => ?_) (fun hn h => ?_)
  ·obtain ⟨a, b, e, _, _⟩ := ranged_ok rfl h
   rw [e]
   exact parts_nil rfl rfl rfl (by show (1 : Int) ≠ 9; decide)
  ·obtain ⟨a, b, e, h1, h2⟩ := ranged_ok rfl h
   rw [e]
   exact may_fixed (fix_fits hfx) h1 h2
 | none =>
  simp only
  split
  ·refine Np.flat (hfl.trans (flat_took 1 s_lenient s)) (Np.leafN (flat_ranged _ _) (fun h => ?_) (fun hn h => ?_))
   ·obtain ⟨a, b, e, _, _⟩ := ranged_ok rfl h
    rw [e]
    exact parts_nil rfl rfl rfl (by show (2 : Int) ≠ 9; decide)
   ·obtain ⟨a, b, e, h1, h2⟩ := ranged_ok rfl h
    rw [e]
    exact may_varint h1 h2
  ·split
   ·exact Np.flat hfl (Np.leafN (flat_often s) (fun _ => parts_nil rfl rfl rfl (by show (4 : Int) ≠ 9; decide)) (fun hn h => may_blob _ (often_ok hn h)))
   ·split
    ·exact Np.flat hfl (np_aroundN hK (.inl rfl) s)
    ·split
     ·exact Np.flat hfl (np_aroundN hK (.inr rfl) s)
     ·split
      ·exact Np.flat hfl (np_around hK (n := { ntZ with k := 7 }) (.inr (.inl rfl)) ⟨rfl, rfl, rfl, rfl, rfl, rfl⟩ ⟨rfl, rfl, rfl, rfl, rfl, rfl⟩ s (fun _ => by show wdB 7 (strB []) (strB []) 0 0 = true; kernel_rfl))
      ·split
       ·exact Np.flat hfl (np_choose hK s)
       ·split
        ·exact Np.flat hfl (np_among hK false s)
        ·split
         ·exact Np.flat hfl (np_among hK true s)
         ·split
          ·exact Np.leafN hfl (fun _ => parts_nil rfl rfl rfl (by show (12 : Int) ≠ 9; decide)) (fun _ _ => may_empty)
          ·exact Np.leafN hfl (fun _ => parts_nil rfl rfl rfl (by show (13 : Int) ≠ 9; decide)) (fun hn _ => may_text (.inr rfl) (by unfold strB; rw [ByteArray.toList_eq]; simpa using hx hn))
theorem np_node {K : RS → Int × RS} (hK : Kp K) (s : RS) : Np s (nodeP K s).1 (nodeP K s).2 := by
 unfold nodeP
 split
 ·rename_i h
  exact Np.leafN (flat_pass s) (fun _ => parts_nil rfl rfl rfl (by show (3 : Int) ≠ 9; decide)) (fun _ _ => may_text (.inl rfl) (by unfold strB; rw [ByteArray.toList_eq]; simpa using h.2))
 ·split
  ·rename_i h
   exact np_named hK s _ (flat_pass s) (fun hn => hn _ (nxt_mem h.1 (by decide)) h.1)
  ·split
   ·exact Np.flat (flat_pass s) (np_record hK _)
   ·exact Np.leafN (flat_fail (by decide) s) (fun h => absurd h (not_fail (by decide) s)) (fun _ h => absurd h (not_fail (by decide) s))
theorem kp_kindG {K : RS → Int × RS} (hK : Kp K) (deep : Nat) : Kp (kindG K deep) := by
 have hn := fun s => np_node hK (if 24 < deep then oweP 6 s else s)
 have hf : ∀ s, Flat s (if 24 < deep then oweP 6 s else s) := fun s => by
  split
  ·exact flat_owe (by decide) s
  ·exact .refl s
 have hq := fun s => Np.flat (hf s) (hn s)
 refine ⟨fun s h => ?_, fun s => ?_, fun s t ht => ?_, fun s U hm h hh => ?_⟩
 ·have q := hq s
  unfold kindG at h
  simp only at h
  generalize nodeP K (if 24 < deep then oweP 6 s else s) = a at *
  split at h
  ·exact absurd h (not_owe (by decide) _)
  ·exact q.ok h
 ·have q := hq s
  unfold kindG
  simp only
  generalize nodeP K (if 24 < deep then oweP 6 s else s) = a at *
  split
  ·exact q.ds
  ·exact q.ds
 ·have q := hq s
  unfold kindG at ht
  simp only at ht
  generalize nodeP K (if 24 < deep then oweP 6 s else s) = a at *
  split at ht
  ·exact q.sub t ht
  ·exact q.sub t ht
 ·have q := hq s
  unfold kindG at h ⊢
  simp only at h ⊢
  generalize nodeP K (if 24 < deep then oweP 6 s else s) = a at *
  split at h
  ·exact absurd h (not_owe (by decide) _)
  ·rename_i h1
   rw [if_neg h1]
   obtain ⟨P, p1, p2, p3⟩ := q.hold U hm h hh
   exact ⟨_, rfl, p2.snoc p3 p1⟩
end Go.Proofs.YtfcccfplmdjndaaGreat

/- parse: what the parser builds, name by name: a list of tokens without a fault is a specification that may be. -/
namespace Go.Proofs.YtfcccfplmdjndaaGreat
set_option linter.unusedSimpArgs false
set_option linter.unusedVariables false

theorem kp_kindP : ∀ (n deep : Nat), Kp (kindP n deep)
 | 0, deep => ⟨fun s h => absurd h (not_fail (by decide) s), fun _ => rfl, fun s t ht => List.mem_of_mem_drop ht, fun s U _ h _ => absurd h (not_fail (by decide) s)⟩
 | n + 1, deep => kp_kindG (kp_kindP n (deep + 1)) deep
def NmOk (d : DT) : Prop := ∃ l : List UInt8, d.nm = strB l ∧ wordP l = false ∧ l ≠ [] ∧ l.length ≤ 65536
def NL (s : RS) : Prop := Nm s ∧ ∀ t ∈ s.ts, t.2.length ≤ 65536
theorem NL.sub {s s' : RS} (h : NL s) (k : ∀ t ∈ s'.ts, t ∈ s.ts) : NL s' := ⟨h.1.sub k, fun t ht => h.2 t (k t ht)⟩
theorem name_good {s : RS} (hn : NL s) (h : Ok (nameP s).2) : wordP (nameP s).1 = false ∧ (nameP s).1 ≠ [] ∧ (nameP s).1.length ≤ 65536 := by
 refine ⟨?_, name_ne hn.1 h, ?_⟩
 rotate_left
 ·unfold nameP at h ⊢
  split at h
  ·exact absurd h (not_fail (by decide) s)
  ·rename_i h1
   rw [if_neg h1]
   have hk : (nxt s).1 = 1 := by
    by_cases e : (nxt s).1 = 1
    ·exact e
    ·exact absurd (.inl e) h1
   exact hn.2 _ (nxt_mem hk (by decide))
 unfold nameP at h ⊢
 split at h
 ·exact absurd h (not_fail (by decide) s)
 ·rename_i h1
  rw [if_neg h1]
  cases hw : wordP (nxt s).2 with
  | false => rfl
  | true => exact absurd (.inr hw) h1
structure Dq (s s' : RS) : Prop where
 ok : Ok s' → Ok s
 sub : ∀ t ∈ s'.ts, t ∈ s.ts
 hold : NL s → Ok s' → Hold s.ns (s.ds.map fun d => d.ty.toNat) → (∀ d ∈ s.ds, 0 ≤ d.ty ∧ NmOk d) → Hold s'.ns (s'.ds.map fun d => d.ty.toNat) ∧ (∀ d ∈ s'.ds, 0 ≤ d.ty ∧ NmOk d) ∧ s.ds.length ≤ s'.ds.length
theorem Dq.refl (s : RS) : Dq s s := ⟨id, fun _ h => h, fun _ _ h k => ⟨h, k, Nat.le_refl _⟩⟩
theorem Dq.flat {a b : RS} (h : Flat a b) : Dq a b := ⟨h.ok, h.sub, fun _ _ k1 k2 => by rw [h.ns, h.ds]; exact ⟨k1, k2, Nat.le_refl _⟩⟩
theorem Dq.trans {a b c : RS} (h : Dq a b) (k : Dq b c) : Dq a c :=
 ⟨fun x => h.ok (k.ok x), fun t ht => h.sub t (k.sub t ht), fun hn ho h1 h2 => by
  obtain ⟨p1, p2, p3⟩ := h.hold hn (k.ok ho) h1 h2
  obtain ⟨q1, q2, q3⟩ := k.hold (hn.sub h.sub) ho p1 p2
  exact ⟨q1, q2, Nat.le_trans p3 q3⟩⟩
theorem def_hold (n : Nat) (s : RS) : Dq s (defP n s) ∧ (NL s → Ok (defP n s) → (defP n s).ds.length = s.ds.length + 1) := by
 have h1 := (flat_name s).trans (flat_sign [61] _)
 have hg := name_good (s := s)
 have h1n := (flat_name s).ok
 have h1k := flat_sign [61] (nameP s).2
 have hk := kp_kindP n 0
 unfold defP nameA
 simp only
 generalize nameP s = a at *
 generalize signP [61] a.2 = b at *
 have h2 := flat_sign [59] (kindP n 0 b).2
 have k1 := hk.ok b
 have k2 := hk.ds b
 have k3 := hk.sub b
 have k4 := hk.hold b
 generalize kindP n 0 b = c at *
 generalize signP [59] c.2 = d at *
 have hdd : d.ds = s.ds := h2.ds.trans (k2.trans h1.ds)
 split
 ·refine ⟨⟨fun h => absurd h (not_owe (by decide) _), fun t ht => h1.sub t (k3 t (h2.sub t ht)), fun _ h => absurd h (not_owe (by decide) _)⟩, fun _ h => absurd h (not_owe (by decide) _)⟩
 ·rename_i h64
  refine ⟨⟨fun h => h1.ok (k1 (h2.ok h)), fun t ht => h1.sub t (k3 t (h2.sub t ht)), fun hn ho hh hds => ?_⟩, fun hn ho => ?_⟩
  ·have hc := h2.ok ho
   have hb := k1 hc
   have ha := h1k.ok hb
   obtain ⟨g1, g2, g3⟩ := hg hn ha
   obtain ⟨r, e, hr⟩ := k4 _ (hn.1.sub h1.sub) hc (by rw [h1.ns]; exact hh)
   refine ⟨?_, fun x hx => ?_, ?_⟩
   ·show Hold d.ns ((d.ds ++ [(⟨strB a.1, c.1⟩ : DT)]).map fun d => d.ty.toNat)
    rw [h2.ns, List.map_append, hdd]
    show Hold c.2.ns (_ ++ [c.1.toNat])
    rw [e]
    exact hr
   ·rcases List.mem_append.1 hx with hx | hx
    ·rw [hdd] at hx; exact hds x hx
    ·have : x = ⟨strB a.1, c.1⟩ := by simpa using hx
     subst this
     exact ⟨by show 0 ≤ c.1; omega, a.1, rfl, g1, g2, g3⟩
   ·show s.ds.length ≤ (d.ds ++ [(⟨strB a.1, c.1⟩ : DT)]).length
    rw [hdd, List.length_append]
    omega
  ·show (d.ds ++ [(⟨strB a.1, c.1⟩ : DT)]).length = _
   rw [hdd, List.length_append, List.length_singleton]
theorem names_hold (n : Nat) : ∀ (m : Nat) (s : RS), Dq s (namesP n m s) ∧ (0 < m → NL s → Ok (namesP n m s) → s.ds.length < (namesP n m s).ds.length)
 | 0, s => ⟨.refl s, fun h => absurd h (Nat.lt_irrefl 0)⟩
 | m + 1, s => by
  obtain ⟨h1, h2⟩ := def_hold n s
  unfold namesP
  simp only
  generalize defP n s = a at *
  split
  ·have h3 := flat_pass a
   refine ⟨h1.trans (.flat h3), fun _ hn ho => ?_⟩
   have := h2 hn (h3.ok ho)
   rw [h3.ds]
   omega
  ·obtain ⟨h3, h4⟩ := names_hold n m a
   refine ⟨h1.trans h3, fun _ hn ho => ?_⟩
   have e := h2 hn (h3.ok ho)
   rcases Nat.eq_zero_or_pos m with e0 | e0
   ·subst e0
    have : (namesP n 0 a).ds = a.ds := rfl
    rw [this]
    omega
   ·have := h4 e0 (hn.sub h1.sub) ho
    omega
theorem map_natI {ds : List DT} (h : ∀ d ∈ ds, 0 ≤ d.ty) : ds.map DT.ty = natI (ds.map fun d => d.ty.toNat) := by
 unfold natI
 rw [List.map_map]
 refine List.map_congr_left fun d hd => ?_
 have := h d hd
 show d.ty = ((d.ty.toNat : Nat) : Int)
 omega
theorem parseL_hold {ts : List TX} (hn0 : ∀ t ∈ ts, t.1 = 1 → t.2 ≠ []) (hl : ∀ t ∈ ts, t.2.length ≤ 65536) (h0 : ts ≠ []) (h : Ok (parseL ts)) : (∃ U, Hold (parseL ts).ns U ∧ (parseL ts).ds.map DT.ty = natI U) ∧ (∀ d ∈ (parseL ts).ds, NmOk d) ∧ 0 < (parseL ts).ds.length := by
 obtain ⟨k, k2⟩ := names_hold ts.length ts.length (startS ts)
 have hn : NL (startS ts) := ⟨hn0, hl⟩
 obtain ⟨p1, p2, p3⟩ := k.hold hn h .nil (fun d hd => (by cases hd))
 exact ⟨⟨_, p1, map_natI fun d hd => (p2 d hd).1⟩, fun d hd => (p2 d hd).2, k2 (List.length_pos_iff.2 h0) hn h⟩
end Go.Proofs.YtfcccfplmdjndaaGreat
