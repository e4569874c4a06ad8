/- spec: what Check says of a specification that may be, as mathematics. -/
import Derived.Test.YthjfhenldkihkaaSpSa
import Derived.Test.YthjfhenldkihkaaSpMa
namespace Go.Proofs.Ythjfhenldkihkaa
set_option linter.unusedSimpArgs false
set_option linter.unusedVariables false
open Go.RowKit

/-- The parts of the type with a number. -/
def ptT (ts : List NT) (i : Nat) : List Int := (ts[i]?.map NT.parts).getD []
theorem ptT_at {ts : List NT} {i : Nat} (h : i < ts.length) : ptT ts i = ts[i].parts := by unfold ptT; rw [List.getElem?_eq_getElem h]; rfl
theorem ptT_all (ts : List NT) : (List.range ts.length).flatMap (ptT ts) = ts.flatMap NT.parts := by
  rw [List.flatMap_def, List.flatMap_def]
  congr 1
  apply List.ext_getElem
  · simp
  · intro i h1 h2
    have : i < ts.length := by simpa using h2
    simp [ptT_at this]
/-- Just the types of S are held. -/
def Marks (l : List Bool) (S : List Int) : Prop := ∀ i, i < l.length → l[i]? = some (decide ((i : Int) ∈ S))
theorem marks_set {l : List Bool} {S : List Int} (h : Marks l S) {p : Int} (hp : 0 ≤ p) : Marks (l.set p.toNat true) (S ++ [p]) := by
  intro i hi
  rw [List.length_set] at hi
  by_cases e : p.toNat = i
  · subst e
    rw [List.getElem?_set_self hi]
    simp; omega
  · rw [List.getElem?_set_ne e, h i hi]
    congr 1
    rw [Bool.eq_iff_iff]
    simp
    omega
theorem holdF_ok {l l1 : List Bool} {m : Nat} (hm : m ≤ l.length) {p : Int} (h : holdF (l.take m) p = .ok l1) : 0 ≤ p ∧ p.toNat < m ∧ l[p.toNat]? = some false := by
  unfold holdF at h
  split at h
  · cases h
  · rename_i h1
    rw [List.length_take, Nat.min_eq_left hm] at h1
    have hp : p.toNat < m := by omega
    split at h
    · cases h
    · rename_i h2
      refine ⟨by omega, hp, ?_⟩
      rw [List.getD_eq_getElem?_getD, List.getElem?_take_of_lt hp, List.getElem?_eq_getElem (by omega)] at h2
      rw [List.getElem?_eq_getElem (by omega)]
      simpa using h2
theorem hsF_ok {m : Nat} : ∀ (ps : List Int) (l l' : List Bool) (S : List Int), m ≤ l.length → Marks l S → S.Nodup → hsF m l ps = .ok l' → (∀ p ∈ ps, 0 ≤ p ∧ p.toNat < m) ∧ (S ++ ps).Nodup ∧ Marks l' (S ++ ps)
  | [], l, l', S, hm, hM, hn, h => by
    injection h with h
    subst h
    rw [List.append_nil]
    exact ⟨fun p hp => absurd hp (by simp), hn, hM⟩
  | p :: ps, l, l', S, hm, hM, hn, h => by
    rw [hsF_cons] at h
    cases hq : holdF (l.take m) p with
    | error c => rw [hq] at h; cases h
    | ok l1 =>
      rw [hq] at h
      obtain ⟨h1, h2, h3⟩ := holdF_ok hm hq
      rw [hM _ (by omega)] at h3
      have h4 : p ∉ S := by
        injection h3 with h3
        rw [decide_eq_false_iff_not, Int.toNat_of_nonneg h1] at h3
        exact h3
      have hn2 : (S ++ [p]).Nodup := by
        rw [List.nodup_append]
        refine ⟨hn, by simp, fun a ha b hb => ?_⟩
        rintro rfl
        rw [List.mem_singleton] at hb
        exact h4 (hb ▸ ha)
      have ih := hsF_ok ps (l.set p.toNat true) l' (S ++ [p]) (by rw [List.length_set]; exact hm) (marks_set hM h1) hn2 h
      rw [List.append_assoc, List.singleton_append] at ih
      refine ⟨fun q hq => ?_, ih.2.1, ih.2.2⟩
      rcases List.mem_cons.1 hq with rfl | hq
      · exact ⟨h1, h2⟩
      · exact ih.1 q hq
theorem ckN_ok : ∀ (vs : List NV) (j : Nat) (l l' : List Bool) (S : List Int), j + vs.length ≤ l.length → Marks l S → S.Nodup → ckN j l vs = .ok l' → l'.length = l.length ∧ (∀ i (h : i < vs.length), ckV vs[i] = 0 ∧ ∀ p ∈ vs[i].t.parts, 0 ≤ p ∧ p.toNat < j + i) ∧ (S ++ (vs.map NV.t).flatMap NT.parts).Nodup ∧ Marks l' (S ++ (vs.map NV.t).flatMap NT.parts)
  | [], j, l, l', S, hl, hM, hn, h => by
    injection h with h
    subst h
    refine ⟨rfl, fun i h => absurd h (by simp), ?_, ?_⟩ <;> simpa
  | v :: vs, j, l, l', S, hl, hM, hn, h => by
    rw [ckN_at] at h
    split at h
    · cases h
    · rename_i hc
      cases hq : hsF j l v.t.parts with
      | error c => rw [hq] at h; cases h
      | ok l1 =>
        rw [hq] at h
        rw [List.length_cons] at hl
        obtain ⟨h1, h2, h3⟩ := hsF_ok _ _ _ S (by omega) hM hn hq
        have h4 := hsF_len hq
        obtain ⟨i0, i1, i2, i3⟩ := ckN_ok vs (j + 1) l1 l' _ (by omega) h3 h2 h
        rw [List.append_assoc] at i2 i3
        refine ⟨by omega, fun i hi => ?_, by simpa using i2, by simpa using i3⟩
        cases i with
        | zero => exact ⟨by simpa using hc, h1⟩
        | succ i =>
          have := i1 i (by simpa using hi)
          exact ⟨this.1, fun p hp => by have := this.2 p hp; omega⟩
theorem ckN_nz : ∀ (vs : List NV) (j : Nat) (l : List Bool), ckN j l vs = .error 0 → False
  | [], j, l, h => by cases h
  | v :: vs, j, l, h => by
    rw [ckN_at] at h
    split at h
    · rename_i hc
      injection h with h
      exact hc h
    · cases hq : hsF j l v.t.parts with
      | error c =>
        rw [hq] at h
        injection h with h
        have := hsF_c hq
        omega
      | ok l1 => rw [hq] at h; exact ckN_nz vs (j + 1) l1 h
theorem ckS_zero {vs : List NV} {ds : List DT} (h : ckS vs ds = 0) : Val vs.length (ptT (vs.map NV.t)) (ds.map DT.ty) ∧ (∀ v ∈ vs, ckV v = 0) ∧ vs.length ≤ 2048 ∧ 0 < ds.length ∧ ds.length ≤ 64 := by
  unfold ckS at h
  split at h
  · cases h
  · rename_i hsz
    split at h
    · rename_i c hq
      subst h
      exfalso
      exact ckN_nz _ _ _ hq
    · rename_i l hq
      obtain ⟨i0, i1, i2, i3⟩ := ckN_ok vs 0 (List.replicate vs.length false) l [] (by simp) (fun i hi => by rw [List.length_replicate] at hi; rw [List.getElem?_replicate_of_lt hi]; simp) (by simp) hq
      rw [List.length_replicate] at i0
      rw [List.nil_append] at i2 i3
      split at h
      · rename_i c hq2
        have := hsF_c hq2
        omega
      · rename_i l' hq2
        obtain ⟨k1, k2, k3⟩ := hsF_ok _ _ _ _ (by omega) i3 i2 hq2
        have k4 := hsF_len hq2
        have hall : l'.any (fun b => !b) = false := by
          cases ha : l'.any (fun b => !b) with
          | false => rfl
          | true => rw [ha] at h; cases h
        have hpt : (List.range vs.length).flatMap (ptT (vs.map NV.t)) = (vs.map NV.t).flatMap NT.parts := by
          have := ptT_all (vs.map NV.t)
          rwa [List.length_map] at this
        refine ⟨⟨fun i hi p hp => ?_, by rw [hpt]; exact k2, fun p hp => k1 p hp, fun i hi => ?_⟩, fun v hv => ?_, by omega, by omega, by omega⟩
        · rw [ptT_at (by rw [List.length_map]; exact hi), List.getElem_map] at hp
          have := (i1 i hi).2 p hp
          omega
        · rw [hpt]
          have h1 := k3 i (by omega)
          rw [List.any_eq_false] at hall
          have h2 := hall l'[i] (List.getElem_mem (by omega))
          rw [List.getElem?_eq_getElem (by omega)] at h1
          injection h1 with h1
          rw [h1] at h2
          exact of_decide_eq_true (by simpa only [Bool.not_eq_true, Bool.not_eq_false'] using h2)
        · obtain ⟨i, hi, rfl⟩ := List.getElem_of_mem hv
          exact (i1 i hi).1
end Go.Proofs.Ythjfhenldkihkaa
