/- tree: a tree's text, as a function of it. -/
import Derived.Test.YtdhipmdapodpkaaTrP
namespace Go.Proofs.Ytdhipmdapodpkaa
set_option linter.unusedSimpArgs false
set_option linter.unusedVariables false
open Go.RowKit

/-- How many digits a number has. -/
def lenN (n : Nat) : Nat := if h : n < 10 then 1 else lenN (n / 10) + 1
theorem lenN_isLen : ∀ n, IsLen n (lenN n) := by
  intro n
  induction n using Nat.strongRecOn with
  | _ n ih =>
    unfold lenN
    split
    · rename_i h
      exact ⟨Nat.le_refl _, by omega, .inl rfl⟩
    · rename_i h
      obtain ⟨h1, h2, h3⟩ := ih (n / 10) (by omega)
      refine ⟨by omega, ?_, .inr ?_⟩
      · rw [Nat.pow_succ]; omega
      · rw [Nat.add_sub_cancel]
        rcases h3 with h3 | h3
        · rw [h3]; omega
        · have : 10 ^ (lenN (n / 10) - 1) * 10 ≤ n := by omega
          rwa [← Nat.pow_succ, Nat.succ_eq_add_one, Nat.sub_add_cancel h1] at this
def decL (n : Nat) : List UInt8 := lastD n (lenN n)
theorem decL_len {n : Nat} (h : n < 18446744073709551616) : (decL n).length ≤ 20 := by
  unfold decL
  rw [lastD_len]
  obtain ⟨h1, h2, h3⟩ := lenN_isLen n
  rcases h3 with h3 | h3
  · omega
  · rcases Nat.lt_or_ge 20 (lenN n) with h4 | h4
    · have : 10 ^ 20 ≤ 10 ^ (lenN n - 1) := Nat.pow_le_pow_right (by decide) (by omega)
      have h20 : (10 : Nat) ^ 20 = 100000000000000000000 := by decide
      omega
    · exact h4
def hexD (k : Nat) : UInt8 := if k < 10 then (48 + k).toUInt8 else (87 + k).toUInt8
def hexL (d : List UInt8) : List UInt8 := d.flatMap (fun c => [hexD (c.toNat / 16), hexD (c.toNat % 16)])
def hexS (d : List UInt8) : List UInt8 := if d.isEmpty = true then [] else 58 :: hexL d
theorem hexS_snoc (d : List UInt8) (c : UInt8) : hexS (d ++ [c]) = hexS d ++ ((if d.isEmpty = true then [58] else []) ++ [hexD (c.toNat / 16), hexD (c.toNat % 16)]) := by
  unfold hexS hexL
  cases d with
  | nil => simp
  | cons a d => simp
theorem hexS_len (d : List UInt8) : (hexS d).length ≤ 1 + 2 * d.length := by
  unfold hexS
  split
  · simp
  · have : ∀ d : List UInt8, (hexL d).length = 2 * d.length := by
      intro d
      induction d with
      | nil => rfl
      | cons c d ih => unfold hexL at *; rw [List.flatMap_cons, List.length_append, ih]; simp only [List.length_cons, List.length_nil]; omega
    rw [List.length_cons, this]
    omega
mutual
/-- A tree's text. -/
def textT : TT → List UInt8
  | .nd n b d ks => (if b = true then [95] else []) ++ (decL n ++ (hexS d ++ (if ks.isEmpty = true then [] else textS 40 ks ++ [41])))
def textS : UInt8 → List TT → List UInt8
  | _, [] => []
  | sg, t :: ts => sg :: (textT t ++ textS 44 ts)
end
theorem textS_snoc (t : TT) : ∀ (ks : List TT) (sg : UInt8), textS sg (ks ++ [t]) = textS sg ks ++ ((if ks.isEmpty = true then sg else 44) :: textT t)
  | [], sg => by simp [textS]
  | x :: ks, sg => by
    rw [List.cons_append, textS, textS, textS_snoc t ks 44]
    simp
theorem textS_take {ks : List TT} {q : Nat} (h : q < ks.length) : textS 40 (ks.take (q + 1)) = textS 40 (ks.take q) ++ ((if q = 0 then 40 else 44) :: textT ks[q]) := by
  rw [List.take_add_one, List.getElem?_eq_getElem h, Option.toList_some, textS_snoc]
  congr 2
  cases ks with
  | nil => simp at h
  | cons a ks =>
    cases q with
    | zero => rfl
    | succ q => simp
theorem textS_len (ks : List TT) (q : Nat) : (textS 40 (ks.take q)).length ≤ (textS 40 ks).length := by
  have key : ∀ (xs ys : List TT) (sg : UInt8), (textS sg xs).length ≤ (textS sg (xs ++ ys)).length := by
    intro xs
    induction xs with
    | nil => intro ys sg; simp [textS]
    | cons x xs ih =>
      intro ys sg
      rw [List.cons_append, textS, textS]
      simp only [List.length_cons, List.length_append]
      have := ih ys 44
      omega
  have := key (ks.take q) (ks.drop q) 40
  rwa [List.take_append_drop] at this
theorem text_len {w : World} {P : Nat → Prop} : ∀ (t : TT) (v : TV), Rep w P v t → (textT t).length + 1 ≤ 25 * wT t := by
  refine TT.ind fun n b d ks ih v h => ?_
  obtain ⟨_, _, hn, _, _, _, vs, hl, _, hr⟩ := h.inv
  have key : ∀ (ks : List TT) (sg : UInt8), (∀ t ∈ ks, (textT t).length + 1 ≤ 25 * wT t) → (textS sg ks).length ≤ 25 * wL ks := by
    intro ks
    induction ks with
    | nil => intro sg _; simp [textS]
    | cons t ks ihk =>
      intro sg h
      have h1 := h t List.mem_cons_self
      have h2 := ihk 44 (fun t ht => h t (List.mem_cons_of_mem _ ht))
      rw [textS, wL]
      simp only [List.length_cons, List.length_append]
      omega
  have h1 := key ks 40 (fun t ht => by
    obtain ⟨j, hj, rfl⟩ := List.getElem_of_mem ht
    exact ih _ ht (vs[j]'(by omega)) (hr j (by omega) hj))
  have h2 := decL_len hn
  have h3 := hexS_len d
  rw [textT, wT]
  simp only [List.length_append]
  have h4 : (if b = true then [95] else ([] : List UInt8)).length ≤ 1 := by split <;> simp
  have h5 : (if ks.isEmpty = true then ([] : List UInt8) else textS 40 ks ++ [41]).length ≤ 25 * wL ks + 1 := by
    split
    · simp
    · simp only [List.length_append, List.length_cons, List.length_nil]; omega
  omega
end Go.Proofs.Ytdhipmdapodpkaa
