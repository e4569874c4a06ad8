/- tree: what Parse does, as a function of the text. -/
import Derived.Test.YtdhipmdapodpkaaTrB
import Derived.Test.YtdhipmdapodpkaaDMath
import Derived.Laws.Externs
namespace Go.Proofs.Ytdhipmdapodpkaa
set_option linter.unusedSimpArgs false
set_option linter.unusedVariables false

/-- The byte at a place; 0 behind the end. -/
def nx (l : List UInt8) (i : Nat) : Nat := (l.getD i 0).toNat
def rxHex : ByteArray := ⟨#[48, 49, 50, 51, 52, 53, 54, 55, 56, 57, 97, 98, 99, 100, 101, 102]⟩
def hexI (c : Nat) : Int := firstIdx rxHex c.toUInt8
def digC (c : Nat) : Bool := decide (48 ≤ c) && decide (c ≤ 57)
def digEnd (l : List UInt8) : Nat → Nat → Nat
  | 0, i => i
  | k + 1, i => if digC (nx l i) = true then digEnd l k (i + 1) else i
/-- The digits from a place on. -/
def digs (l : List UInt8) (i : Nat) : List UInt8 := (l.drop i).take (digEnd l (l.length + 1) i - i)
def wrtB (d : List UInt8) : Bool := !d.isEmpty && (decide (d.length = 1) || decide (d.getD 0 0 ≠ 48))
def pNumT (l : List UInt8) (i : Nat) : Except Nat (Nat × Nat) :=
  if wrtB (digs l i) = false then .error 5 else if valL (digs l i) < 18446744073709551616 then .ok (valL (digs l i), digEnd l (l.length + 1) i) else .error 40
def pDatL (l : List UInt8) : Nat → List UInt8 → Nat → Except Nat (List UInt8 × Nat)
  | 0, _, _ => .error 0
  | k + 1, acc, i => if acc.isEmpty = true ∨ hexI (nx l i) ≠ -1 then
      (if hexI (nx l i) = -1 then .error 5 else if hexI (nx l (i + 1)) = -1 then .error 5
        else pDatL l k (acc ++ [((16 * hexI (nx l i) + hexI (nx l (i + 1))).toNat).toUInt8]) (i + 2))
    else .ok (acc, i)
def pDat (l : List UInt8) (i : Nat) : Except Nat (List UInt8 × Nat) := pDatL l (l.length + 1) [] i
def pPartL (l : List UInt8) (E : Nat → Except Nat (TT × Nat)) : Nat → List TT → Nat → Except Nat (List TT × Nat)
  | 0, _, _ => .error 0
  | k + 1, acc, i => match E i with
    | .error e => .error e
    | .ok (t, j) => if nx l j = 41 then .ok (acc ++ [t], j + 1) else if nx l j = 44 then pPartL l E k (acc ++ [t]) (j + 1) else .error 5
def okH (l : List UInt8) (i : Nat) : Bool := decide (nx l i = 95) || digC (nx l i)
def pDatO (l : List UInt8) (i : Nat) : Except Nat (List UInt8 × Nat) := if nx l i = 58 then pDat l (i + 1) else .ok ([], i)
def pPartO (l : List UInt8) (E : Nat → Except Nat (TT × Nat)) (i : Nat) : Except Nat (List TT × Nat) := if nx l i = 40 then pPartL l E (l.length + 1) [] (i + 1) else .ok ([], i)
def pTree (l : List UInt8) : Nat → Nat → Except Nat (TT × Nat)
  | 0, i => if okH l i = true then .error 6 else .error 5
  | d + 1, i => if okH l i = false then .error 5 else
      match pNumT l (if nx l i = 95 then i + 1 else i) with
      | .error e => .error e
      | .ok (n, i2) => match pDatO l i2 with
        | .error e => .error e
        | .ok (ds, i3) => match pPartO l (pTree l d) i3 with
          | .error e => .error e
          | .ok (ks, i4) => .ok (.nd n (decide (nx l i = 95)) ds ks, i4)
def pParse (l : List UInt8) : Except Nat TT := if 1048576 < l.length then .error 2 else match pTree l 400 0 with
  | .error e => .error e
  | .ok (t, i) => if i < l.length then .error 5 else .ok t

/-! What is read lies behind where it began, and within the text. -/
theorem nx_lt {l : List UInt8} {i : Nat} (h : nx l i ≠ 0) : i < l.length := by
  unfold nx at h
  rcases Nat.lt_or_ge i l.length with h1 | h1
  · exact h1
  · rw [List.getD_eq_getElem?_getD, List.getElem?_eq_none h1] at h
    exact absurd rfl h
theorem nx_byte (l : List UInt8) (i : Nat) : nx l i < 256 := UInt8.toNat_lt _
theorem nx_at {l : List UInt8} {i : Nat} (h : i < l.length) : nx l i = l[i].toNat := by
  unfold nx
  rw [List.getD_eq_getElem?_getD, List.getElem?_eq_getElem h]
  rfl
theorem nx_end {l : List UInt8} {i : Nat} (h : l.length ≤ i) : nx l i = 0 := by
  unfold nx
  rw [List.getD_eq_getElem?_getD, List.getElem?_eq_none h]
  rfl
theorem digC_iff (c : Nat) : digC c = true ↔ 48 ≤ c ∧ c ≤ 57 := by unfold digC; simp
theorem hexI_zero : hexI 0 = -1 := by decide +kernel
theorem hexI_fin : ∀ c : Fin 256, -1 ≤ hexI c.val ∧ hexI c.val < 16 := by decide +kernel
theorem hexI_rng (l : List UInt8) (i : Nat) : -1 ≤ hexI (nx l i) ∧ hexI (nx l i) < 16 := hexI_fin ⟨nx l i, nx_byte l i⟩
theorem hexI_lt {l : List UInt8} {i : Nat} (h : hexI (nx l i) ≠ -1) : i < l.length := nx_lt fun e => h (by rw [e]; exact hexI_zero)
theorem digEnd_le {l : List UInt8} : ∀ (k i : Nat), i ≤ digEnd l k i ∧ (i ≤ l.length → digEnd l k i ≤ l.length) := by
  intro k
  induction k with
  | zero => intro i; exact ⟨Nat.le_refl _, id⟩
  | succ k ih =>
    intro i
    unfold digEnd
    split
    · rename_i h
      rw [digC_iff] at h
      have h1 := nx_lt (l := l) (i := i) (by omega)
      have h2 := ih (i + 1)
      exact ⟨by omega, fun _ => h2.2 h1⟩
    · exact ⟨Nat.le_refl _, id⟩
theorem digs_dig {l : List UInt8} : ∀ (k i j : Nat), i ≤ j → j < digEnd l k i → digC (nx l j) = true := by
  intro k
  induction k with
  | zero => intro i j h1 h2; simp only [digEnd] at h2; omega
  | succ k ih =>
    intro i j h1 h2
    simp only [digEnd] at h2
    split at h2
    · rename_i h
      by_cases e : j = i
      · subst e; exact h
      · exact ih (i + 1) j (by omega) h2
    · omega
theorem digEnd_stop {l : List UInt8} : ∀ (k i : Nat), l.length < k + i → digC (nx l (digEnd l k i)) = false := by
  intro k
  induction k with
  | zero =>
    intro i h
    simp only [digEnd]
    rw [nx_end (by omega)]
    rfl
  | succ k ih =>
    intro i h
    simp only [digEnd]
    split
    · exact ih (i + 1) (by omega)
    · rename_i h2
      simpa using h2
theorem digs_len {l : List UInt8} {i : Nat} (hi : i ≤ l.length) : (digs l i).length = digEnd l (l.length + 1) i - i := by
  have := (digEnd_le (l := l) (l.length + 1) i).2 hi
  unfold digs
  rw [List.length_take, List.length_drop]
  omega
theorem digs_all {l : List UInt8} {i : Nat} : ∀ c ∈ digs l i, isDig c := by
  intro c hc
  obtain ⟨j, hj, rfl⟩ := List.getElem_of_mem hc
  unfold digs at hj ⊢
  rw [List.length_take, List.length_drop] at hj
  rw [List.getElem_take, List.getElem_drop]
  have h1 := digs_dig (l := l) (l.length + 1) i (i + j) (by omega) (by omega)
  rw [nx_at (by omega), digC_iff] at h1
  exact h1
theorem wrtB_iff (d : List UInt8) (h : ∀ c ∈ d, isDig c) : wrtB d = true ↔ Wrt d := by
  unfold wrtB Wrt
  cases d with
  | nil => simp
  | cons c d =>
    constructor
    · intro hh
      simp only [Bool.and_eq_true, Bool.or_eq_true, decide_eq_true_eq] at hh
      exact ⟨h, by simp, hh.2⟩
    · intro hh
      simp only [Bool.and_eq_true, Bool.or_eq_true, decide_eq_true_eq]
      exact ⟨by simp, hh.2.2⟩
theorem pNumT_lt {l : List UInt8} {i n j : Nat} (h : pNumT l i = .ok (n, j)) : i < j ∧ j ≤ l.length ∧ n < 18446744073709551616 ∧ Wrt (digs l i) ∧ valL (digs l i) = n ∧ j = digEnd l (l.length + 1) i := by
  unfold pNumT at h
  split at h
  · cases h
  · rename_i hw
    split at h
    · rename_i hv
      simp only [Except.ok.injEq, Prod.mk.injEq] at h
      have hw : wrtB (digs l i) = true := by simpa using hw
      have hW := (wrtB_iff _ digs_all).1 hw
      have hil : i < l.length := by
        rcases Nat.lt_or_ge i l.length with h2 | h2
        · exact h2
        · exact absurd (by unfold digs; rw [List.drop_eq_nil_of_le h2]; simp) hW.2.1
      have h1 := digEnd_le (l := l) (l.length + 1) i
      have hlt : i < digEnd l (l.length + 1) i := by
        rcases Nat.lt_or_ge i (digEnd l (l.length + 1) i) with h2 | h2
        · exact h2
        · exact absurd (by unfold digs; rw [show digEnd l (l.length + 1) i - i = 0 by omega]; rfl) hW.2.1
      exact ⟨by omega, by rw [← h.2]; exact h1.2 (by omega), by omega, hW, h.1, h.2.symm⟩
    · cases h
theorem pNumT_er {l : List UInt8} {i e : Nat} (h : pNumT l i = .error e) : e = 5 ∨ e = 40 := by
  unfold pNumT at h
  split at h
  · simp only [Except.error.injEq] at h; omega
  · split at h
    · cases h
    · simp only [Except.error.injEq] at h; omega
theorem pDatL_lt {l : List UInt8} : ∀ {k : Nat} {acc : List UInt8} {i : Nat} {ds : List UInt8} {j : Nat}, pDatL l k acc i = .ok (ds, j) → ds.isEmpty = false ∧ i + 2 * ds.length = j + 2 * acc.length ∧ (i ≤ l.length → j ≤ l.length) ∧ acc.length ≤ ds.length := by
  intro k
  induction k with
  | zero => intro acc i ds j h; cases h
  | succ k ih =>
    intro acc i ds j h
    unfold pDatL at h
    split at h
    · split at h
      · cases h
      · split at h
        · cases h
        · rename_i h1 h2
          have h3 := hexI_lt h2
          have h4 := ih h
          rw [List.length_append] at h4
          simp only [List.length_cons, List.length_nil] at h4
          exact ⟨h4.1, by omega, fun _ => h4.2.2.1 (by omega), by omega⟩
    · rename_i h1
      simp only [Except.ok.injEq, Prod.mk.injEq] at h
      obtain ⟨rfl, rfl⟩ := h
      refine ⟨?_, rfl, id, Nat.le_refl _⟩
      cases acc with
      | nil => exact absurd (.inl rfl) h1
      | cons _ _ => rfl
theorem pDatL_er {l : List UInt8} : ∀ {k : Nat} {acc : List UInt8} {i e : Nat}, l.length < k + i → 0 < k → pDatL l k acc i = .error e → e = 5 := by
  intro k
  induction k with
  | zero => intro acc i e _ h0; omega
  | succ k ih =>
    intro acc i e hl _ h
    unfold pDatL at h
    split at h
    · split at h
      · simp only [Except.error.injEq] at h; omega
      · split at h
        · simp only [Except.error.injEq] at h; omega
        · rename_i h1 h2
          have h3 := hexI_lt h2
          exact ih (by omega) (by omega) h
    · cases h
theorem pDatO_lt {l : List UInt8} {i : Nat} {ds : List UInt8} {j : Nat} (h : pDatO l i = .ok (ds, j)) (hi : i ≤ l.length) : i + ds.length ≤ j ∧ j ≤ l.length := by
  unfold pDatO at h
  split at h
  · rename_i hc
    have h1 := nx_lt (l := l) (i := i) (by omega)
    have h2 := pDatL_lt h
    simp only [List.length_nil] at h2
    exact ⟨by omega, h2.2.2.1 (by omega)⟩
  · simp only [Except.ok.injEq, Prod.mk.injEq] at h
    obtain ⟨rfl, rfl⟩ := h
    exact ⟨by simp, hi⟩
theorem pDatO_er {l : List UInt8} {i e : Nat} (h : pDatO l i = .error e) : e = 5 := by
  unfold pDatO at h
  split at h
  · exact pDatL_er (by omega) (by omega) h
  · cases h
theorem pPartL_lt {l : List UInt8} {E : Nat → Except Nat (TT × Nat)} (hE : ∀ i t j, E i = .ok (t, j) → i + wT t ≤ j ∧ j ≤ l.length) : ∀ {k : Nat} {acc : List TT} {i : Nat} {ks : List TT} {j : Nat}, pPartL l E k acc i = .ok (ks, j) → i + wL ks ≤ j + wL acc ∧ i < j ∧ j ≤ l.length := by
  intro k
  induction k with
  | zero => intro acc i ks j h; cases h
  | succ k ih =>
    intro acc i ks j h
    unfold pPartL at h
    split at h
    · cases h
    · rename_i t j' he
      have h1 := hE _ _ _ he
      have h2 := wT_pos t
      split at h
      · rename_i hc
        have h3 := nx_lt (l := l) (i := j') (by omega)
        simp only [Except.ok.injEq, Prod.mk.injEq] at h
        obtain ⟨rfl, rfl⟩ := h
        rw [wL_app]
        simp only [wL]
        omega
      · split at h
        · have h4 := ih h
          rw [wL_app] at h4
          simp only [wL] at h4
          omega
        · cases h
theorem pTree_lt {l : List UInt8} : ∀ (d : Nat) {i : Nat} {t : TT} {j : Nat}, pTree l d i = .ok (t, j) → i + wT t ≤ j ∧ j ≤ l.length := by
  intro d
  induction d with
  | zero =>
    intro i t j h
    unfold pTree at h
    split at h <;> cases h
  | succ d ih =>
    intro i t j h
    unfold pTree at h
    split at h
    · cases h
    · split at h
      · cases h
      · rename_i n i2 hn
        have h1 := pNumT_lt hn
        split at h
        · cases h
        · rename_i ds i3 hd
          have h2 := pDatO_lt hd h1.2.1
          split at h
          · cases h
          · rename_i ks i4 hk
            simp only [Except.ok.injEq, Prod.mk.injEq] at h
            obtain ⟨rfl, rfl⟩ := h
            have h3 : i3 + wL ks ≤ i4 ∧ i4 ≤ l.length := by
              unfold pPartO at hk
              split at hk
              · have := pPartL_lt (fun i t j h => ih h) hk
                simp only [wL] at this
                omega
              · simp only [Except.ok.injEq, Prod.mk.injEq] at hk
                obtain ⟨rfl, rfl⟩ := hk
                simp only [wL]
                omega
            have h0 : i ≤ (if nx l i = 95 then i + 1 else i) := by split <;> omega
            rw [wT]
            omega
theorem pPartL_er {l : List UInt8} {E : Nat → Except Nat (TT × Nat)} (hE : ∀ i t j, E i = .ok (t, j) → i + wT t ≤ j ∧ j ≤ l.length) (hE2 : ∀ i e, E i = .error e → e = 5 ∨ e = 6 ∨ e = 40) : ∀ {k : Nat} {acc : List TT} {i e : Nat}, l.length < k + i → 0 < k → pPartL l E k acc i = .error e → e = 5 ∨ e = 6 ∨ e = 40 := by
  intro k
  induction k with
  | zero => intro acc i e _ h0; omega
  | succ k ih =>
    intro acc i e hl _ h
    unfold pPartL at h
    split at h
    · rename_i e' he
      simp only [Except.error.injEq] at h
      subst h
      exact hE2 _ _ he
    · rename_i t j' he
      have h1 := hE _ _ _ he
      have h2 := wT_pos t
      split at h
      · cases h
      · split at h
        · rename_i hc
          have h3 := nx_lt (l := l) (i := j') (by omega)
          exact ih (by omega) (by omega) h
        · simp only [Except.error.injEq] at h; omega
theorem pTree_er {l : List UInt8} : ∀ (d : Nat) {i e : Nat}, pTree l d i = .error e → e = 5 ∨ e = 6 ∨ e = 40 := by
  intro d
  induction d with
  | zero =>
    intro i e h
    unfold pTree at h
    split at h <;> (simp only [Except.error.injEq] at h; omega)
  | succ d ih =>
    intro i e h
    unfold pTree at h
    split at h
    · simp only [Except.error.injEq] at h; omega
    · split at h
      · rename_i e' he
        simp only [Except.error.injEq] at h
        have := pNumT_er he
        omega
      · split at h
        · rename_i e' he
          simp only [Except.error.injEq] at h
          have := pDatO_er he
          omega
        · split at h
          · rename_i e' he
            simp only [Except.error.injEq] at h
            subst h
            unfold pPartO at he
            split at he
            · exact pPartL_er (fun i t j h => pTree_lt d h) (fun i e h => ih h) (by omega) (by omega) he
            · cases he
          · cases h
end Go.Proofs.Ytdhipmdapodpkaa
