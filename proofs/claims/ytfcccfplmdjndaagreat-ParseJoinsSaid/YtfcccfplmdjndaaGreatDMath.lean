/- lex: the tokens of a text, as functions of its bytes: plain mathematics. -/
import Derived.WalkKit
import Derived.Test.YtfcccfplmdjndaaGreatTrA
namespace Go.Proofs.YtfcccfplmdjndaaGreat

def letN (c : Nat) : Bool := (decide (97 ≤ c) && decide (c ≤ 122)) || (decide (65 ≤ c) && decide (c ≤ 90)) || decide (c = 95)
def digN (c : Nat) : Bool := decide (48 ≤ c) && decide (c ≤ 57)
def namB (c : UInt8) : Bool := letN c.toNat || digN c.toNat
def digB (c : UInt8) : Bool := digN c.toNat
def patB (c : UInt8) : Bool := decide (32 ≤ c.toNat) && decide (c.toNat ≤ 126) && !decide (c.toNat = 47)
def nlB (c : UInt8) : Bool := !decide (c.toNat = 10)
def sgL : List UInt8 := [61, 59, 123, 125, 91, 93, 40, 41, 58, 124, 42, 43, 37]
def sgB (c : UInt8) : Bool := sgL.contains c
def span (p : UInt8 → Bool) : List UInt8 → Nat
 | [] => 0
 | c :: t => if p c = true then span p t + 1 else 0
theorem span_le (p : UInt8 → Bool) : ∀ l, span p l ≤ l.length
 | [] => Nat.le_refl _
 | c :: t => by
  unfold span
  have := span_le p t
  split <;> simp only [List.length_cons] <;> omega
def gap : Bool → List UInt8 → Nat
 | _, [] => 0
 | n, c :: t => if c.toNat = 10 then gap false t + 1 else if n = true ∨ c.toNat = 32 ∨ c.toNat = 9 ∨ c.toNat = 13 then gap n t + 1 else if c.toNat = 35 then gap true t + 1 else 0
theorem gap_le : ∀ (b : Bool) l, gap b l ≤ l.length
 | _, [] => Nat.le_refl _
 | b, c :: t => by
  unfold gap
  have h1 := gap_le false t
  have h2 := gap_le b t
  have h3 := gap_le true t
  split
  ·simp only [List.length_cons]; omega
  ·split
   ·simp only [List.length_cons]; omega
   ·split <;> simp only [List.length_cons] <;> omega
theorem gap_cons (b : Bool) (c : UInt8) (t : List UInt8) : gap b (c :: t) = if c.toNat = 10 then gap false t + 1 else if b = true ∨ c.toNat = 32 ∨ c.toNat = 9 ∨ c.toNat = 13 then gap b t + 1 else if c.toNat = 35 then gap true t + 1 else 0 := rfl
theorem span_cons (p : UInt8 → Bool) (c : UInt8) (t : List UInt8) : span p (c :: t) = if p c = true then span p t + 1 else 0 := rfl
theorem gap_note : ∀ l, gap true l = span nlB l + gap false (l.drop (span nlB l))
 | [] => rfl
 | c :: t => by
  rw [gap_cons, span_cons]
  by_cases h : c.toNat = 10
  ·have hn : nlB c = false := by unfold nlB; simp [h]
   rw [if_pos h, hn, if_neg (by simp)]
   rw [List.drop_zero, gap_cons, if_pos h]
   omega
  ·have hn : nlB c = true := by unfold nlB; simp [h]
   rw [if_neg h, if_pos (.inl rfl), if_pos hn, gap_note t, List.drop_succ_cons]
   omega
def front : List UInt8 → Except Nat (Nat × List UInt8 × Nat)
 | [] => .error 100
 | c :: t =>
  if letN c.toNat = true then (if 24 < span namB (c :: t) then .error 2 else .ok (1, (c :: t).take (span namB (c :: t)), span namB (c :: t)))
  else if digN c.toNat = true then (if 20 < span digB (c :: t) then .error 2 else if 1 < span digB (c :: t) ∧ c.toNat = 48 then .error 5 else .ok (2, (c :: t).take (span digB (c :: t)), span digB (c :: t)))
  else if c.toNat = 47 then (if (t.drop (span patB t)).head? = some 47 then .ok (3, t.take (span patB t), span patB t + 2) else .error 5)
  else if c.toNat = 46 ∧ t.head? = some 46 then .ok (4, [46, 46], 2)
  else if sgB c = true then .ok (4, [c], 1) else .error 100
theorem front_cons (c : UInt8) (t : List UInt8) : front (c :: t) = if letN c.toNat = true then (if 24 < span namB (c :: t) then .error 2 else .ok (1, (c :: t).take (span namB (c :: t)), span namB (c :: t)))
  else if digN c.toNat = true then (if 20 < span digB (c :: t) then .error 2 else if 1 < span digB (c :: t) ∧ c.toNat = 48 then .error 5 else .ok (2, (c :: t).take (span digB (c :: t)), span digB (c :: t)))
  else if c.toNat = 47 then (if (t.drop (span patB t)).head? = some 47 then .ok (3, t.take (span patB t), span patB t + 2) else .error 5)
  else if c.toNat = 46 ∧ t.head? = some 46 then .ok (4, [46, 46], 2)
  else if sgB c = true then .ok (4, [c], 1) else .error 100 := rfl
theorem span_pos {p : UInt8 → Bool} {c : UInt8} {t : List UInt8} (h : p c = true) : 0 < span p (c :: t) := by
 unfold span; rw [if_pos h]; omega
theorem front_len {l : List UInt8} {k : Nat} {x : List UInt8} {n : Nat} (h : front l = .ok (k, x, n)) : 0 < n ∧ n ≤ l.length ∧ 1 ≤ k ∧ k ≤ 4 := by
 cases l with
 | nil => cases h
 | cons c t =>
  rw [front_cons] at h
  split at h
  ·rename_i h1
   split at h
   ·cases h
   ·simp only [Except.ok.injEq, Prod.mk.injEq] at h
    have h2 := span_pos (p := namB) (c := c) (t := t) (by unfold namB; rw [h1]; rfl)
    have h3 := span_le namB (c :: t)
    omega
  ·split at h
   ·rename_i h1
    split at h
    ·cases h
    ·split at h
     ·cases h
     ·simp only [Except.ok.injEq, Prod.mk.injEq] at h
      have h2 := span_pos (p := digB) (c := c) (t := t) h1
      have h3 := span_le digB (c :: t)
      omega
   ·split at h
    ·split at h
     ·rename_i h1
      simp only [Except.ok.injEq, Prod.mk.injEq] at h
      have h2 : span patB t < t.length := by
       rcases Nat.lt_or_ge (span patB t) t.length with h2 | h2
       ·exact h2
       ·rw [List.drop_eq_nil_of_le h2] at h1; cases h1
      simp only [List.length_cons]
      omega
     ·cases h
    ·split at h
     ·rename_i h1
      simp only [Except.ok.injEq, Prod.mk.injEq] at h
      obtain ⟨_, h1⟩ := h1
      cases t with
      | nil => cases h1
      | cons d t => simp only [List.length_cons]; omega
     ·split at h
      ·simp only [Except.ok.injEq, Prod.mk.injEq] at h
       simp only [List.length_cons]
       omega
      ·cases h
structure Tk where
 k : Nat
 p : Nat
 x : List UInt8
def thenR (ts : List Tk) : Except (Nat × Nat) (List Tk) → Except (Nat × Nat) (List Tk)
 | .error e => .error e
 | .ok us => .ok (ts ++ us)
def scanF : Nat → List UInt8 → Nat → Nat → Except (Nat × Nat) (List Tk)
 | 0, _, _, _ => .error (0, 0)
 | m + 1, r, p, n =>
  if r.drop (gap false r) = [] then .ok [⟨5, p + gap false r, []⟩]
  else if n = 8192 then .error (2, p + gap false r)
  else match front (r.drop (gap false r)) with
   | .error e => .error (e, p + gap false r)
   | .ok (k, x, j) => thenR [⟨k, p + gap false r, x⟩] (scanF m ((r.drop (gap false r)).drop j) (p + gap false r + j) (n + 1))
def scanG (m : Nat) (r : List UInt8) (p n : Nat) : Except (Nat × Nat) (List Tk) :=
  if r = [] then .ok [⟨5, p, []⟩]
  else if n = 8192 then .error (2, p)
  else match front r with
   | .error e => .error (e, p)
   | .ok (k, x, j) => thenR [⟨k, p, x⟩] (scanF m (r.drop j) (p + j) (n + 1))
theorem scanF_succ (m : Nat) (r : List UInt8) (p n : Nat) : scanF (m + 1) r p n = scanG m (r.drop (gap false r)) (p + gap false r) n := rfl
theorem thenR_then (a b : List Tk) (r : Except (Nat × Nat) (List Tk)) : thenR a (thenR b r) = thenR (a ++ b) r := by
 cases r with
 | error e => rfl
 | ok us => simp [thenR]
theorem thenR_nil (r : Except (Nat × Nat) (List Tk)) : thenR [] r = r := by cases r <;> rfl
def scanT (l : List UInt8) : Except (Nat × Nat) (List Tk) := if 65536 < l.length then .error (2, 0) else scanF (l.length + 2) l 0 0
theorem scanG_end (m p n : Nat) : scanG m [] p n = .ok [⟨5, p, []⟩] := by unfold scanG; rw [if_pos rfl]
theorem scanG_full {r : List UInt8} (h : r ≠ []) (m p : Nat) : scanG m r p 8192 = .error (2, p) := by unfold scanG; rw [if_neg h, if_pos rfl]
theorem scanG_bad {r : List UInt8} (h : r ≠ []) {n : Nat} (hn : n ≠ 8192) {e : Nat} (hf : front r = .error e) (m p : Nat) : scanG m r p n = .error (e, p) := by unfold scanG; rw [if_neg h, if_neg hn, hf]
theorem scanG_ok {r : List UInt8} (h : r ≠ []) {n : Nat} (hn : n ≠ 8192) {k : Nat} {x : List UInt8} {j : Nat} (hf : front r = .ok (k, x, j)) (m p : Nat) : scanG m r p n = thenR [⟨k, p, x⟩] (scanF m (r.drop j) (p + j) (n + 1)) := by unfold scanG; rw [if_neg h, if_neg hn, hf]
theorem front_err {l : List UInt8} {c : Nat} (h : front l = .error c) : c = 2 ∨ c = 5 ∨ c = 100 := by
 cases l with
 | nil => injection h with h; omega
 | cons d t =>
  rw [front_cons] at h
  split at h
  ·split at h
   ·injection h with h; omega
   ·cases h
  ·split at h
   ·split at h
    ·injection h with h; omega
    ·split at h
     ·injection h with h; omega
     ·cases h
   ·split at h
    ·split at h
     ·cases h
     ·injection h with h; omega
    ·split at h
     ·cases h
     ·split at h
      ·cases h
      ·injection h with h; omega
theorem drop_eq {l : List UInt8} {i : Nat} (h : i < l.length) : l.drop i = l[i] :: l.drop (i + 1) := List.drop_eq_getElem_cons h
theorem span_at {p : UInt8 → Bool} {l : List UInt8} {i : Nat} (h : i < l.length) : span p (l.drop i) = if p l[i] = true then span p (l.drop (i + 1)) + 1 else 0 := by
 rw [drop_eq h]; rfl
theorem span_end {p : UInt8 → Bool} {l : List UInt8} {i : Nat} (h : l.length ≤ i) : span p (l.drop i) = 0 := by
 rw [List.drop_eq_nil_of_le h]; rfl
end Go.Proofs.YtfcccfplmdjndaaGreat

/- Decimal digits: plain arithmetic. -/
namespace Go.Proofs.YtfcccfplmdjndaaGreat

def isDig (c : UInt8) : Prop := 48 ≤ c.toNat ∧ c.toNat ≤ 57
def valL (l : List UInt8) : Nat := l.foldl (fun v c => 10 * v + (c.toNat - 48)) 0
def Wrt (l : List UInt8) : Prop := (∀ c ∈ l, isDig c) ∧ l ≠ [] ∧ (l.length = 1 ∨ l.getD 0 0 ≠ 48)
theorem foldl_val (l : List UInt8) (v : Nat) : l.foldl (fun v c => 10 * v + (c.toNat - 48)) v = v * 10 ^ l.length + valL l := by
 induction l generalizing v with
 | nil => simp [valL]
 | cons c l ih =>
  unfold valL
  simp only [List.foldl_cons, List.length_cons]
  rw [ih, ih (10 * 0 + (c.toNat - 48)), Nat.pow_succ]
  rw [Nat.add_mul, Nat.add_mul]
  have : 10 * v * 10 ^ l.length = v * (10 ^ l.length * 10) := by
   rw [Nat.mul_comm 10 v, Nat.mul_assoc, Nat.mul_comm 10]
  omega
theorem valL_snoc (l : List UInt8) (c : UInt8) : valL (l ++ [c]) = 10 * valL l + (c.toNat - 48) := by
 simp [valL]
theorem valL_take_le (l : List UInt8) (k : Nat) : valL (l.take k) ≤ valL l := by
 have h : valL l = valL (l.take k) * 10 ^ (l.drop k).length + valL (l.drop k) := by
  conv => lhs; rw [← List.take_append_drop k l]; unfold valL
  rw [List.foldl_append, foldl_val]
  rfl
 have hp : 0 < 10 ^ (l.drop k).length := Nat.pow_pos (by decide)
 have := Nat.le_mul_of_pos_right (valL (l.take k)) hp
 omega
end Go.Proofs.YtfcccfplmdjndaaGreat
