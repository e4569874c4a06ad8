/- nfa: the automaton of an expression, as a function. Plain mathematics. -/
import Derived.Test.YtoiegkejkahfgaaDoorRB
namespace Go.Proofs.YtoiegkejkahfgaaDoor
set_option linter.unusedVariables false
set_option linter.unusedSimpArgs false

/-- An edge. -/
structure Ed where
  to : Nat
  set : BS
  fr : Bool
abbrev EG := List (List Ed)
/-- One edge more. -/
def addE (E : EG) (f : Nat) (e : Ed) : EG := E.set f (E.getD f [] ++ [e])
def freeE (E : EG) (f t : Nat) : EG := addE E f ⟨t, 0#256, true⟩
/-- One state more. -/
def newE (E : EG) : EG := E ++ [[]]
theorem addE_len (E : EG) (f : Nat) (e : Ed) : (addE E f e).length = E.length := by simp [addE]
theorem freeE_len (E : EG) (f t : Nat) : (freeE E f t).length = E.length := addE_len _ _ _
theorem newE_len (E : EG) : (newE E).length = E.length + 1 := by simp [newE]
/-- How many edges. -/
def totE (E : EG) : Nat := (E.map List.length).sum
theorem tot_new (E : EG) : totE (newE E) = totE E := by simp [totE, newE]
theorem tot_add : ∀ (E : EG) (f : Nat) (e : Ed), totE (addE E f e) ≤ totE E + 1
  | [], f, e => by simp [totE, addE]
  | x :: E, 0, e => by simp [totE, addE]; omega
  | x :: E, f + 1, e => by
    have := tot_add E f e
    simp only [totE, addE, List.set_cons_succ, List.map_cons, List.sum_cons, List.getD_cons_succ] at this ⊢
    omega
theorem tot_free (E : EG) (f t : Nat) : totE (freeE E f t) ≤ totE E + 1 := tot_add _ _ _
theorem tot_row : ∀ (E : EG) (f : Nat), (E.getD f []).length ≤ totE E
  | [], f => by simp
  | x :: E, 0 => by simp [totE]
  | x :: E, f + 1 => by
    have := tot_row E f
    simp only [totE, List.map_cons, List.sum_cons, List.getD_cons_succ] at this ⊢
    omega
abbrev PF := EG → Nat → EG × Nat
def minR (P : PF) : Nat → EG → Nat → EG × Nat
  | 0, E, f => (E, f)
  | n + 1, E, f => if (P E f).2 = f then ((P E f).1, f) else minR P n (P E f).1 (P E f).2
def optR (P : PF) (en : Nat) : Nat → EG → Nat → EG × Nat
  | 0, E, f => (E, f)
  | n + 1, E, f => optR P en n (P (freeE (newE (freeE E f en)) f (freeE E f en).length) (freeE E f en).length).1 (P (freeE (newE (freeE E f en)) f (freeE E f en).length) (freeE E f en).length).2
def rptT (P : PF) (lo hi : Int) (E : EG) (f : Nat) : EG × Nat :=
  let a := minR P lo.toNat E f
  let en := a.1.length
  if hi < 0 then
    let lp := (newE a.1).length
    let b := P (freeE (newE (newE a.1)) a.2 lp) lp
    (freeE (freeE b.1 b.2 lp) lp en, en)
  else
    let b := optR P en (hi - lo).toNat (newE a.1) a.2
    (freeE b.1 b.2 en, en)
mutual
/-- An expression is put behind a state. -/
def putT : RT → EG → Nat → EG × Nat
  | .nd k s ks lo hi, E, f => if k = 2 then (addE (newE E) f ⟨E.length, s, false⟩, E.length) else if k = 3 then putC ks E f else if k = 4 then (putA ks (newE E) f E.length, E.length) else if k = 5 then rptT (putH ks) lo hi E f else (E, f)
def putC : List RT → EG → Nat → EG × Nat
  | [], E, f => (E, f)
  | t :: ts, E, f => putC ts (putT t E f).1 (putT t E f).2
def putA : List RT → EG → Nat → Nat → EG
  | [], E, _, _ => E
  | t :: ts, E, f, en => putA ts (freeE (putT t (freeE (newE E) f E.length) E.length).1 (putT t (freeE (newE E) f E.length) E.length).2 en) f en
def putH : List RT → EG → Nat → EG × Nat
  | [], E, f => (E, f)
  | t :: _, E, f => putT t E f
end
mutual
/-- How many states an expression adds. -/
def cnT : RT → Nat
  | .nd k _ ks lo hi => if k = 2 then 1 else if k = 3 then cnL ks else if k = 4 then 1 + ks.length + cnL ks else if k = 5 then (if hi < 0 then 2 + (lo.toNat + 1) * cnL ks else 1 + (hi - lo).toNat + hi.toNat * cnL ks) else 0
def cnL : List RT → Nat
  | [] => 0
  | t :: ts => cnT t + cnL ts
end
mutual
/-- The same as the program tells it, with a most. -/
def adT : RT → Nat
  | .nd k _ ks lo hi => min ((if k = 2 then 1 else if k = 4 then 1 + ks.length else if k = 5 then (if hi < 0 then 2 else 1 + (hi - lo).toNat) else 0) + adL (if k = 5 then (if hi < 0 then lo.toNat + 1 else hi.toNat) else 1) ks) 4096
def adL (o : Nat) : List RT → Nat
  | [] => 0
  | t :: ts => o * adT t + adL o ts
end
/-- What putting does to the length, and where it ends. -/
def PutOk (P : PF) (c : Nat) : Prop := ∀ E f, f < E.length → (P E f).1.length = E.length + c ∧ (c = 0 → P E f = (E, f)) ∧ (0 < c → E.length ≤ (P E f).2 ∧ (P E f).2 < E.length + c) ∧ totE (P E f).1 ≤ totE E + 2 * c
theorem PutOk.lt {P : PF} {c : Nat} (h : PutOk P c) {E : EG} {f : Nat} (hf : f < E.length) : (P E f).2 < E.length + c := by
  obtain ⟨_, h2, h3, _⟩ := h E f hf
  rcases Nat.eq_zero_or_pos c with hc | hc
  · rw [h2 hc, hc]; exact hf
  · exact (h3 hc).2
theorem PutOk.same {P : PF} {c : Nat} (h : PutOk P c) {E : EG} {f : Nat} (hf : f < E.length) : (P E f).2 = f ↔ c = 0 := by
  obtain ⟨_, h2, h3, _⟩ := h E f hf
  rcases Nat.eq_zero_or_pos c with hc | hc
  · rw [h2 hc]; exact ⟨fun _ => hc, fun _ => rfl⟩
  · have := h3 hc
    exact ⟨fun e => by omega, fun e => by omega⟩
theorem PutOk.zero : PutOk (fun E f => (E, f)) 0 := fun E f hf => ⟨rfl, fun _ => rfl, fun h => absurd h (by omega), Nat.le_refl _⟩
theorem PutOk.comp {P Q : PF} {c d : Nat} (h : PutOk P c) (k : PutOk Q d) : PutOk (fun E f => Q (P E f).1 (P E f).2) (c + d) := fun E f hf => by
  obtain ⟨h1, h2, h3, h4⟩ := h E f hf
  have hl := h.lt hf
  obtain ⟨k1, k2, k3, k4⟩ := k (P E f).1 (P E f).2 (by rw [h1]; exact hl)
  have kl := k.lt (E := (P E f).1) (f := (P E f).2) (by rw [h1]; exact hl)
  refine ⟨by show (Q (P E f).1 (P E f).2).1.length = _; rw [k1, h1]; omega, fun e => ?_, fun e => ?_, by show totE (Q (P E f).1 (P E f).2).1 ≤ _; omega⟩
  · show Q (P E f).1 (P E f).2 = _
    rw [k2 (by omega), h2 (by omega)]
  · show E.length ≤ (Q (P E f).1 (P E f).2).2 ∧ (Q (P E f).1 (P E f).2).2 < E.length + (c + d)
    rw [h1] at k3 kl
    rcases Nat.eq_zero_or_pos d with hd | hd
    · rw [k2 hd]
      have := h3 (by omega)
      show E.length ≤ (P E f).2 ∧ (P E f).2 < E.length + (c + d)
      omega
    · have := k3 hd
      omega
theorem minR_ok {P : PF} {c : Nat} (h : PutOk P c) : ∀ (n : Nat), PutOk (minR P n) (n * c)
  | 0 => fun E f hf => by rw [Nat.zero_mul]; exact PutOk.zero E f hf
  | n + 1 => fun E f hf => by
    unfold minR
    by_cases hc : c = 0
    · have h2 := (h E f hf).2.1 hc
      rw [if_pos ((h.same hf).2 hc), h2, hc, Nat.mul_zero]
      exact PutOk.zero E f hf
    · rw [if_neg (fun e => hc ((h.same hf).1 e)), Nat.succ_mul, Nat.add_comm (n * c) c]
      exact (h.comp (minR_ok h n)) E f hf
theorem optR_ok {P : PF} {c : Nat} (h : PutOk P c) (en : Nat) : ∀ (n : Nat) (E : EG) (f : Nat), f < E.length → (optR P en n E f).1.length = E.length + n * (1 + c) ∧ (optR P en n E f).2 < E.length + n * (1 + c) ∧ totE (optR P en n E f).1 ≤ totE E + 2 * (n * (1 + c))
  | 0, E, f, hf => ⟨by simp [optR], by simpa [optR] using hf, by simp [optR]⟩
  | n + 1, E, f, hf => by
    unfold optR
    have hl : (freeE (newE (freeE E f en)) f (freeE E f en).length).length = E.length + 1 := by rw [freeE_len, newE_len, freeE_len]
    have hb : (freeE E f en).length < (freeE (newE (freeE E f en)) f (freeE E f en).length).length := by rw [hl, freeE_len]; omega
    have h1 := (h _ _ hb).1
    have h2 := h.lt hb
    have h4 := (h _ _ hb).2.2.2
    have h5 := tot_free (newE (freeE E f en)) f (freeE E f en).length
    have h6 := tot_free E f en
    rw [tot_new] at h5
    rw [hl] at h1 h2
    obtain ⟨i1, i2, i3⟩ := optR_ok h en n _ _ (show (P (freeE (newE (freeE E f en)) f (freeE E f en).length) (freeE E f en).length).2 < (P (freeE (newE (freeE E f en)) f (freeE E f en).length) (freeE E f en).length).1.length by rw [h1]; exact h2)
    rw [h1] at i1 i2
    rw [Nat.succ_mul]
    exact ⟨by rw [i1]; omega, by omega, by omega⟩
theorem rptT_ok {P : PF} {c : Nat} (h : PutOk P c) (lo hi : Int) (h0 : 0 ≤ lo) (h1 : hi < 0 ∨ lo ≤ hi) : PutOk (rptT P lo hi) (if hi < 0 then 2 + (lo.toNat + 1) * c else 1 + (hi - lo).toNat + hi.toNat * c) := fun E f hf => by
  have hm := minR_ok h lo.toNat
  obtain ⟨m1, _, _, m4⟩ := hm E f hf
  have ml := hm.lt hf
  unfold rptT
  simp only
  by_cases hh : hi < 0
  · rw [if_pos hh, if_pos hh]
    have hl : (freeE (newE (newE (minR P lo.toNat E f).1)) (minR P lo.toNat E f).2 (newE (minR P lo.toNat E f).1).length).length = E.length + lo.toNat * c + 2 := by rw [freeE_len, newE_len, newE_len, m1]
    have hb : (newE (minR P lo.toNat E f).1).length < (freeE (newE (newE (minR P lo.toNat E f).1)) (minR P lo.toNat E f).2 (newE (minR P lo.toNat E f).1).length).length := by rw [hl, newE_len, m1]; omega
    have p1 := (h _ _ hb).1
    have p4 := (h _ _ hb).2.2.2
    have q1 := tot_free (newE (newE (minR P lo.toNat E f).1)) (minR P lo.toNat E f).2 (newE (minR P lo.toNat E f).1).length
    rw [tot_new, tot_new] at q1
    rw [hl] at p1
    refine ⟨?_, fun e => by omega, fun _ => ?_, ?_⟩
    rotate_left 2
    · have q2 := tot_free (P (freeE (newE (newE (minR P lo.toNat E f).1)) (minR P lo.toNat E f).2 (newE (minR P lo.toNat E f).1).length) (newE (minR P lo.toNat E f).1).length).1 (P (freeE (newE (newE (minR P lo.toNat E f).1)) (minR P lo.toNat E f).2 (newE (minR P lo.toNat E f).1).length) (newE (minR P lo.toNat E f).1).length).2 (newE (minR P lo.toNat E f).1).length
      have q3 := tot_free (freeE (P (freeE (newE (newE (minR P lo.toNat E f).1)) (minR P lo.toNat E f).2 (newE (minR P lo.toNat E f).1).length) (newE (minR P lo.toNat E f).1).length).1 (P (freeE (newE (newE (minR P lo.toNat E f).1)) (minR P lo.toNat E f).2 (newE (minR P lo.toNat E f).1).length) (newE (minR P lo.toNat E f).1).length).2 (newE (minR P lo.toNat E f).1).length) (newE (minR P lo.toNat E f).1).length (minR P lo.toNat E f).1.length
      have e9 : (lo.toNat + 1) * c = lo.toNat * c + c := Nat.succ_mul _ _
      show totE (freeE (freeE _ _ _) _ _) ≤ _
      omega
    · show (freeE (freeE _ _ _) _ _).length = _
      rw [freeE_len, freeE_len, p1, Nat.succ_mul]
      omega
    · show E.length ≤ (minR P lo.toNat E f).1.length ∧ (minR P lo.toNat E f).1.length < _
      rw [m1, Nat.succ_mul]
      omega
  · rw [if_neg hh, if_neg hh]
    have hl : (newE (minR P lo.toNat E f).1).length = E.length + lo.toNat * c + 1 := by rw [newE_len, m1]
    obtain ⟨o1, o2, o3⟩ := optR_ok h (minR P lo.toNat E f).1.length (hi - lo).toNat (newE (minR P lo.toNat E f).1) (minR P lo.toNat E f).2 (by rw [hl]; omega)
    rw [hl] at o1
    rw [tot_new] at o3
    have e2 : hi.toNat * c = lo.toNat * c + (hi - lo).toNat * c := by
      rw [← Nat.add_mul]
      congr 1
      omega
    have e3 : (hi - lo).toNat * (1 + c) = (hi - lo).toNat + (hi - lo).toNat * c := by rw [Nat.mul_add, Nat.mul_one]
    refine ⟨?_, fun e => by omega, fun _ => ?_, ?_⟩
    rotate_left 2
    · have q2 := tot_free (optR P (minR P lo.toNat E f).1.length (hi - lo).toNat (newE (minR P lo.toNat E f).1) (minR P lo.toNat E f).2).1 (optR P (minR P lo.toNat E f).1.length (hi - lo).toNat (newE (minR P lo.toNat E f).1) (minR P lo.toNat E f).2).2 (minR P lo.toNat E f).1.length
      show totE (freeE _ _ _) ≤ _
      omega
    · show (freeE _ _ _).length = _
      rw [freeE_len, o1]
      omega
    · show E.length ≤ (minR P lo.toNat E f).1.length ∧ (minR P lo.toNat E f).1.length < _
      rw [m1]
      omega
/-- What putting asks of an expression: how often is told, and a Repeat is of one. -/
def PutT (t : RT) : Prop := PutOk (putT t) (cnT t)
theorem putC_ok : ∀ (ks : List RT), (∀ t ∈ ks, PutT t) → PutOk (putC ks) (cnL ks)
  | [], _ => fun E f hf => by unfold putC cnL; exact PutOk.zero E f hf
  | t :: ts, h => fun E f hf => by
    unfold putC cnL
    exact ((h t (by simp)).comp (putC_ok ts (fun x hx => h x (List.mem_cons_of_mem _ hx)))) E f hf
theorem putA_len : ∀ (ks : List RT), (∀ t ∈ ks, PutT t) → ∀ (E : EG) (f en : Nat), f < E.length → (putA ks E f en).length = E.length + (ks.length + cnL ks)
  | [], _, E, f, en, hf => by unfold putA cnL; rfl
  | t :: ts, h, E, f, en, hf => by
    unfold putA cnL
    have hl : (freeE (newE E) f E.length).length = E.length + 1 := by rw [freeE_len, newE_len]
    have hb : E.length < (freeE (newE E) f E.length).length := by rw [hl]; omega
    have p1 := (h t (by simp) _ _ hb).1
    rw [hl] at p1
    rw [putA_len ts (fun x hx => h x (List.mem_cons_of_mem _ hx)) _ f en (by rw [freeE_len, p1]; omega), freeE_len, p1, List.length_cons]
    omega
theorem putA_tot : ∀ (ks : List RT), (∀ t ∈ ks, PutT t) → ∀ (E : EG) (f en : Nat), f < E.length → totE (putA ks E f en) ≤ totE E + 2 * (ks.length + cnL ks)
  | [], _, E, f, en, hf => by unfold putA cnL; omega
  | t :: ts, h, E, f, en, hf => by
    unfold putA cnL
    have hl : (freeE (newE E) f E.length).length = E.length + 1 := by rw [freeE_len, newE_len]
    have hb : E.length < (freeE (newE E) f E.length).length := by rw [hl]; omega
    have p1 := (h t (by simp) _ _ hb).1
    have p4 := (h t (by simp) _ _ hb).2.2.2
    rw [hl] at p1
    have q1 := tot_free (newE E) f E.length
    rw [tot_new] at q1
    have q2 := tot_free (putT t (freeE (newE E) f E.length) E.length).1 (putT t (freeE (newE E) f E.length) E.length).2 en
    have q3 := putA_tot ts (fun x hx => h x (List.mem_cons_of_mem _ hx)) (freeE (putT t (freeE (newE E) f E.length) E.length).1 (putT t (freeE (newE E) f E.length) E.length).2 en) f en (by rw [freeE_len, p1]; omega)
    rw [List.length_cons]
    omega
theorem put_ok : ∀ t, wgT t = 0 → PutT t := by
  refine RT.ind fun k s ks lo hi ih hw => ?_
  obtain ⟨hc, hk⟩ := wgT_nd hw
  have hks : ∀ t ∈ ks, PutT t := fun t ht => ih t ht (hk t ht)
  intro E f hf
  rcases ck1_kinds hc with ⟨rfl, rfl⟩ | ⟨rfl, rfl, h⟩ | ⟨rfl, h⟩ | ⟨rfl, h⟩ | ⟨rfl, x, rfl, h1, h2, h3, h4⟩
  · unfold putT cnT
    rw [if_neg (by omega), if_neg (by omega), if_neg (by omega), if_neg (by omega), if_neg (by omega), if_neg (by omega), if_neg (by omega), if_neg (by omega)]
    exact PutOk.zero E f hf
  · unfold putT cnT
    rw [if_pos rfl, if_pos rfl]
    refine ⟨by show (addE _ _ _).length = _; rw [addE_len, newE_len], fun e => by omega, fun _ => ?_, by have := tot_add (newE E) f ⟨E.length, s, false⟩; rw [tot_new] at this; show totE (addE _ _ _) ≤ _; omega⟩
    show E.length ≤ E.length ∧ E.length < _
    omega
  · unfold putT cnT
    rw [if_neg (by omega), if_pos rfl, if_neg (by omega), if_pos rfl]
    exact putC_ok ks hks E f hf
  · unfold putT cnT
    rw [if_neg (by omega), if_neg (by omega), if_pos rfl, if_neg (by omega), if_neg (by omega), if_pos rfl]
    refine ⟨?_, fun e => by omega, fun _ => ?_, ?_⟩
    rotate_left 2
    · have := putA_tot ks hks (newE E) f E.length (by rw [newE_len]; omega)
      rw [tot_new] at this
      show totE (putA _ _ _ _) ≤ _
      omega
    · show (putA _ _ _ _).length = _
      rw [putA_len ks hks _ _ _ (by rw [newE_len]; omega), newE_len]
      omega
    · show E.length ≤ E.length ∧ E.length < _
      omega
  · have hx : PutOk (putH [x]) (cnL [x]) := by
      have e : putH [x] = putT x := by funext E f; rfl
      have e2 : cnL [x] = cnT x := by unfold cnL; unfold cnL; omega
      rw [e, e2]
      exact hks x (by simp)
    have e1 : putT (.nd 5 s [x] lo hi) = rptT (putH [x]) lo hi := by
      funext E f
      unfold putT
      rw [if_neg (by omega), if_neg (by omega), if_neg (by omega), if_pos rfl]
    have e2 : cnT (.nd 5 s [x] lo hi) = (if hi < 0 then 2 + (lo.toNat + 1) * cnL [x] else 1 + (hi - lo).toNat + hi.toNat * cnL [x]) := by
      rw [cnT, if_neg (by omega), if_neg (by omega), if_neg (by omega), if_pos rfl]
    rw [e1, e2]
    exact rptT_ok hx lo hi (by omega) (by omega) E f hf
theorem min_mul (o c : Nat) : min (o * min c 4096) 4096 = min (o * c) 4096 := by
  rcases Nat.le_total c 4096 with h | h
  · rw [Nat.min_eq_left h]
  · rw [Nat.min_eq_right h]
    cases o with
    | zero => simp
    | succ o =>
      have h1 : 4096 ≤ (o + 1) * 4096 := by rw [Nat.succ_mul]; omega
      have h2 : 4096 ≤ (o + 1) * c := by rw [Nat.succ_mul]; omega
      omega
theorem ad_cn : ∀ t, wgT t = 0 → adT t = min (cnT t) 4096 := by
  refine RT.ind fun k s ks lo hi ih hw => ?_
  obtain ⟨hc, hk⟩ := wgT_nd hw
  have key : ∀ (o a : Nat) (ls : List RT), (∀ t ∈ ls, adT t = min (cnT t) 4096) → min (a + adL o ls) 4096 = min (a + o * cnL ls) 4096 := by
    intro o a ls
    induction ls generalizing a with
    | nil => intro _; unfold adL cnL; simp
    | cons t ts ih2 =>
      intro hl
      unfold adL cnL
      rw [hl t (by simp), ← Nat.add_assoc, ih2 _ (fun x hx => hl x (List.mem_cons_of_mem _ hx)), Nat.mul_add]
      have := min_mul o (cnT t)
      omega
  have hks := fun t ht => ih t ht (hk t ht)
  rw [adT, key _ _ _ hks]
  rcases ck1_kinds hc with ⟨rfl, rfl⟩ | ⟨rfl, rfl, h⟩ | ⟨rfl, h⟩ | ⟨rfl, h⟩ | ⟨rfl, x, rfl, h1, h2, h3, h4⟩
  · rw [cnT]; simp [cnL]
  · rw [cnT]; simp [cnL]
  · rw [cnT]; simp
  · rw [cnT]; simp
  · rw [cnT]
    simp only [show ¬ (5 : Int) = 2 by omega, show ¬ (5 : Int) = 3 by omega, show ¬ (5 : Int) = 4 by omega, if_false, if_true]
    by_cases hh : hi < 0
    · rw [if_pos hh, if_pos hh, if_pos hh]
    · rw [if_neg hh, if_neg hh, if_neg hh]
end Go.Proofs.YtoiegkejkahfgaaDoor
