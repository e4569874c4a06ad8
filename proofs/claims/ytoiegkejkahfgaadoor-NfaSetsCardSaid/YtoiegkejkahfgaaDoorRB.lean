/- regex: sets, names and counts as they are written are read as they are: plain mathematics. -/
import Derived.Test.YtoiegkejkahfgaaDoorRx
import Derived.Test.YtoiegkejkahfgaaDoorTexN
set_option linter.unusedVariables false
set_option linter.unusedSimpArgs false
namespace Go.Proofs.YtoiegkejkahfgaaDoor

/-- u stands at a place of l, and r behind it. -/
structure At (l : List UInt8) (i : Nat) (u r : List UInt8) : Prop where
  le : i ≤ l.length
  eq : l.drop i = u ++ r
theorem At.len {l : List UInt8} {i : Nat} {u r : List UInt8} (h : At l i u r) : i + u.length + r.length = l.length := by
  have h1 := congrArg List.length h.eq
  have h2 := h.le
  simp only [List.length_drop, List.length_append] at h1
  omega
theorem At.app {l : List UInt8} {i : Nat} {u v r : List UInt8} (h : At l i (u ++ v) r) : At l i u (v ++ r) := ⟨h.le, by rw [h.eq, List.append_assoc]⟩
theorem At.next {l : List UInt8} {i : Nat} {u v r : List UInt8} (h : At l i (u ++ v) r) : At l (i + u.length) v r := by
  have h1 := h.len
  simp only [List.length_append] at h1
  refine ⟨by omega, ?_⟩
  rw [← List.drop_drop, h.eq, List.append_assoc, List.drop_left]
theorem At.cons {l : List UInt8} {i : Nat} {x : UInt8} {u r : List UInt8} (h : At l i (x :: u) r) : At l (i + 1) u r := At.next (u := [x]) h
theorem At.nxc {l : List UInt8} {i : Nat} {x : UInt8} {t : List UInt8} (h : l.drop i = x :: t) : nx l i = x.toNat := by
  unfold nx
  have h1 : (l.drop i)[0]? = some x := by rw [h]; rfl
  rw [List.getElem?_drop, Nat.add_zero] at h1
  rw [List.getD_eq_getElem?_getD, h1]
  rfl
theorem At.hd {l : List UInt8} {i : Nat} {x : UInt8} {u r : List UInt8} (h : At l i (x :: u) r) : nx l i = x.toNat := At.nxc (t := u ++ r) h.eq
theorem At.is {l : List UInt8} {i : Nat} {x : UInt8} {u r : List UInt8} (h : At l i (x :: u) r) (n : Nat) (hx : x.toNat = n := by rfl) : nx l i = n := h.hd.trans hx
theorem At.nx0 {l : List UInt8} {i : Nat} {r : List UInt8} (h : At l i [] r) : nx l i = (r.headD 0).toNat := by
  cases r with
  | nil =>
    have := h.len
    simp only [List.length_nil] at this
    unfold Go.Proofs.YtoiegkejkahfgaaDoor.nx
    rw [List.getD_eq_getElem?_getD, List.getElem?_eq_none (by omega)]
    rfl
  | cons x r => exact At.nxc (t := r) h.eq
theorem At.tail {l : List UInt8} {i : Nat} {u r : List UInt8} (h : At l i u r) : At l (i + u.length) [] r := At.next (v := []) (by rw [List.append_nil]; exact h)

theorem plainF : ∀ c : Fin 256, plain c.1 = true → c.1.toUInt8.toNat = c.1 ∧ c.1 ≠ 92 ∧ 32 ≤ c.1 ∧ c.1 ≤ 126 ∧ isSign c.1 = false ∧ c.1 ≠ 94 ∧ c.1 ≠ 40 := by decide +kernel
theorem hexF : ∀ c : Fin 256, hexI (hexD (c.1 / 16)).toNat = ((c.1 / 16 : Nat) : Int) ∧ hexI (hexD (c.1 % 16)).toNat = ((c.1 % 16 : Nat) : Int) := by decide +kernel
theorem unesc_hex (c : Nat) (hc : c < 256) (r : List UInt8) : unesc (120 :: hexD (c / 16) :: hexD (c % 16) :: r) = (c, 3) := by
  obtain ⟨h1, h2⟩ := hexF ⟨c, hc⟩
  simp only at h1 h2
  have n0 : nx (120 :: hexD (c / 16) :: hexD (c % 16) :: r) 0 = 120 := rfl
  have n1 : nx (120 :: hexD (c / 16) :: hexD (c % 16) :: r) 1 = (hexD (c / 16)).toNat := rfl
  have n2 : nx (120 :: hexD (c / 16) :: hexD (c % 16) :: r) 2 = (hexD (c % 16)).toNat := rfl
  unfold unesc hexP
  rw [n0, n1, n2, h1, h2]
  rw [if_neg (by simp), if_neg (by decide), if_neg (by decide), if_neg (by decide), if_neg (by decide), if_pos rfl, if_neg (by simp), if_neg (by omega)]
  rw [Int.toNat_natCast, Int.toNat_natCast]
  exact Prod.ext (by simp only; omega) rfl
/-- A byte's name is read as it. -/
theorem pChar_name {l : List UInt8} {i c : Nat} {r : List UInt8} (hc : c < 256) (h : At l i (nameL c) r) : pChar l i = .ok (c, i + (nameL c).length) := by
  unfold nameL at h ⊢
  by_cases hp : plain c = true
  · rw [if_pos hp] at h ⊢
    obtain ⟨h1, h2, h3, h4, h5, _⟩ := plainF ⟨c, hc⟩ hp
    simp only at h1 h2 h3 h4 h5
    have hn := h.hd
    rw [h1] at hn
    unfold pChar
    rw [hn, if_neg h2, if_neg (by rw [h5]; simp; omega)]
    rfl
  · rw [if_neg hp] at h ⊢
    have hn : nx l i = 92 := h.hd
    unfold pChar
    rw [if_pos hn]
    unfold pEsc
    rw [h.cons.eq]
    simp only [List.cons_append, List.nil_append]
    rw [unesc_hex c hc r]
    rfl
theorem name_head2 (c : Nat) (hc : c < 256) : ∃ x t, nameL c = x :: t ∧ x ≠ 45 ∧ x ≠ 93 ∧ x ≠ 91 ∧ x ≠ 46 ∧ x ≠ 94 ∧ x ≠ 40 := by
  unfold nameL
  by_cases hp : plain c = true
  · rw [if_pos hp]
    obtain ⟨_, h2, h3, h4, h5, _⟩ := plain_u8 ⟨c, hc⟩ hp
    obtain ⟨h1, _, _, _, _, h6, h7⟩ := plainF ⟨c, hc⟩ hp
    simp only at h1 h6 h7
    refine ⟨_, _, rfl, h2, h3, h4, h5, ?_, ?_⟩
    · intro e; rw [e] at h1; exact h6 h1.symm
    · intro e; rw [e] at h1; exact h7 h1.symm
  · rw [if_neg hp]
    exact ⟨92, _, rfl, by decide, by decide, by decide, by decide, by decide, by decide⟩
theorem u8_ne {x : UInt8} {n : Nat} (hn : n < 256) (h : x ≠ n.toUInt8) : x.toNat ≠ n := by
  intro e
  apply h
  apply UInt8.toNat_inj.1
  rw [e]
  simp
  omega
theorem pRun_run {l : List UInt8} {i : Nat} {p : Nat × Nat} {r : List UInt8} (h1 : p.1 ≤ p.2) (h2 : p.2 < 256) (h : At l i (runT p) r) (hr : r.headD 0 ≠ 45) : pRun l i = .ok ((p.1, p.2), i + (runT p).length) := by
  unfold runT at h ⊢
  have hc := pChar_name (by omega) h.app
  have h3 := h.next
  unfold pRun
  rw [hc]
  simp only
  by_cases hlt : p.1 < p.2
  · rw [if_pos hlt] at h3 ⊢
    rw [if_pos (h3.is 45), pChar_name h2 h3.cons]
    simp only [List.length_append, List.length_cons, Except.ok.injEq, Prod.mk.injEq, true_and]
    omega
  · rw [if_neg hlt] at h3 ⊢
    rw [if_neg (by rw [h3.nx0]; exact u8_ne (by omega) hr)]
    simp only [List.append_nil, Except.ok.injEq, Prod.mk.injEq, true_and, and_true]
    omega
theorem runs_head (ps : List (Nat × Nat)) (hp : ∀ p ∈ ps, p.1 ≤ p.2 ∧ p.2 < 256) (r : List UInt8) : ∃ x t, ps.flatMap runT ++ [93] ++ r = x :: t ∧ x ≠ 45 ∧ x ≠ 94 ∧ (ps ≠ [] → x ≠ 93) := by
  cases ps with
  | nil => exact ⟨93, r, rfl, by decide, by decide, fun h => absurd rfl h⟩
  | cons p ps =>
    have := hp p (by simp)
    obtain ⟨x, t, e, h1, h2, _, _, h5, _⟩ := name_head2 p.1 (by omega)
    refine ⟨x, t ++ ((if p.1 < p.2 then 45 :: nameL p.2 else []) ++ (ps.flatMap runT ++ [93] ++ r)), ?_, h1, h5, fun _ => h2⟩
    simp only [List.flatMap_cons, runT, e, List.append_assoc, List.cons_append]
theorem pBrL_runs {l : List UInt8} {b : Nat} : ∀ (ps : List (Nat × Nat)) (k i : Nat) (r : List UInt8) (s : BS), (∀ p ∈ ps, p.1 ≤ p.2 ∧ p.2 < 256) → ps.length < k → At l i (ps.flatMap runT ++ [93]) r →
    pBrL l b k s i = .ok (ps.foldl (fun s p => s ||| rng p.1 p.2) s, i + (ps.flatMap runT).length + 1)
  | [], k, i, r, s, _, hk, h => by
    obtain ⟨k, rfl⟩ : ∃ m, k = m + 1 := ⟨k - 1, by simp at hk; omega⟩
    unfold pBrL
    rw [if_pos (At.is (x := 93) (u := []) h 93)]
    rfl
  | p :: ps, k, i, r, s, hp, hk, h => by
    obtain ⟨k, rfl⟩ : ∃ m, k = m + 1 := ⟨k - 1, by simp at hk; omega⟩
    have h1 := hp p (by simp)
    have hp' := fun q hq => hp q (List.mem_cons_of_mem _ hq)
    obtain ⟨x, t, e, _, _, h93⟩ := runs_head (p :: ps) hp r
    have hn : nx l i ≠ 93 := by
      rw [At.nxc (h.eq.trans e)]
      exact u8_ne (by omega) (h93 (by simp))
    simp only [List.flatMap_cons, List.append_assoc] at h
    obtain ⟨x', t', e', h45, _⟩ := runs_head ps hp' r
    have hr := pRun_run h1.1 h1.2 h.app (by rw [e']; exact h45)
    unfold pBrL
    rw [if_neg hn, hr]
    simp only
    rw [if_neg (by omega), pBrL_runs ps k _ r _ hp' (by simp at hk; omega) h.next]
    simp only [List.foldl_cons, List.flatMap_cons, List.length_append, Except.ok.injEq, Prod.mk.injEq, true_and]
    omega
theorem has_foldl (ps : List (Nat × Nat)) (hp : ∀ p ∈ ps, p.1 ≤ p.2 ∧ p.2 < 256) (s : BS) (x : Nat) : has (ps.foldl (fun s p => s ||| rng p.1 p.2) s) x = true ↔ has s x = true ∨ ∃ p ∈ ps, p.1 ≤ x ∧ x ≤ p.2 := by
  induction ps generalizing s with
  | nil => simp
  | cons p ps ih =>
    have h1 := hp p (by simp)
    rw [List.foldl_cons, ih (fun q hq => hp q (List.mem_cons_of_mem _ hq)), has_or, has_rng _ _ _ (by omega) h1.2]
    simp only [Bool.or_eq_true, Bool.and_eq_true, decide_eq_true_eq, List.mem_cons, exists_eq_or_imp, or_assoc]
theorem runs_foldl (a : BS) : (runsOf a).foldl (fun s p => s ||| rng p.1 p.2) 0#256 = a := by
  refine bs_has_ext fun c _ => ?_
  rw [Bool.eq_iff_iff, has_foldl _ (runs_ok a), has_zero c, mem_runs a]
  simp
theorem runs_len (a : BS) : (runsOf a).length ≤ ((runsOf a).flatMap runT).length := by
  generalize runsOf a = ps
  induction ps with
  | nil => simp
  | cons p ps ih =>
    have : 1 ≤ (runT p).length := by
      unfold runT nameL
      split <;> simp <;> omega
    simp only [List.flatMap_cons, List.length_append, List.length_cons]
    omega
/-- A set's text is read as it. -/
theorem pSet_text {l : List UInt8} {i : Nat} {a : BS} {r : List UInt8} (h0 : a ≠ 0#256) (h : At l i (textL a) r) : pSet l i = .ok (a, i + (textL a).length) := by
  by_cases hall : a = ~~~(0#256)
  · subst hall
    have e : textL (~~~(0#256)) = [46] := by unfold textL; rw [if_pos rfl]
    rw [e] at h ⊢
    unfold pSet
    rw [if_pos (h.is 46)]
    rfl
  · by_cases h1 : (bytesOf a).length = 1
    · have ho := (len_one a).1 h1
      rw [textL_one h1] at h ⊢
      have hf := firstN_lt a
      obtain ⟨x, t, e, _, _, h91, h46, _⟩ := name_head2 (firstN a) hf
      have hn : nx l i = x.toNat := by rw [e] at h; exact h.hd
      unfold pSet
      rw [if_neg (by rw [hn]; exact u8_ne (by omega) h46), if_neg (by rw [hn]; exact u8_ne (by omega) h91), pChar_name hf h]
      simp only
      rw [← ho.2]
    · rw [textL_other h1 hall, pieces_all] at h ⊢
      unfold pSet
      have hn : nx l i = 91 := h.hd
      rw [if_neg (by omega), if_pos hn]
      obtain ⟨x, t, e, _, h94, _⟩ := runs_head (runsOf a) (runs_ok a) r
      have hn1 : nx l (i + 1) ≠ 94 := by
        rw [At.nxc (h.cons.eq.trans e)]
        exact u8_ne (by omega) h94
      unfold pBr
      have hlen := h.cons.len
      have hrl := runs_len a
      simp only [List.length_append, List.length_cons, List.length_nil] at hlen
      rw [if_neg hn1, pBrL_runs (runsOf a) _ _ r _ (runs_ok a) (by omega) h.cons, runs_foldl]
      simp only
      rw [if_neg hn1, if_neg h0]
      simp only [List.length_append, List.length_cons, List.length_nil, Except.ok.injEq, Prod.mk.injEq, true_and]
      omega
theorem sign_rep : ∀ c : Fin 256, (isRep c.1 = true ∨ c.1 = 124 ∨ c.1 = 41 ∨ c.1 = 40) → isSign c.1 = true ∧ c.1 ≠ 46 ∧ c.1 ≠ 91 ∧ c.1 ≠ 92 := by decide +kernel
/-- What a set begins with. -/
theorem pSet_head {l : List UInt8} {i : Nat} {a : BS} {j : Nat} (h : pSet l i = .ok (a, j)) : isRep (nx l i) = false ∧ nx l i ≠ 124 ∧ nx l i ≠ 41 ∧ nx l i ≠ 40 := by
  have key : ¬ (isRep (nx l i) = true ∨ nx l i = 124 ∨ nx l i = 41 ∨ nx l i = 40) := by
    intro hk
    obtain ⟨h1, h2, h3, h4⟩ := sign_rep ⟨nx l i, nx_byte l i⟩ hk
    simp only at h1 h2 h3 h4
    unfold pSet pChar at h
    rw [if_neg h2, if_neg h3, if_neg h4, if_pos (.inr (.inr h1))] at h
    cases h
  refine ⟨?_, ?_, ?_, ?_⟩
  · cases e : isRep (nx l i)
    · rfl
    · exact absurd (.inl e) key
  · exact fun e => key (.inr (.inl e))
  · exact fun e => key (.inr (.inr (.inl e)))
  · exact fun e => key (.inr (.inr (.inr e)))

/-- A number's digits. -/
def digT (n : Nat) : List UInt8 := lastD n (if n < 10 then 1 else if n < 100 then 2 else 3)
theorem digT_len {n : Nat} (h : n < 1000) : IsLen n (if n < 10 then 1 else if n < 100 then 2 else 3) := by
  unfold IsLen
  split
  · simp; omega
  · split
    · simp; omega
    · simp; omega
theorem digEnd_run {l : List UInt8} : ∀ (u : List UInt8) (k i : Nat) (r : List UInt8), (∀ c ∈ u, isDig c) → At l i u r → ¬ isDig (r.headD 0) → u.length < k → digEnd l k i = i + u.length
  | [], k, i, r, _, h, hr, hk => by
    obtain ⟨k, rfl⟩ : ∃ m, k = m + 1 := ⟨k - 1, by simp at hk; omega⟩
    unfold digEnd
    rw [if_neg (by rw [h.nx0]; exact hr)]
    rfl
  | c :: u, k, i, r, hu, h, hr, hk => by
    obtain ⟨k, rfl⟩ : ∃ m, k = m + 1 := ⟨k - 1, by simp at hk; omega⟩
    have h1 := hu c (by simp)
    unfold digEnd
    rw [if_pos (by rw [h.hd]; exact h1), digEnd_run u k _ r (fun d hd => hu d (List.mem_cons_of_mem _ hd)) h.cons hr (by simp at hk; omega)]
    simp only [List.length_cons]
    omega
/-- Digits are read as their number. -/
theorem pNum_dig {l : List UInt8} {i n : Nat} {r : List UInt8} (hn : n ≤ 256) (h : At l i (digT n) r) (hr : ¬ isDig (r.headD 0)) : pNum l i = .ok (n, i + (digT n).length) := by
  obtain ⟨hw, hv⟩ := isLen_wrt _ _ (digT_len (n := n) (by omega))
  have hlen := h.len
  have he : digEnd l (l.length + 1) i = i + (digT n).length := digEnd_run _ _ _ _ hw.1 h hr (by omega)
  have hd : digs l i = digT n := by
    unfold digs
    rw [he, h.eq, Nat.add_sub_cancel_left, List.take_left]
  unfold pNum
  rw [hd, he]
  have hb : wrtB (digT n) = true := by
    unfold wrtB
    obtain ⟨_, h2, h3⟩ := hw
    have h2' : (digT n).isEmpty = false := by
      cases e : digT n with
      | nil => exact absurd e h2
      | cons _ _ => rfl
    rw [h2']
    simp only [Bool.not_false, Bool.true_and, Bool.or_eq_true, decide_eq_true_eq]
    exact h3
  have hv' : valL (digT n) = n := hv
  rw [hb, hv', if_neg (by simp), if_pos hn]
/-- How often something may come, as it is written. -/
def oftT (lo hi : Int) : List UInt8 :=
  if lo = 0 ∧ hi < 0 then [42] else if lo = 1 ∧ hi < 0 then [43] else if lo = 0 ∧ hi = 1 then [63]
  else if hi < 0 then 123 :: (digT lo.toNat ++ [44, 125])
  else if lo = hi then 123 :: (digT lo.toNat ++ [125]) else 123 :: (digT lo.toNat ++ 44 :: (digT hi.toNat ++ [125]))
theorem rep_signs : isRep 42 = true ∧ isRep 43 = true ∧ isRep 63 = true ∧ isRep 123 = true ∧ isRep 0 = false ∧ isRep 41 = false ∧ isRep 124 = false ∧ isRep 40 = false := by decide +kernel
theorem oftT_head (lo hi : Int) : ∃ x t, oftT lo hi = x :: t ∧ isRep x.toNat = true := by
  have h := rep_signs
  unfold oftT
  split
  · exact ⟨_, _, rfl, h.1⟩
  · split
    · exact ⟨_, _, rfl, h.2.1⟩
    · split
      · exact ⟨_, _, rfl, h.2.2.1⟩
      · split
        · exact ⟨_, _, rfl, h.2.2.2.1⟩
        · split
          · exact ⟨_, _, rfl, h.2.2.2.1⟩
          · exact ⟨_, _, rfl, h.2.2.2.1⟩
/-- It is read as it. -/
theorem pTimes_text {l : List UInt8} {i : Nat} {lo hi : Int} {r : List UInt8} (h0 : 0 ≤ lo) (h1 : lo ≤ 256) (h2 : hi ≤ 256) (h3 : hi < 0 ∨ lo ≤ hi) (h : At l i (oftT lo hi) r) :
    ∃ m : Nat, (m : Int) = lo ∧ pTimes l i = .ok ((m, if hi < 0 then -1 else hi), i + (oftT lo hi).length) := by
  refine ⟨lo.toNat, by omega, ?_⟩
  unfold oftT at h ⊢
  by_cases c1 : lo = 0 ∧ hi < 0
  · rw [if_pos c1] at h ⊢
    unfold pTimes
    rw [if_pos (h.is 42), if_pos c1.2, c1.1]
    rfl
  rw [if_neg c1] at h ⊢
  by_cases c2 : lo = 1 ∧ hi < 0
  · rw [if_pos c2] at h ⊢
    have hn : nx l i = 43 := h.hd
    unfold pTimes
    rw [if_neg (by omega), if_pos hn, if_pos c2.2, c2.1]
    rfl
  rw [if_neg c2] at h ⊢
  by_cases c3 : lo = 0 ∧ hi = 1
  · rw [if_pos c3] at h ⊢
    have hn : nx l i = 63 := h.hd
    unfold pTimes
    rw [if_neg (by omega), if_neg (by omega), if_pos hn, c3.1, c3.2]
    rfl
  rw [if_neg c3] at h ⊢
  have hlo : lo.toNat ≤ 256 := by omega
  have d44 : ¬ isDig 44 := by unfold isDig; decide
  have d125 : ¬ isDig 125 := by unfold isDig; decide
  by_cases c4 : hi < 0
  · rw [if_pos c4] at h ⊢
    rw [if_pos c4]
    have hn : nx l i = 123 := h.hd
    have hx := pNum_dig hlo h.cons.app d44
    have h5 : At l (i + 1 + (digT lo.toNat).length) [44, 125] r := h.cons.next
    unfold pTimes pBounds
    rw [if_neg (by omega), if_neg (by omega), if_neg (by omega), hx]
    simp only
    rw [if_pos (h5.is 44), if_pos (h5.cons.is 125)]
    simp only [List.length_cons, List.length_append, List.length_nil, Except.ok.injEq, Prod.mk.injEq, true_and]
    omega
  rw [if_neg c4] at h ⊢
  rw [if_neg c4]
  have hhi : hi.toNat ≤ 256 := by omega
  by_cases c5 : lo = hi
  · rw [if_pos c5] at h ⊢
    have hn : nx l i = 123 := h.hd
    have hx := pNum_dig hlo h.cons.app d125
    have h5 : At l (i + 1 + (digT lo.toNat).length) [125] r := h.cons.next
    have h6 : nx l (i + 1 + (digT lo.toNat).length) = 125 := h5.hd
    unfold pTimes pBounds
    rw [if_neg (by omega), if_neg (by omega), if_neg (by omega), hx]
    simp only
    rw [if_neg (by omega), if_pos h6]
    simp only [List.length_cons, List.length_append, List.length_nil, Except.ok.injEq, Prod.mk.injEq, true_and]
    omega
  · rw [if_neg c5] at h ⊢
    have hn : nx l i = 123 := h.hd
    have hx := pNum_dig hlo h.cons.app d44
    have h5 : At l (i + 1 + (digT lo.toNat).length) (44 :: (digT hi.toNat ++ [125])) r := h.cons.next
    have hy := pNum_dig hhi h5.cons.app d125
    have h6 := h5.cons.next
    have hne : nx l (i + 1 + (digT lo.toNat).length + 1) ≠ 125 := by
      intro e
      have hw := (isLen_wrt _ _ (digT_len (n := hi.toNat) (by omega))).1
      cases ed : digT hi.toNat with
      | nil => exact hw.2.1 ed
      | cons d ds =>
        have h7 : At l (i + 1 + (digT lo.toNat).length + 1) (digT hi.toNat) ([125] ++ r) := h5.cons.app
        rw [ed] at h7
        have hd := hw.1 d (by rw [show lastD hi.toNat _ = digT hi.toNat from rfl, ed]; simp)
        rw [h7.hd] at e
        unfold isDig at hd
        omega
    unfold pTimes pBounds
    rw [if_neg (by omega), if_neg (by omega), if_neg (by omega), hx]
    simp only
    rw [if_pos (h5.is 44), if_neg hne, hy]
    simp only
    rw [if_neg (by omega), if_pos (h6.is 125)]
    simp only [List.length_cons, List.length_append, List.length_nil, Except.ok.injEq, Prod.mk.injEq, true_and]
    omega
end Go.Proofs.YtoiegkejkahfgaaDoor

/- regex: an expression's text is read as it, or is too deep: plain mathematics. -/
namespace Go.Proofs.YtoiegkejkahfgaaDoor

/-! Functions of expressions, as the code has them. -/
def RT.k : RT → Int | .nd k _ _ _ _ => k
def RT.s : RT → BS | .nd _ s _ _ _ => s
def RT.ks : RT → List RT | .nd _ _ ks _ _ => ks
def RT.lo : RT → Int | .nd _ _ _ lo _ => lo
def RT.hi : RT → Int | .nd _ _ _ _ hi => hi
/-- Would it be read otherwise without parentheses? -/
def clo (k w : Int) : Bool := decide (k = 4) || ((decide (k = 3) || decide (k = 1)) && decide (w ≠ 4))
/-- Is it of a kind that there is, with as many parts? -/
def fmB (k : Int) (n : Nat) : Bool := if k = 1 ∨ k = 2 then decide (n = 0) else if k = 3 ∨ k = 4 then decide (2 ≤ n) else if k = 5 then decide (n = 1) else false
/-- The error of one, whatever its parts are. -/
def ckF (k : Int) (s : BS) (n : Nat) (lo hi : Int) : Nat := if fmB k n = true then (if k = 2 then (if s = 0#256 then 160 else 0) else if k = 5 then (if lo < 0 ∨ 256 < lo ∨ 256 < hi ∨ (0 ≤ hi ∧ hi < lo) then 1 else 0) else 0) else 5
def ck1 : RT → Nat | .nd k s ks lo hi => ckF k s ks.length lo hi
mutual
/-- Its text. -/
def wrT : RT → List UInt8
  | .nd k s ks lo hi => (if k = 2 then textL s else []) ++ (wrKs k true ks ++ (if k = 5 then oftT lo hi else []))
def wrKs (w : Int) : Bool → List RT → List UInt8
  | _, [] => []
  | first, t :: ts => (if w = 4 ∧ first = false then [124] else []) ++ ((if clo t.k w then 40 :: (wrT t ++ [41]) else wrT t) ++ wrKs w false ts)
end
mutual
/-- How many parts. -/
def szT : RT → Nat
  | .nd _ _ ks _ _ => 1 + szL ks
def szL : List RT → Nat
  | [] => 0
  | t :: ts => szT t + szL ts
end
mutual
/-- How deep its parentheses stand. -/
def pdT : RT → Nat
  | .nd k _ ks _ _ => pdL k ks
def pdL (w : Int) : List RT → Nat
  | [] => 0
  | t :: ts => max (if clo t.k w then pdT t + 1 else pdT t) (pdL w ts)
end
mutual
/-- How deep it is. -/
def dpT : RT → Nat
  | .nd _ _ ks _ _ => dpL ks + 1
def dpL : List RT → Nat
  | [] => 0
  | t :: ts => max (dpT t) (dpL ts)
end
mutual
/-- It, without what has no meaning. -/
def nrT : RT → RT
  | .nd k s ks lo hi => .nd k (if k = 2 then s else 0#256) (nrL ks) (if k = 5 then lo else 0) (if k = 5 then (if hi < 0 then -1 else hi) else 0)
def nrL : List RT → List RT
  | [] => []
  | t :: ts => nrT t :: nrL ts
end
mutual
/-- What is wrong with it, part by part from the front. -/
def wgT : RT → Nat
  | .nd k s ks lo hi => if ck1 (.nd k s ks lo hi) ≠ 0 then ck1 (.nd k s ks lo hi) else wgL ks
def wgL : List RT → Nat
  | [] => 0
  | t :: ts => if wgT t ≠ 0 then wgT t else wgL ts
end
mutual
theorem RT.ind {P : RT → Prop} (h : ∀ k s ks lo hi, (∀ t ∈ ks, P t) → P (.nd k s ks lo hi)) : ∀ t, P t
  | .nd k s ks lo hi => h k s ks lo hi (RT.indL h ks)
theorem RT.indL {P : RT → Prop} (h : ∀ k s ks lo hi, (∀ t ∈ ks, P t) → P (.nd k s ks lo hi)) : ∀ (ks : List RT), ∀ t ∈ ks, P t
  | [], _, ht => by cases ht
  | x :: ks, t, ht => (List.mem_cons.1 ht).elim (fun e => e ▸ RT.ind h x) (fun ht => RT.indL h ks t ht)
end
theorem nrL_map (ts : List RT) : nrL ts = ts.map nrT := by
  induction ts with
  | nil => rfl
  | cons t ts ih => rw [nrL, ih]; rfl
theorem wgL_mem {ts : List RT} (h : wgL ts = 0) : ∀ t ∈ ts, wgT t = 0 := by
  induction ts with
  | nil => intro t ht; cases ht
  | cons x ts ih =>
    rw [wgL] at h
    by_cases hx : wgT x = 0
    · rw [if_neg (by omega)] at h
      intro t ht
      rcases List.mem_cons.1 ht with rfl | ht
      · exact hx
      · exact ih h t ht
    · rw [if_pos hx] at h
      exact absurd h hx
theorem wgT_nd {k : Int} {s : BS} {ks : List RT} {lo hi : Int} (h : wgT (.nd k s ks lo hi) = 0) : ck1 (.nd k s ks lo hi) = 0 ∧ ∀ t ∈ ks, wgT t = 0 := by
  rw [wgT] at h
  by_cases hx : ck1 (.nd k s ks lo hi) = 0
  · rw [if_neg (by omega)] at h
    exact ⟨hx, wgL_mem h⟩
  · rw [if_pos hx] at h
    exact absurd h hx
/-- What may be is of one of five kinds. -/
theorem ck1_kinds {k : Int} {s : BS} {ks : List RT} {lo hi : Int} (h : ck1 (.nd k s ks lo hi) = 0) :
    (k = 1 ∧ ks = []) ∨ (k = 2 ∧ ks = [] ∧ s ≠ 0#256) ∨ (k = 3 ∧ 2 ≤ ks.length) ∨ (k = 4 ∧ 2 ≤ ks.length) ∨ (k = 5 ∧ ∃ x, ks = [x] ∧ 0 ≤ lo ∧ lo ≤ 256 ∧ hi ≤ 256 ∧ (hi < 0 ∨ lo ≤ hi)) := by
  unfold ck1 ckF fmB at h
  by_cases h1 : k = 1
  · subst h1
    simp at h
    exact .inl ⟨rfl, h⟩
  by_cases h2 : k = 2
  · subst h2
    by_cases hk : ks = []
    · by_cases hs : s = 0#256
      · simp [hk, hs] at h
      · exact .inr (.inl ⟨rfl, hk, hs⟩)
    · simp [hk] at h
  by_cases h3 : k = 3
  · subst h3
    simp at h
    exact .inr (.inr (.inl ⟨rfl, h⟩))
  by_cases h4 : k = 4
  · subst h4
    simp at h
    exact .inr (.inr (.inr (.inl ⟨rfl, h⟩)))
  by_cases h5 : k = 5
  · subst h5
    by_cases h6 : ks.length = 1
    · by_cases h7 : lo < 0 ∨ 256 < lo ∨ 256 < hi ∨ (0 ≤ hi ∧ hi < lo)
      · simp [h6, h7] at h
      obtain ⟨x, hx⟩ := List.length_eq_one_iff.1 h6
      exact .inr (.inr (.inr (.inr ⟨rfl, x, hx, by omega, by omega, by omega, by omega⟩)))
    · simp [h6] at h
  · simp [h1, h2, h3, h4, h5] at h

/-- Its text as it stands behind another one's. -/
def rT (t : RT) : List UInt8 := if clo t.k 3 then 40 :: (wrT t ++ [41]) else wrT t
def pR (t : RT) : Nat := if clo t.k 3 then pdT t + 1 else pdT t
/-- Its text as it stands between two bars. -/
def kT (t : RT) : List UInt8 := if clo t.k 4 then 40 :: (wrT t ++ [41]) else wrT t
def pK (t : RT) : Nat := if clo t.k 4 then pdT t + 1 else pdT t
theorem clo5 (k : Int) : clo k 5 = clo k 3 := rfl
theorem wrKs_cat {w : Int} (hw : w = 3 ∨ w = 5) (b : Bool) (ts : List RT) : wrKs w b ts = ts.flatMap rT := by
  induction ts generalizing b with
  | nil => rw [wrKs]; rfl
  | cons t ts ih =>
    rw [wrKs, if_neg (by omega), ih, List.flatMap_cons]
    rcases hw with rfl | rfl <;> rfl
theorem wrKs_alt (ts : List RT) : wrKs 4 false ts = ts.flatMap (fun t => 124 :: kT t) := by
  induction ts with
  | nil => rw [wrKs]; rfl
  | cons t ts ih =>
    rw [wrKs, if_pos ⟨rfl, rfl⟩, ih, List.flatMap_cons]
    rfl
theorem wrKs_alt1 (t : RT) (ts : List RT) : wrKs 4 true (t :: ts) = kT t ++ ts.flatMap (fun t => 124 :: kT t) := by
  rw [wrKs, if_neg (by simp), wrKs_alt]
  rfl
theorem pdL_cat {w : Int} (hw : w = 3 ∨ w = 5) {D : Nat} (ts : List RT) : pdL w ts ≤ D ↔ ∀ t ∈ ts, pR t ≤ D := by
  induction ts with
  | nil => simp [pdL]
  | cons t ts ih =>
    rw [pdL, Nat.max_le, ih]
    have : (if clo t.k w then pdT t + 1 else pdT t) = pR t := by
      rcases hw with rfl | rfl <;> rfl
    rw [this]
    simp
theorem pdL_alt {D : Nat} (ts : List RT) : pdL 4 ts ≤ D ↔ ∀ t ∈ ts, pK t ≤ D := by
  induction ts with
  | nil => simp [pdL]
  | cons t ts ih =>
    rw [pdL, Nat.max_le, ih]
    have : (if clo t.k 4 then pdT t + 1 else pdT t) = pK t := rfl
    rw [this]
    simp

/-! What is read where such a text stands. -/
def Shut (r : List UInt8) : Prop := r.headD 0 = 0 ∧ r = [] ∨ r.headD 0 = 41 ∨ r.headD 0 = 124
def RC (t : RT) : Prop := ∀ (l : List UInt8) (D i nd : Nat) (r : List UInt8), At l i (rT t) r → nd + szT t ≤ 512 →
  (pR t ≤ D → ∃ m, l.length < m + (i + (rT t).length) ∧ pRep l (pEither l D) i nd = pRepL l m (nrT t) (i + (rT t).length) (nd + szT t)) ∧ (D < pR t → ∃ j, pRep l (pEither l D) i nd = .error (6, j))
def CC (t : RT) : Prop := ∀ (l : List UInt8) (D i nd : Nat) (r : List UInt8), At l i (kT t) r → Shut r → nd + szT t ≤ 512 →
  (pK t ≤ D → pCatL l (pEither l D) (l.length + 1) [] i nd = .ok (nrT t, i + (kT t).length, nd + szT t)) ∧ (D < pK t → ∃ j, pCatL l (pEither l D) (l.length + 1) [] i nd = .error (6, j))
def EC (t : RT) : Prop := ∀ (l : List UInt8) (D i nd : Nat) (r : List UInt8), At l i (wrT t) r → (r = [] ∨ r.headD 0 = 41) → nd + szT t ≤ 512 →
  (pdT t < D → pEither l D i nd = .ok (nrT t, i + (wrT t).length, nd + szT t)) ∧ (D ≤ pdT t → ∃ j, pEither l D i nd = .error (6, j))
theorem mkN_fit {t : RT} {i nd : Nat} (h : nd + 1 ≤ 512) : mkN t i nd = .ok (t, i, nd + 1) := by unfold mkN; rw [if_pos h]
theorem pRepL_halt {l : List UInt8} {m j nd : Nat} {t : RT} (h : isRep (nx l j) = false) (hm : 0 < m) : pRepL l m t j nd = .ok (t, j, nd) := by
  obtain ⟨m, rfl⟩ : ∃ n, m = n + 1 := ⟨m - 1, by omega⟩
  unfold pRepL
  rw [if_neg (by rw [h]; decide)]
theorem pRepL_more {l : List UInt8} {m j nd : Nat} {t : RT} {lo : Nat} {hi : Int} {j' : Nat} (h : isRep (nx l j) = true) (hm : 0 < m) (hp : pTimes l j = .ok ((lo, hi), j')) (hnd : nd + 1 ≤ 512) :
    pRepL l m t j nd = pRepL l (m - 1) (.nd 5 (0#256) [t] lo hi) j' (nd + 1) := by
  obtain ⟨m, rfl⟩ : ∃ n, m = n + 1 := ⟨m - 1, by omega⟩
  conv => lhs; unfold pRepL
  rw [if_pos h, hp]
  simp only
  rw [mkN_fit hnd]
  rfl
theorem shut_rep {l : List UInt8} {i : Nat} {r : List UInt8} (h : At l i [] r) (hr : Shut r) : isRep (nx l i) = false := by
  rw [h.nx0]
  have hs := rep_signs
  rcases hr with ⟨h1, _⟩ | h1 | h1 <;> rw [h1]
  · exact hs.2.2.2.2.1
  · exact hs.2.2.2.2.2.1
  · exact hs.2.2.2.2.2.2.1
theorem shut_end {l : List UInt8} {i : Nat} {r : List UInt8} (h : At l i [] r) (hr : Shut r) : ¬ (i < l.length ∧ nx l i ≠ 124 ∧ nx l i ≠ 41) := by
  rintro ⟨h1, h2, h3⟩
  have hl := h.len
  rw [h.nx0] at h2 h3
  rcases hr with ⟨_, h4⟩ | h4 | h4
  · rw [h4] at hl
    simp at hl
    omega
  · rw [h4] at h3; exact h3 rfl
  · rw [h4] at h2; exact h2 rfl
/-- What an expression begins with behind another one. -/
def Front (x : UInt8) : Prop := isRep x.toNat = false ∧ x.toNat ≠ 124 ∧ x.toNat ≠ 41
theorem textL_head {s : BS} (h : s ≠ 0#256) : ∃ x u, textL s = x :: u ∧ Front x ∧ x.toNat ≠ 40 := by
  have hp := pSet_text (l := textL s) (i := 0) (r := []) h ⟨by omega, by simp⟩
  have hh := pSet_head hp
  cases e : textL s with
  | nil =>
    rw [e] at hp
    have := pSet_lt hp
    simp at this
  | cons x u =>
    rw [e] at hh
    exact ⟨x, u, rfl, ⟨hh.1, hh.2.1, hh.2.2.1⟩, hh.2.2.2⟩
theorem rT_head : ∀ t, wgT t = 0 → ∃ x u, rT t = x :: u ∧ Front x := by
  refine RT.ind fun k s ks lo hi ih hw => ?_
  have hs := rep_signs
  have h40 : Front 40 := ⟨hs.2.2.2.2.2.2.2, by decide, by decide⟩
  obtain ⟨hc, hk⟩ := wgT_nd hw
  rcases ck1_kinds hc with ⟨rfl, h⟩ | ⟨rfl, rfl, h⟩ | ⟨rfl, h⟩ | ⟨rfl, h⟩ | ⟨rfl, x, rfl, h⟩
  · exact ⟨40, _, rfl, h40⟩
  · obtain ⟨x, u, e, h1, _⟩ := textL_head h
    refine ⟨x, u, ?_, h1⟩
    have : rT (.nd 2 s [] lo hi) = wrT (.nd 2 s [] lo hi) := rfl
    rw [this, wrT, wrKs, if_pos rfl, if_neg (by decide), e]
    simp
  · exact ⟨40, _, rfl, h40⟩
  · exact ⟨40, _, rfl, h40⟩
  · obtain ⟨y, u, e, h1⟩ := ih x (by simp) (hk x (by simp))
    refine ⟨y, u ++ oftT lo hi, ?_, h1⟩
    have : rT (.nd 5 s [x] lo hi) = wrT (.nd 5 s [x] lo hi) := rfl
    rw [this, wrT, wrKs_cat (.inr rfl), if_neg (by decide), if_pos rfl]
    simp [e]
/-- Some behind each other. -/
theorem cat_loop {l : List UInt8} {D : Nat} : ∀ (ts : List RT) (m i nd : Nat) (r : List UInt8) (ks : List RT), (∀ t ∈ ts, RC t ∧ wgT t = 0) → At l i (ts.flatMap rT) r → Shut r → nd + szL ts ≤ 512 → l.length < m + i →
    ((∀ t ∈ ts, pR t ≤ D) → ∃ m', l.length < m' + (i + (ts.flatMap rT).length) ∧ pCatL l (pEither l D) m ks i nd = pCatL l (pEither l D) m' (ks ++ nrL ts) (i + (ts.flatMap rT).length) (nd + szL ts)) ∧
    ((∃ t ∈ ts, D < pR t) → ∃ j, pCatL l (pEither l D) m ks i nd = .error (6, j))
  | [], m, i, nd, r, ks, _, h, hr, _, hm => ⟨fun _ => ⟨m, by simpa using hm, by simp [nrL, szL]⟩, fun ⟨t, ht, _⟩ => by cases ht⟩
  | t :: ts, m, i, nd, r, ks, hts, h, hr, hnd, hm => by
    obtain ⟨hR, hw⟩ := hts t (by simp)
    rw [szL] at hnd
    rw [List.flatMap_cons] at h
    have hR' := hR l D i nd _ h.app (by omega)
    obtain ⟨x, u, e, h1, h2, h3⟩ := rT_head t hw
    have hn : nx l i = x.toNat := by
      have h4 := h.app
      rw [e] at h4
      exact h4.hd
    have hlen := h.len
    simp only [List.length_append] at hlen
    have hpos : 0 < (rT t).length := by rw [e]; simp
    obtain ⟨m, rfl⟩ : ∃ n, m = n + 1 := ⟨m - 1, by omega⟩
    have hgo : i < l.length ∧ nx l i ≠ 124 ∧ nx l i ≠ 41 := ⟨by omega, by rw [hn]; exact h2, by rw [hn]; exact h3⟩
    have hstep : pCatL l (pEither l D) (m + 1) ks i nd = (match pRep l (pEither l D) i nd with
      | .error e => .error e
      | .ok (t, j, nd') => pCatL l (pEither l D) m (ks ++ [t]) j nd') := by
      conv => lhs; unfold pCatL
      rw [if_pos hgo]
      rfl
    by_cases hp : pR t ≤ D
    · obtain ⟨m', hm', hrep⟩ := hR'.1 hp
      have h5 := h.next
      have hstop : isRep (nx l (i + (rT t).length)) = false := by
        cases ts with
        | nil => exact shut_rep (by simpa using h5) hr
        | cons t2 ts =>
          obtain ⟨y, v, e2, h6, _⟩ := rT_head t2 (hts t2 (by simp)).2
          rw [List.flatMap_cons] at h5
          have h7 := h5.app
          rw [e2] at h7
          rw [h7.hd]
          exact h6
      rw [pRepL_halt hstop (by omega)] at hrep
      have hrest := cat_loop (D := D) ts m (i + (rT t).length) (nd + szT t) r (ks ++ [nrT t]) (fun x hx => hts x (List.mem_cons_of_mem _ hx)) h5 hr (by omega) (by omega)
      rw [hstep, hrep]
      simp only
      constructor
      · intro hall
        obtain ⟨m2, h8, h9⟩ := hrest.1 (fun x hx => hall x (List.mem_cons_of_mem _ hx))
        refine ⟨m2, ?_, ?_⟩
        · rw [List.flatMap_cons, List.length_append]; omega
        · rw [h9, List.flatMap_cons, List.length_append, szL, nrL, List.append_assoc, ← Nat.add_assoc, ← Nat.add_assoc]
          rfl
      · rintro ⟨x, hx, hxp⟩
        rcases List.mem_cons.1 hx with rfl | hx
        · omega
        · exact hrest.2 ⟨x, hx, hxp⟩
    · obtain ⟨j, hj⟩ := hR'.2 (by omega)
      rw [hstep, hj]
      constructor
      · intro hall
        exact absurd (hall t (by simp)) hp
      · intro _
        exact ⟨j, rfl⟩
theorem pCatL_halt {l : List UInt8} {E : Nat → Nat → NR RT} {m j nd : Nat} {ks : List RT} (h : ¬ (j < l.length ∧ nx l j ≠ 124 ∧ nx l j ≠ 41)) (hm : 0 < m) : pCatL l E m ks j nd = if ks.isEmpty = true then mkN (.nd 1 (0#256) [] 0 0) j nd else joinN 3 ks j nd := by
  obtain ⟨m, rfl⟩ : ∃ n, m = n + 1 := ⟨m - 1, by omega⟩
  unfold pCatL
  rw [if_neg h]
/-- One that needs no parentheses behind another one, between two bars. -/
theorem cc_of_rc {t : RT} (hR : RC t) (hw : wgT t = 0) (hkr : kT t = rT t) (hp : pK t = pR t) : CC t := by
  intro l D i nd r h hr hnd
  rw [hkr] at h ⊢
  rw [hp]
  have h1 := cat_loop (l := l) (D := D) [t] (l.length + 1) i nd r [] (fun x hx => by rw [List.mem_singleton.1 hx]; exact ⟨hR, hw⟩) (by simpa using h) hr (by simpa [szL] using hnd) (by omega)
  simp only [List.flatMap_cons, List.flatMap_nil, List.append_nil, szL, Nat.add_zero, nrL, List.nil_append, List.mem_singleton, forall_eq, exists_eq_left] at h1
  refine ⟨fun hd => ?_, h1.2⟩
  obtain ⟨m', h2, h3⟩ := h1.1 hd
  have hlen := h.len
  rw [h3, pCatL_halt (shut_end h.tail hr) (by omega)]
  rfl
/-- Some between bars. -/
theorem alt_loop {l : List UInt8} {D : Nat} : ∀ (ts : List RT) (t : RT) (m i nd : Nat) (r : List UInt8) (ks : List RT), CC t → (∀ t ∈ ts, CC t) → At l i (kT t ++ ts.flatMap (fun t => 124 :: kT t)) r → (r = [] ∨ r.headD 0 = 41) → nd + szT t + szL ts ≤ 512 → l.length < m + i →
    ((∀ x ∈ t :: ts, pK x ≤ D) → pEithL l (pEither l D) m ks i nd = joinN 4 (ks ++ nrL (t :: ts)) (i + (kT t ++ ts.flatMap (fun t => 124 :: kT t)).length) (nd + szT t + szL ts)) ∧
    ((∃ x ∈ t :: ts, D < pK x) → ∃ j, pEithL l (pEither l D) m ks i nd = .error (6, j))
  | ts, t, m, i, nd, r, ks, hC, hts, h, hr, hnd, hm => by
    have hlen := h.len
    obtain ⟨m, rfl⟩ : ∃ n, m = n + 1 := ⟨m - 1, by omega⟩
    have hsh : Shut (ts.flatMap (fun t => 124 :: kT t) ++ r) := by
      cases ts with
      | nil =>
        rcases hr with h1 | h1
        · left; rw [h1]; exact ⟨rfl, rfl⟩
        · right; left; exact h1
      | cons t2 ts => right; right; rfl
    have hC' := hC l D i nd _ h.app hsh (by omega)
    have hstep : pEithL l (pEither l D) (m + 1) ks i nd = (match pCatL l (pEither l D) (l.length + 1) [] i nd with
      | .error e => .error e
      | .ok (t, j, nd') => if nx l j = 124 then pEithL l (pEither l D) m (ks ++ [t]) (j + 1) nd' else joinN 4 (ks ++ [t]) j nd') := by
      conv => lhs; unfold pEithL
      rfl
    by_cases hp : pK t ≤ D
    · rw [hstep, hC'.1 hp]
      simp only
      have h5 := h.next
      cases ts with
      | nil =>
        have hn : nx l (i + (kT t).length) ≠ 124 := by
          have h6 : At l (i + (kT t).length) [] r := h5
          rw [h6.nx0]
          rcases hr with h1 | h1
          · rw [h1]; decide
          · rw [h1]; decide
        rw [if_neg hn]
        refine ⟨fun _ => by simp [nrL, szL], ?_⟩
        rintro ⟨x, hx, hxp⟩
        rw [List.mem_singleton.1 hx] at hxp
        omega
      | cons t2 ts =>
        rw [List.flatMap_cons] at h5
        have h6 : At l (i + (kT t).length + 1) (kT t2 ++ ts.flatMap (fun t => 124 :: kT t)) r := At.cons (x := 124) (by simpa using h5)
        have hn : nx l (i + (kT t).length) = 124 := At.hd (x := 124) (u := kT t2 ++ ts.flatMap (fun t => 124 :: kT t)) (r := r) (by simpa using h5)
        rw [szL] at hnd
        have hrest := alt_loop (D := D) ts t2 m (i + (kT t).length + 1) (nd + szT t) r (ks ++ [nrT t]) (hts t2 (by simp)) (fun x hx => hts x (List.mem_cons_of_mem _ hx)) h6 hr (by omega) (by omega)
        rw [if_pos hn]
        constructor
        · intro hall
          rw [hrest.1 (fun x hx => hall x (List.mem_cons_of_mem _ hx))]
          simp only [nrL, szL, List.flatMap_cons, List.length_append, List.length_cons, List.append_assoc, List.cons_append, List.nil_append]
          congr 1 <;> omega
        · rintro ⟨x, hx, hxp⟩
          rcases List.mem_cons.1 hx with rfl | hx
          · omega
          · exact hrest.2 ⟨x, hx, hxp⟩
    · obtain ⟨j, hj⟩ := hC'.2 (by omega)
      rw [hstep, hj]
      constructor
      · intro hall
        exact absurd (hall t (by simp)) hp
      · intro _
        exact ⟨j, rfl⟩
theorem joinN_one {k : Int} {t : RT} {i nd : Nat} : joinN k [t] i nd = .ok (t, i, nd) := rfl
theorem joinN_more {k : Int} {ks : List RT} {i nd : Nat} (h : 2 ≤ ks.length) (hnd : nd + 1 ≤ 512) : joinN k ks i nd = .ok (.nd k (0#256) ks 0 0, i, nd + 1) := by
  match ks, h with
  | a :: b :: ks, _ => exact mkN_fit hnd
/-- One that isn't an Alt, where nothing is around it but parentheses. -/
theorem ec_of_cc {t : RT} (hC : CC t) (hk : kT t = wrT t) (hp : pK t = pdT t) : EC t := by
  intro l D i nd r h hr hnd
  cases D with
  | zero => exact ⟨fun h => absurd h (by omega), fun _ => ⟨i, rfl⟩⟩
  | succ D =>
    have h1 := alt_loop (l := l) (D := D) [] t (l.length + 1) i nd r [] hC (fun x hx => by cases hx) (by simpa [hk] using h) hr (by simpa [szL] using hnd) (by omega)
    simp only [List.flatMap_nil, List.append_nil, szL, Nat.add_zero, nrL, List.nil_append, List.mem_singleton, forall_eq, exists_eq_left, hk, hp] at h1
    exact ⟨fun hd => h1.1 (by omega), fun hd => h1.2 (by omega)⟩
/-- One in parentheses. -/
theorem rc_of_ec {t : RT} (hE : EC t) (hc : clo t.k 3 = true) : RC t := by
  intro l D i nd r h hnd
  have hr : rT t = 40 :: (wrT t ++ [41]) := by unfold rT; rw [if_pos hc]
  have hp : pR t = pdT t + 1 := by unfold pR; rw [if_pos hc]
  rw [hr] at h ⊢
  rw [hp]
  have hE' := hE l D (i + 1) nd _ h.cons.app (.inr rfl) hnd
  have h41 : nx l (i + 1 + (wrT t).length) = 41 := h.cons.next.hd
  have hn : nx l i = 40 := h.hd
  constructor
  · intro hd
    refine ⟨l.length + 1, by omega, ?_⟩
    unfold pRep pOne
    rw [if_pos hn, hE'.1 (by omega)]
    simp only
    rw [if_pos h41]
    simp only [List.length_cons, List.length_append, List.length_nil]
    rw [show i + 1 + (wrT t).length + 1 = i + ((wrT t).length + (0 + 1) + 1) by omega]
  · intro hd
    obtain ⟨j, hj⟩ := hE'.2 (by omega)
    refine ⟨j, ?_⟩
    unfold pRep pOne
    rw [if_pos hn, hj]
/-- All of them. -/
theorem back_all : ∀ t, wgT t = 0 → RC t ∧ CC t ∧ EC t := by
  refine RT.ind fun k s ks lo hi ih hw => ?_
  obtain ⟨hc, hk⟩ := wgT_nd hw
  rcases ck1_kinds hc with ⟨rfl, rfl⟩ | ⟨rfl, rfl, h⟩ | ⟨rfl, h⟩ | ⟨rfl, h⟩ | ⟨rfl, x, rfl, h1, h2, h3, h4⟩
  · have hC : CC (.nd 1 s [] lo hi) := by
      intro l D i nd r h hr hnd
      have e : kT (.nd 1 s [] lo hi) = [] := by
        have : kT (.nd 1 s [] lo hi) = wrT (.nd 1 s [] lo hi) := rfl
        rw [this, wrT, wrKs]
        rfl
      rw [e] at h ⊢
      have ep : pK (.nd 1 s [] lo hi) = 0 := by
        have : pK (.nd 1 s [] lo hi) = pdT (.nd 1 s [] lo hi) := rfl
        rw [this, pdT, pdL]
      rw [ep]
      rw [szT, szL] at hnd ⊢
      refine ⟨fun _ => ?_, fun h => absurd h (by omega)⟩
      rw [pCatL_halt (shut_end h hr) (by omega)]
      simp only [List.isEmpty_nil, if_true]
      rw [mkN_fit (by omega), nrT, nrL]
      rfl
    have hE := ec_of_cc hC rfl rfl
    exact ⟨rc_of_ec hE rfl, hC, hE⟩
  · have hR : RC (.nd 2 s [] lo hi) := by
      intro l D i nd r h' hnd
      have e : rT (.nd 2 s [] lo hi) = textL s := by
        have : rT (.nd 2 s [] lo hi) = wrT (.nd 2 s [] lo hi) := rfl
        rw [this, wrT, wrKs]
        simp
      rw [e] at h' ⊢
      have ep : pR (.nd 2 s [] lo hi) = 0 := by
        have : pR (.nd 2 s [] lo hi) = pdT (.nd 2 s [] lo hi) := rfl
        rw [this, pdT, pdL]
      rw [ep]
      rw [szT, szL] at hnd ⊢
      refine ⟨fun _ => ⟨l.length + 1, by omega, ?_⟩, fun h => absurd h (by omega)⟩
      have hp := pSet_text h h'
      have hh := pSet_head hp
      unfold pRep pOne
      rw [if_neg hh.2.2.2, hp]
      simp only
      rw [mkN_fit (by omega), nrT, nrL]
      rfl
    have hC := cc_of_rc hR hw rfl rfl
    exact ⟨hR, hC, ec_of_cc hC rfl rfl⟩
  · have hC : CC (.nd 3 s ks lo hi) := by
      intro l D i nd r h' hr hnd
      have e : kT (.nd 3 s ks lo hi) = ks.flatMap rT := by
        have : kT (.nd 3 s ks lo hi) = wrT (.nd 3 s ks lo hi) := rfl
        rw [this, wrT, wrKs_cat (.inl rfl)]
        simp
      rw [e] at h' ⊢
      have ep : pK (.nd 3 s ks lo hi) = pdL 3 ks := by
        have : pK (.nd 3 s ks lo hi) = pdT (.nd 3 s ks lo hi) := rfl
        rw [this, pdT]
      rw [ep]
      rw [szT] at hnd ⊢
      have h1 := cat_loop (l := l) (D := D) ks (l.length + 1) i nd r [] (fun t ht => ⟨(ih t ht (hk t ht)).1, hk t ht⟩) h' hr (by omega) (by omega)
      have hlen := h'.len
      constructor
      · intro hd
        obtain ⟨m', h2, h3⟩ := h1.1 ((pdL_cat (.inl rfl) ks).1 hd)
        rw [h3, pCatL_halt (shut_end h'.tail hr) (by omega)]
        have hl2 : 2 ≤ (nrL ks).length := by rw [nrL_map, List.length_map]; exact h
        rw [List.nil_append, if_neg (by cases e2 : nrL ks with
          | nil => rw [e2] at hl2; simp at hl2
          | cons a b => simp), joinN_more hl2 (by omega), nrT]
        rw [show nd + szL ks + 1 = nd + (1 + szL ks) by omega]
        rfl
      · intro hd
        refine h1.2 ?_
        apply Classical.byContradiction
        intro hn
        have : pdL 3 ks ≤ D := (pdL_cat (.inl rfl) ks).2 fun t ht => by
          apply Classical.byContradiction
          intro h5
          exact hn ⟨t, ht, by omega⟩
        omega
    have hE := ec_of_cc hC rfl rfl
    exact ⟨rc_of_ec hE rfl, hC, hE⟩
  · have hE : EC (.nd 4 s ks lo hi) := by
      intro l D i nd r h' hr hnd
      obtain ⟨t, ts, rfl⟩ : ∃ t ts, ks = t :: ts := by
        cases ks with
        | nil => simp at h
        | cons t ts => exact ⟨t, ts, rfl⟩
      have e : wrT (.nd 4 s (t :: ts) lo hi) = kT t ++ ts.flatMap (fun t => 124 :: kT t) := by
        rw [wrT, wrKs_alt1]
        simp
      rw [e] at h' ⊢
      rw [szT, szL] at hnd ⊢
      rw [pdT]
      cases D with
      | zero => exact ⟨fun h => absurd h (by omega), fun _ => ⟨i, rfl⟩⟩
      | succ D =>
        have h1 := alt_loop (l := l) (D := D) ts t (l.length + 1) i nd r [] (ih t (by simp) (hk t (by simp))).2.1 (fun x hx => (ih x (List.mem_cons_of_mem _ hx) (hk x (List.mem_cons_of_mem _ hx))).2.1) h' hr (by omega) (by omega)
        constructor
        · intro hd
          have h2 := h1.1 ((pdL_alt (t :: ts)).1 (by omega))
          have h3 : pEither l (D + 1) i nd = pEithL l (pEither l D) (l.length + 1) [] i nd := rfl
          rw [h3, h2, List.nil_append, joinN_more (by rw [nrL_map, List.length_map]; exact h) (by omega), nrT]
          rw [show nd + szT t + szL ts + 1 = nd + (1 + (szT t + szL ts)) by omega]
          rfl
        · intro hd
          have h3 : pEither l (D + 1) i nd = pEithL l (pEither l D) (l.length + 1) [] i nd := rfl
          rw [h3]
          refine h1.2 ?_
          apply Classical.byContradiction
          intro hn
          have : pdL 4 (t :: ts) ≤ D := (pdL_alt (t :: ts)).2 fun x hx => by
            apply Classical.byContradiction
            intro h5
            exact hn ⟨x, hx, by omega⟩
          omega
    have hR := rc_of_ec hE rfl
    exact ⟨hR, cc_of_rc hR hw rfl rfl, hE⟩
  · have hR : RC (.nd 5 s [x] lo hi) := by
      intro l D i nd r h' hnd
      have e : rT (.nd 5 s [x] lo hi) = rT x ++ oftT lo hi := by
        have : rT (.nd 5 s [x] lo hi) = wrT (.nd 5 s [x] lo hi) := rfl
        rw [this, wrT, wrKs_cat (.inr rfl)]
        simp
      rw [e] at h' ⊢
      have ep : pR (.nd 5 s [x] lo hi) = pR x := by
        have : pR (.nd 5 s [x] lo hi) = pdT (.nd 5 s [x] lo hi) := rfl
        rw [this, pdT, pdL, pdL]
        show max (pR x) 0 = pR x
        omega
      rw [ep]
      rw [szT, szL, szL] at hnd ⊢
      have hx := (ih x (by simp) (hk x (by simp))).1 l D i nd _ h'.app (by omega)
      refine ⟨fun hd => ?_, hx.2⟩
      obtain ⟨m, h5, h6⟩ := hx.1 hd
      obtain ⟨y, u, e2, h7⟩ := oftT_head lo hi
      have h8 := h'.next
      have hn : isRep (nx l (i + (rT x).length)) = true := by
        have h9 := h8
        rw [e2] at h9
        rw [h9.hd]
        exact h7
      obtain ⟨q, hq, h9⟩ := pTimes_text h1 h2 h3 h4 h8
      have hlen := h'.len
      have hpos : 0 < (oftT lo hi).length := by rw [e2]; simp
      simp only [List.length_append] at hlen
      refine ⟨m - 1, ?_, ?_⟩
      · rw [List.length_append]; omega
      · rw [h6, pRepL_more hn (by omega) h9 (by omega), nrT, nrL, nrL, hq, List.length_append, if_neg (by decide : ¬ (5 : Int) = 2), if_pos rfl, if_pos rfl]
        rw [show nd + szT x + 1 = nd + (1 + (szT x + 0)) by omega, Nat.add_assoc]
    have hC := cc_of_rc hR hw rfl rfl
    exact ⟨hR, hC, ec_of_cc hC rfl rfl⟩
theorem pd_dp : ∀ t, pdT t < dpT t := by
  refine RT.ind fun k s ks lo hi ih => ?_
  rw [pdT, dpT]
  have : pdL k ks ≤ dpL ks := by
    clear s lo hi
    induction ks with
    | nil => simp [pdL, dpL]
    | cons t ts ih2 =>
      rw [pdL, dpL]
      have h1 := ih t (by simp)
      have h2 := ih2 (fun x hx => ih x (List.mem_cons_of_mem _ hx))
      split <;> omega
  omega
/-- An expression's text is read as it, or is too deep. -/
theorem parse_text {t : RT} (hw : wgT t = 0) (hs : szT t ≤ 512) (hl : (wrT t).length ≤ 512) :
    (pdT t ≤ 32 → pParse (wrT t) = .ok (nrT t)) ∧ (32 < pdT t → ∃ j, pParse (wrT t) = .error (6, j)) := by
  have h := (back_all t hw).2.2 (wrT t) 33 0 0 [] ⟨by omega, by simp⟩ (.inl rfl) (by omega)
  unfold pParse
  rw [if_neg (by omega)]
  constructor
  · intro hd
    rw [h.1 (by omega)]
    simp
  · intro hd
    obtain ⟨j, hj⟩ := h.2 (by omega)
    exact ⟨j, by rw [hj]⟩
end Go.Proofs.YtoiegkejkahfgaaDoor

/- regex: checked with a count, compared; what is read may be: plain mathematics. -/
namespace Go.Proofs.YtoiegkejkahfgaaDoor

mutual
/-- Check's answer, and the count behind it. -/
def ckT : RT → Nat → Nat × Nat
  | .nd k s ks lo hi, c => if 512 < c + 1 then (2, c + 1) else if ck1 (.nd k s ks lo hi) ≠ 0 then (ck1 (.nd k s ks lo hi), c + 1) else ckL ks (c + 1)
def ckL : List RT → Nat → Nat × Nat
  | [], c => (0, c)
  | t :: ts, c => if (ckT t c).1 ≠ 0 then ckT t c else ckL ts (ckT t c).2
end
theorem ck_sz : ∀ t c, c + szT t ≤ 512 → (ckT t c).1 = wgT t ∧ (wgT t = 0 → (ckT t c).2 = c + szT t) := by
  refine RT.ind fun k s ks lo hi ih => ?_
  intro c hc
  rw [szT] at hc
  rw [ckT, wgT, szT, if_neg (by omega)]
  by_cases h1 : ck1 (.nd k s ks lo hi) = 0
  · rw [if_neg (by omega), if_neg (by omega)]
    have key : ∀ (ks : List RT), (∀ t ∈ ks, ∀ c, c + szT t ≤ 512 → (ckT t c).1 = wgT t ∧ (wgT t = 0 → (ckT t c).2 = c + szT t)) → ∀ c, c + szL ks ≤ 512 → (ckL ks c).1 = wgL ks ∧ (wgL ks = 0 → (ckL ks c).2 = c + szL ks) := by
      intro ks
      induction ks with
      | nil => intro _ c _; exact ⟨by rw [ckL, wgL], fun _ => by rw [ckL, szL]; rfl⟩
      | cons t ts ih2 =>
        intro ih c hc
        rw [szL] at hc
        obtain ⟨h2, h3⟩ := ih t (by simp) c (by omega)
        rw [ckL, wgL, szL, h2]
        by_cases h4 : wgT t = 0
        · rw [if_neg (by omega), if_neg (by omega), h3 h4]
          have h5 := ih2 (fun x hx => ih x (List.mem_cons_of_mem _ hx)) (c + szT t) (by omega)
          exact ⟨h5.1, fun h6 => by rw [h5.2 h6]; omega⟩
        · rw [if_pos h4, if_pos h4]
          exact ⟨h2, fun h => absurd h h4⟩
    have h2 := key ks ih (c + 1) (by omega)
    exact ⟨h2.1, fun h3 => by rw [h2.2 h3]; omega⟩
  · rw [if_pos h1, if_pos h1]
    exact ⟨rfl, fun h => absurd h h1⟩
mutual
/-- Is it of so few parts? And how many are left. -/
def fwT : RT → Int → Bool × Int
  | .nd _ _ ks _ _, n => if n - 1 < 0 ∨ 100 < ks.length then (false, n - 1) else fwL ks (n - 1)
def fwL : List RT → Int → Bool × Int
  | [], n => (true, n)
  | t :: ts, n => if (fwT t n).1 = true then fwL ts (fwT t n).2 else (false, (fwT t n).2)
end
theorem fw_sz : ∀ t n, (fwT t n).1 = true → (szT t : Int) ≤ n ∧ (fwT t n).2 = n - szT t := by
  refine RT.ind fun k s ks lo hi ih => ?_
  intro n h
  rw [fwT] at h ⊢
  rw [szT]
  by_cases h1 : n - 1 < 0 ∨ 100 < ks.length
  · rw [if_pos h1] at h; cases h
  · rw [if_neg h1] at h ⊢
    have key : ∀ (ks : List RT), (∀ t ∈ ks, ∀ n, (fwT t n).1 = true → (szT t : Int) ≤ n ∧ (fwT t n).2 = n - szT t) → ∀ n, 0 ≤ n → (fwL ks n).1 = true → (szL ks : Int) ≤ n ∧ (fwL ks n).2 = n - szL ks := by
      intro ks
      induction ks with
      | nil => intro _ n h0 _; rw [szL, fwL]; exact ⟨by simpa using h0, by simp⟩
      | cons t ts ih2 =>
        intro ih n h0 h
        rw [fwL] at h ⊢
        rw [szL]
        by_cases h2 : (fwT t n).1 = true
        · rw [if_pos h2] at h ⊢
          obtain ⟨h3, h4⟩ := ih t (by simp) n h2
          rw [h4] at h ⊢
          obtain ⟨h5, h6⟩ := ih2 (fun x hx => ih x (List.mem_cons_of_mem _ hx)) _ (by omega) h
          rw [h6]
          omega
        · rw [if_neg h2] at h; cases h
    obtain ⟨h2, h3⟩ := key ks ih (n - 1) (by omega) h
    rw [h3]
    omega
mutual
/-- Are two the same? -/
def smT : RT → RT → Bool
  | .nd k s ks lo hi, .nd k' s' ks' lo' hi' => if k ≠ k' then false else if k = 2 then decide (s = s') else if k = 3 ∨ k = 4 then smL ks ks' else if k = 5 then decide (lo = lo') && (decide ((if hi < -1 then -1 else hi) = (if hi' < -1 then -1 else hi')) && smL ks ks') else true
def smL : List RT → List RT → Bool
  | [], [] => true
  | a :: xs, b :: ys => smT a b && smL xs ys
  | [], _ :: _ => false
  | _ :: _, [] => false
end
theorem sm_refl : ∀ t, smT t t = true := by
  refine RT.ind fun k s ks lo hi ih => ?_
  have key : smL ks ks = true := by
    induction ks with
    | nil => rw [smL]
    | cons t ts ih2 => rw [smL, ih t (by simp), ih2 (fun x hx => ih x (List.mem_cons_of_mem _ hx))]; rfl
  rw [smT]
  rw [if_neg (by simp)]
  by_cases h2 : k = 2
  · rw [if_pos h2]; simp
  · rw [if_neg h2]
    by_cases h3 : k = 3 ∨ k = 4
    · rw [if_pos h3]; exact key
    · rw [if_neg h3]
      by_cases h5 : k = 5
      · rw [if_pos h5, key]; simp
      · rw [if_neg h5]
theorem sm_nr : ∀ t, smT t (nrT t) = true := by
  refine RT.ind fun k s ks lo hi ih => ?_
  have key : smL ks (nrL ks) = true := by
    induction ks with
    | nil => rw [nrL, smL]
    | cons t ts ih2 => rw [nrL, smL, ih t (by simp), ih2 (fun x hx => ih x (List.mem_cons_of_mem _ hx))]; rfl
  rw [nrT, smT, if_neg (by simp)]
  by_cases h2 : k = 2
  · rw [if_pos h2, if_pos h2]; simp
  · rw [if_neg h2]
    by_cases h3 : k = 3 ∨ k = 4
    · rw [if_pos h3]; exact key
    · rw [if_neg h3]
      by_cases h5 : k = 5
      · rw [if_pos h5, if_pos h5, if_pos h5, key]
        simp only [decide_true, Bool.true_and, Bool.and_true, decide_eq_true_eq]
        by_cases c1 : hi < -1
        · have c2 : hi < 0 := by omega
          simp [c1, c2]
        · rw [if_neg c1]
          by_cases c2 : hi < 0
          · rw [if_pos c2]; simp; omega
          · rw [if_neg c2, if_neg c1]
      · rw [if_neg h5]
theorem nr_k (t : RT) : (nrT t).k = t.k := by cases t; rfl
theorem wr_nr : ∀ t, wrT (nrT t) = wrT t := by
  refine RT.ind fun k s ks lo hi ih => ?_
  have key : ∀ b, wrKs k b (nrL ks) = wrKs k b ks := by
    induction ks with
    | nil => intro b; rw [nrL]
    | cons t ts ih2 =>
      intro b
      rw [nrL, wrKs, wrKs, nr_k, ih t (by simp), ih2 (fun x hx => ih x (List.mem_cons_of_mem _ hx))]
  rw [nrT, wrT, wrT, key]
  by_cases h2 : k = 2
  · rw [if_pos h2, if_pos h2, if_pos h2, if_neg (by omega), if_neg (by omega)]
  · rw [if_neg h2, if_neg h2]
    by_cases h5 : k = 5
    · rw [if_pos h5, if_pos h5, if_pos h5, if_pos h5]
      have : oftT lo (if hi < 0 then -1 else hi) = oftT lo hi := by
        by_cases hh : hi < 0
        · rw [if_pos hh]
          unfold oftT
          have h1 : ¬ hi = 1 := by omega
          simp [hh, h1]
        · rw [if_neg hh]
      rw [this]
    · rw [if_neg h5, if_neg h5]
theorem nrL_len (ts : List RT) : (nrL ts).length = ts.length := by rw [nrL_map, List.length_map]

/-! What is read may be, and is told without what has no meaning. -/
structure Fine (t : RT) : Prop where
  wg : wgT t = 0
  nr : nrT t = t
theorem wgL_all {ts : List RT} (h : ∀ t ∈ ts, wgT t = 0) : wgL ts = 0 := by
  induction ts with
  | nil => rw [wgL]
  | cons t ts ih => rw [wgL, if_neg (by rw [h t (by simp)]; simp), ih (fun x hx => h x (List.mem_cons_of_mem _ hx))]
theorem nrL_all {ts : List RT} (h : ∀ t ∈ ts, nrT t = t) : nrL ts = ts := by
  induction ts with
  | nil => rw [nrL]
  | cons t ts ih => rw [nrL, h t (by simp), ih (fun x hx => h x (List.mem_cons_of_mem _ hx))]
theorem fine_nothing : Fine (.nd 1 (0#256) [] 0 0) := ⟨by rw [wgT, wgL]; rfl, by rw [nrT, nrL]; rfl⟩
theorem fine_one {s : BS} (h : s ≠ 0#256) : Fine (.nd 2 s [] 0 0) := by
  have hc : ck1 (.nd 2 s [] 0 0) = 0 := by
    unfold ck1 ckF fmB
    simp [h]
  exact ⟨by rw [wgT, hc, wgL]; rfl, by rw [nrT, nrL]; rfl⟩
theorem fine_many {k : Int} {ts : List RT} (hk : k = 3 ∨ k = 4) (h : ∀ t ∈ ts, Fine t) (h2 : 2 ≤ ts.length) : Fine (.nd k (0#256) ts 0 0) := by
  have hc : ck1 (.nd k (0#256) ts 0 0) = 0 := by
    unfold ck1 ckF fmB
    rcases hk with rfl | rfl <;> simp [h2]
  refine ⟨by rw [wgT, hc, wgL_all (fun t ht => (h t ht).wg)]; rfl, ?_⟩
  rw [nrT, nrL_all (fun t ht => (h t ht).nr), if_neg (by omega), if_neg (by omega), if_neg (by omega)]
theorem fine_rep {t : RT} {lo : Nat} {hi : Int} (h : Fine t) (h1 : lo ≤ 256) (h2 : -1 ≤ hi) (h3 : hi ≤ 256) (h4 : 0 ≤ hi → (lo : Int) ≤ hi) : Fine (.nd 5 (0#256) [t] lo hi) := by
  have hc : ck1 (.nd 5 (0#256) [t] lo hi) = 0 := by
    unfold ck1 ckF fmB
    simp
    omega
  refine ⟨by rw [wgT, hc, wgL_all (fun x hx => by rw [List.mem_singleton.1 hx]; exact h.wg)]; rfl, ?_⟩
  rw [nrT, nrL_all (fun x hx => by rw [List.mem_singleton.1 hx]; exact h.nr), if_neg (by decide), if_pos rfl, if_pos rfl]
  split
  · rw [show hi = -1 by omega]
  · rfl
theorem pSet_ne {l : List UInt8} {i : Nat} {s : BS} {j : Nat} (h : pSet l i = .ok (s, j)) : s ≠ 0#256 := by
  unfold pSet at h
  split at h
  · simp only [Except.ok.injEq, Prod.mk.injEq] at h
    rw [← h.1]
    decide
  · split at h
    · unfold pBr at h
      split at h
      · cases h
      · rename_i s' m hm
        generalize (if nx l (i + 1) = 94 then ~~~s' else s') = s2 at h
        by_cases h2 : s2 = 0#256
        · rw [if_pos h2] at h; cases h
        · rw [if_neg h2] at h
          simp only [Except.ok.injEq, Prod.mk.injEq] at h
          rw [← h.1]
          exact h2
    · split at h
      · cases h
      · rename_i c m hm
        have h1 := pChar_lt hm
        simp only [Except.ok.injEq, Prod.mk.injEq] at h
        rw [← h.1]
        intro e
        have := has_bit c c h1.2.2
        rw [e, has_zero] at this
        simp at this
theorem pRw (t : RT) : pdT t ≤ pK t ∧ pK t ≤ pR t ∧ pR t ≤ pdT t + 1 := by
  unfold pK pR clo
  by_cases h4 : t.k = 4
  · simp [h4]
  · by_cases h31 : t.k = 3 ∨ t.k = 1
    · simp [h4, h31]
    · simp [h4, h31]
/-- What either answers where so many parentheses may still be opened. -/
def EFine (l : List UInt8) (d : Nat) : Prop := ∀ i nd t j nd', nd ≤ 512 → pEither l d i nd = .ok (t, j, nd') → Fine t ∧ nd' = nd + szT t ∧ nd' ≤ 512 ∧ pdT t < d
theorem mkN_e {t t' : RT} {i nd j m : Nat} (h : mkN t i nd = .ok (t', j, m)) : t' = t ∧ m = nd + 1 ∧ m ≤ 512 := by
  obtain ⟨h1, _, h3, h4⟩ := mkN_ok h
  exact ⟨h1, h3, by omega⟩
theorem joinN_e {k : Int} {ks : List RT} {i nd : Nat} {t : RT} {j m : Nat} (h : joinN k ks i nd = .ok (t, j, m)) (hne : ks ≠ []) (hnd : nd ≤ 512) : (ks = [t] ∧ m = nd) ∨ (2 ≤ ks.length ∧ t = .nd k (0#256) ks 0 0 ∧ m = nd + 1 ∧ m ≤ 512) := by
  match ks, hne, h with
  | [x], _, h =>
    unfold joinN at h
    simp only [Except.ok.injEq, Prod.mk.injEq] at h
    exact .inl ⟨by rw [h.1], h.2.2.symm⟩
  | a :: b :: ks, _, h =>
    have := mkN_e (t := .nd k (0#256) (a :: b :: ks) 0 0) h
    exact .inr ⟨by simp, this.1, this.2.1, this.2.2⟩
theorem pOne_fine {l : List UInt8} {d : Nat} (hE : EFine l d) {i nd : Nat} {t : RT} {j nd' : Nat} (hnd : nd ≤ 512) (h : pOne l (pEither l d) i nd = .ok (t, j, nd')) : Fine t ∧ nd' = nd + szT t ∧ nd' ≤ 512 ∧ pR t ≤ d := by
  unfold pOne at h
  split at h
  · split at h
    · cases h
    · rename_i t' j' m he
      split at h
      · simp only [Except.ok.injEq, Prod.mk.injEq] at h
        obtain ⟨h1, h2, h3⟩ := h
        subst h1 h3
        obtain ⟨a, b, c, e⟩ := hE _ _ _ _ _ hnd he
        have := pRw t'
        exact ⟨a, b, c, by omega⟩
      · cases h
  · split at h
    · cases h
    · rename_i s j' hs
      obtain ⟨rfl, h2, h3⟩ := mkN_e h
      refine ⟨fine_one (pSet_ne hs), by rw [szT, szL]; omega, h3, ?_⟩
      have : pR (.nd 2 s [] 0 0) = pdT (.nd 2 s [] 0 0) := rfl
      rw [this, pdT, pdL]
      omega
theorem pRepL_fine {l : List UInt8} {d : Nat} : ∀ (m : Nat) (t : RT) (i nd : Nat) (t' : RT) (j nd' : Nat), Fine t → pR t ≤ d → nd ≤ 512 → pRepL l m t i nd = .ok (t', j, nd') → Fine t' ∧ nd' + szT t = nd + szT t' ∧ nd' ≤ 512 ∧ pR t' ≤ d
  | 0, _, _, _, _, _, _, _, _, _, h => by cases h
  | m + 1, t, i, nd, t', j, nd', ht, hp, hnd, h => by
    unfold pRepL at h
    split at h
    · split at h
      · cases h
      · rename_i lo hi k hti
        split at h
        · cases h
        · rename_i t2 k2 nd2 hmk
          obtain ⟨rfl, h2, h3⟩ := mkN_e hmk
          obtain ⟨h4, h5, h6, h7, h8, h9⟩ := pTimes_lt hti
          have hp2 : pR (.nd 5 (0#256) [t] lo hi) = pR t := by
            have : pR (.nd 5 (0#256) [t] lo hi) = pdT (.nd 5 (0#256) [t] lo hi) := rfl
            rw [this, pdT, pdL, pdL]
            show max (pR t) 0 = pR t
            omega
          have hr := pRepL_fine m _ _ _ _ _ _ (fine_rep ht h6 h7 h8 h9) (by rw [hp2]; exact hp) h3 h
          rw [szT, szL, szL] at hr
          exact ⟨hr.1, by omega, hr.2.2.1, hr.2.2.2⟩
    · simp only [Except.ok.injEq, Prod.mk.injEq] at h
      obtain ⟨h1, h2, h3⟩ := h
      subst h1 h3
      exact ⟨ht, rfl, hnd, hp⟩
theorem pRep_fine {l : List UInt8} {d : Nat} (hE : EFine l d) {i nd : Nat} {t : RT} {j nd' : Nat} (hnd : nd ≤ 512) (h : pRep l (pEither l d) i nd = .ok (t, j, nd')) : Fine t ∧ nd' = nd + szT t ∧ nd' ≤ 512 ∧ pR t ≤ d := by
  unfold pRep at h
  split at h
  · cases h
  · rename_i t1 j1 nd1 h1
    obtain ⟨a, b, c, e⟩ := pOne_fine hE hnd h1
    obtain ⟨a', b', c', e'⟩ := pRepL_fine _ _ _ _ _ _ _ a e c h
    exact ⟨a', by omega, c', e'⟩
theorem szL_snoc (ts : List RT) (t : RT) : szL (ts ++ [t]) = szL ts + szT t := by
  induction ts with
  | nil => rw [List.nil_append, szL, szL, szL]; omega
  | cons x ts ih => rw [List.cons_append, szL, szL, ih]; omega
theorem pCatL_fine {l : List UInt8} {d : Nat} (hE : EFine l d) : ∀ (m : Nat) (ks : List RT) (i nd : Nat) (t : RT) (j nd' n0 : Nat), (∀ x ∈ ks, Fine x ∧ pR x ≤ d) → nd ≤ 512 → nd = n0 + szL ks → pCatL l (pEither l d) m ks i nd = .ok (t, j, nd') → Fine t ∧ nd' = n0 + szT t ∧ nd' ≤ 512 ∧ pK t ≤ d
  | 0, _, _, _, _, _, _, _, _, _, _, h => by cases h
  | m + 1, ks, i, nd, t, j, nd', n0, hks, hnd, hn0, h => by
    unfold pCatL at h
    split at h
    · split at h
      · cases h
      · rename_i t1 j1 nd1 h1
        obtain ⟨a, b, c, e⟩ := pRep_fine hE hnd h1
        refine pCatL_fine hE m (ks ++ [t1]) j1 nd1 t j nd' n0 ?_ c ?_ h
        · intro x hx
          rcases List.mem_append.1 hx with hx | hx
          · exact hks x hx
          · rw [List.mem_singleton.1 hx]; exact ⟨a, e⟩
        · rw [szL_snoc]; omega
    · split at h
      · rename_i hemp
        obtain ⟨rfl, h2, h3⟩ := mkN_e h
        have : ks = [] := by simpa using hemp
        rw [this, szL] at hn0
        refine ⟨fine_nothing, by rw [szT, szL]; omega, h3, ?_⟩
        have : pK (.nd 1 (0#256) [] 0 0) = pdT (.nd 1 (0#256) [] 0 0) := rfl
        rw [this, pdT, pdL]
        omega
      · rename_i hemp
        rcases joinN_e h (by intro e; rw [e] at hemp; exact hemp rfl) hnd with ⟨h1, h2⟩ | ⟨h1, h2, h3, h4⟩
        · have ht := hks t (by rw [h1]; simp)
          have := pRw t
          rw [h1, szL, szL] at hn0
          exact ⟨ht.1, by omega, by omega, by omega⟩
        · subst h2
          refine ⟨fine_many (.inl rfl) (fun x hx => (hks x hx).1) h1, by rw [szT]; omega, h4, ?_⟩
          have : pK (.nd 3 (0#256) ks 0 0) = pdT (.nd 3 (0#256) ks 0 0) := rfl
          rw [this, pdT]
          exact (pdL_cat (.inl rfl) ks).2 fun x hx => (hks x hx).2
theorem pEithL_fine {l : List UInt8} {d : Nat} (hE : EFine l d) : ∀ (m : Nat) (ks : List RT) (i nd : Nat) (t : RT) (j nd' n0 : Nat), (∀ x ∈ ks, Fine x ∧ pK x ≤ d) → nd ≤ 512 → nd = n0 + szL ks → pEithL l (pEither l d) m ks i nd = .ok (t, j, nd') → Fine t ∧ nd' = n0 + szT t ∧ nd' ≤ 512 ∧ pdT t ≤ d
  | 0, _, _, _, _, _, _, _, _, _, _, h => by cases h
  | m + 1, ks, i, nd, t, j, nd', n0, hks, hnd, hn0, h => by
    unfold pEithL at h
    split at h
    · cases h
    · rename_i t1 j1 nd1 h1
      obtain ⟨a, b, c, e⟩ := pCatL_fine hE _ _ _ _ _ _ _ nd (fun x hx => by cases hx) hnd (by rw [szL]; rfl) h1
      have hks' : ∀ x ∈ ks ++ [t1], Fine x ∧ pK x ≤ d := by
        intro x hx
        rcases List.mem_append.1 hx with hx | hx
        · exact hks x hx
        · rw [List.mem_singleton.1 hx]; exact ⟨a, e⟩
      have hn1 : nd1 = n0 + szL (ks ++ [t1]) := by rw [szL_snoc]; omega
      split at h
      · exact pEithL_fine hE m _ _ _ t j nd' n0 hks' c hn1 h
      · generalize hL : ks ++ [t1] = L at h hks' hn1
        rcases joinN_e h (by intro e; rw [e] at hL; simp at hL) c with ⟨h1, h2⟩ | ⟨h1, h2, h3, h4⟩
        · have ht := hks' t (by rw [h1]; simp)
          have := pRw t
          rw [h1, szL, szL] at hn1
          exact ⟨ht.1, by omega, by omega, by omega⟩
        · subst h2
          refine ⟨fine_many (.inr rfl) (fun x hx => (hks' x hx).1) h1, by rw [szT]; omega, h4, ?_⟩
          rw [pdT]
          exact (pdL_alt L).2 fun x hx => (hks' x hx).2
theorem pEither_fine (l : List UInt8) : ∀ d, EFine l d
  | 0 => fun i nd t j nd' _ h => by cases h
  | d + 1 => fun i nd t j nd' hnd h => by
    have h1 := pEithL_fine (pEither_fine l d) _ _ _ _ _ _ _ nd (fun x hx => by cases hx) hnd (by rw [szL]; rfl) (show pEithL l (pEither l d) (l.length + 1) [] i nd = .ok (t, j, nd') from h)
    exact ⟨h1.1, h1.2.1, h1.2.2.1, by omega⟩
/-- What is read may be. -/
theorem pParse_fine {l : List UInt8} {t : RT} (h : pParse l = .ok t) : Fine t ∧ szT t ≤ 512 ∧ pdT t ≤ 32 ∧ l.length ≤ 512 := by
  unfold pParse at h
  split at h
  · cases h
  · rename_i hl
    split at h
    · cases h
    · rename_i t' i m he
      split at h
      · cases h
      · simp only [Except.ok.injEq] at h
        subst h
        obtain ⟨a, b, c, e⟩ := pEither_fine l 33 _ _ _ _ _ (by omega) he
        exact ⟨a, by omega, by omega, by omega⟩
end Go.Proofs.YtoiegkejkahfgaaDoor

/- regex: texts of one set: plain mathematics. -/
namespace Go.Proofs.YtoiegkejkahfgaaDoor

theorem nameL_le (c : Nat) : (nameL c).length ≤ 4 := by
  unfold nameL
  split <;> simp
theorem rep0 : isRep 0 = false := by decide +kernel
theorem nx_end {l : List UInt8} {i : Nat} (h : l.length ≤ i) : nx l i = 0 := by
  unfold nx
  rw [List.getD_eq_getElem?_getD, List.getElem?_eq_none h]
  rfl
/-- A text that is one set alone. -/
theorem parse_set {l : List UInt8} {a : BS} (h : pSet l 0 = .ok (a, l.length)) (hl : l.length ≤ 512) : pParse l = .ok (.nd 2 a [] 0 0) := by
  obtain ⟨h1, h2, h3, h4⟩ := pSet_head h
  have hlt := pSet_lt h
  have he := nx_end (l := l) (i := l.length) (Nat.le_refl _)
  have hone : pOne l (pEither l 32) 0 0 = .ok (.nd 2 a [] 0 0, l.length, 1) := by
    unfold pOne
    rw [if_neg h4, h]
    exact mkN_fit (by omega)
  have hrep : pRep l (pEither l 32) 0 0 = .ok (.nd 2 a [] 0 0, l.length, 1) := by
    unfold pRep
    rw [hone]
    exact pRepL_halt (by rw [he]; exact rep0) (by omega)
  have hcat : pCatL l (pEither l 32) (l.length + 1) [] 0 0 = .ok (.nd 2 a [] 0 0, l.length, 1) := by
    unfold pCatL
    rw [if_pos ⟨hlt.1, h2, h3⟩, hrep]
    show pCatL l (pEither l 32) l.length ([] ++ [.nd 2 a [] 0 0]) l.length 1 = _
    rw [pCatL_halt (by omega) (by omega)]
    rfl
  have heith : pEither l 33 0 0 = .ok (.nd 2 a [] 0 0, l.length, 1) := by
    show pEithL l (pEither l 32) (l.length + 1) [] 0 0 = _
    unfold pEithL
    rw [hcat]
    show (if nx l l.length = 124 then _ else _) = _
    rw [if_neg (by rw [he]; decide)]
    rfl
  unfold pParse
  rw [if_neg (by omega), heith]
  show (if l.length < l.length then _ else _) = _
  rw [if_neg (by omega)]
theorem parse_name (c : Nat) (hc : c < 256) : pParse (nameL c) = .ok (.nd 2 (bit c) [] 0 0) := by
  obtain ⟨x, t, e, _, _, h91, h46, _⟩ := name_head2 c hc
  have hat : At (nameL c) 0 (nameL c) [] := ⟨by omega, by simp⟩
  have hp := pChar_name hc hat
  have hn : nx (nameL c) 0 = x.toNat := by rw [e]; rfl
  have hlen := nameL_le c
  refine parse_set ?_ (by omega)
  unfold pSet
  rw [if_neg (by rw [hn]; exact u8_ne (by omega) h46), if_neg (by rw [hn]; exact u8_ne (by omega) h91), hp, Nat.zero_add]
theorem parse_textL {s : BS} (h0 : s ≠ 0#256) (hl : (textL s).length ≤ 512) : pParse (textL s) = .ok (.nd 2 s [] 0 0) := by
  have hat : At (textL s) 0 (textL s) [] := ⟨by omega, by simp⟩
  have hp := pSet_text h0 hat
  rw [Nat.zero_add] at hp
  exact parse_set hp hl
theorem textL_empty : textL (0#256) = [91, 93] := by kernel_rfl
theorem parse_empty : pParse [91, 93] = .error (160, 0) := by kernel_rfl
theorem rng_one (c : Nat) (hc : c < 256) : rng c c = bit c := by
  refine bs_has_ext fun x _ => ?_
  rw [has_rng _ _ _ hc hc, has_bit c x hc]
  rw [Bool.eq_iff_iff]
  simp
  omega
theorem not_bit_ne (c : Nat) (hc : c < 256) : ~~~(bit c) ≠ 0#256 := by
  intro e
  have h := has_not (bit c) (if c = 0 then 1 else 0)
  rw [e, has_zero, has_bit c _ hc] at h
  by_cases hz : c = 0
  · rw [if_pos hz, hz] at h; simp at h
  · rw [if_neg hz] at h
    simp at h
    omega
theorem parse_not (c : Nat) (hc : c < 256) : pParse ([91, 94] ++ nameL c ++ [93]) = .ok (.nd 2 (~~~(bit c)) [] 0 0) := by
  have hlen := nameL_le c
  have hl : ([91, 94] ++ nameL c ++ [93]).length = (nameL c).length + 3 := by simp
  have hat : At ([91, 94] ++ nameL c ++ [93]) 2 ([(c, c)].flatMap runT ++ [93]) [] := by
    refine ⟨by omega, ?_⟩
    simp [runT]
  have hb := pBrL_runs (b := 0) [(c, c)] (([91, 94] ++ nameL c ++ [93]).length + 1) 2 [] (0#256) (fun p hp => by
    rw [List.mem_singleton.1 hp]
    exact ⟨Nat.le_refl _, hc⟩) (by simp) hat
  have hn0 : nx ([91, 94] ++ nameL c ++ [93]) 0 = 91 := rfl
  have hn1 : nx ([91, 94] ++ nameL c ++ [93]) (0 + 1) = 94 := rfl
  refine parse_set ?_ (by omega)
  unfold pSet
  rw [if_neg (by rw [hn0]; decide), if_pos hn0]
  unfold pBr
  rw [if_pos hn1, hb]
  show (if (if nx ([91, 94] ++ nameL c ++ [93]) (0 + 1) = 94 then _ else _) = _ then _ else _) = _
  rw [if_pos hn1]
  have hs : List.foldl (fun s p => s ||| rng p.1 p.2) (0#256) [(c, c)] = bit c := by
    rw [List.foldl_cons, List.foldl_nil, rng_one c hc]
    simp
  rw [hs, if_neg (not_bit_ne c hc), hl]
  have : ([(c, c)].flatMap runT).length = (nameL c).length := by simp [runT]
  rw [this]
  simp only [Except.ok.injEq, Prod.mk.injEq, true_and]
  omega
end Go.Proofs.YtoiegkejkahfgaaDoor
