/- lex: tokens that are written anew are read as they were, and texts behind each other: plain mathematics. -/
import Derived.Test.YtmefllfmcjjbaaaLxW
namespace Go.Proofs.Ytmefllfmcjjbaaa

/-- What stops a token: the end, a blank, a line's end. -/
def Stop (r : List UInt8) : Prop := r = [] ∨ (∃ t, r = 32 :: t) ∨ ∃ t, r = 10 :: t
theorem Stop.span {r : List UInt8} (h : Stop r) {p : UInt8 → Bool} (h1 : p 32 = false) (h2 : p 10 = false) : span p r = 0 := by
  rcases h with rfl | ⟨t, rfl⟩ | ⟨t, rfl⟩
  · rfl
  · rw [span_cons, h1, if_neg (by decide)]
  · rw [span_cons, h2, if_neg (by decide)]
theorem span_app {p : UInt8 → Bool} {rest : List UInt8} (hr : span p rest = 0) : ∀ l, span p (l.take (span p l) ++ rest) = span p l
  | [] => hr
  | c :: t => by
    rw [span_cons]
    by_cases h : p c = true
    · rw [if_pos h, List.take_succ_cons, List.cons_append, span_cons, if_pos h, span_app hr t]
    · rw [if_neg h]
      exact hr
/-- A token's front, whatever stands behind it that stops it. -/
theorem front_take {r : List UInt8} {k : Nat} {x : List UInt8} {n : Nat} (h : front r = .ok (k, x, n)) {rest : List UInt8} (hs : Stop rest) : front (r.take n ++ rest) = .ok (k, x, n) := by
  have hn := front_len h
  cases r with
  | nil => cases h
  | cons c t =>
    rw [front_cons] at h
    split at h
    · rename_i h1
      split at h
      · cases h
      · rename_i h24
        simp only [Except.ok.injEq, Prod.mk.injEq] at h
        obtain ⟨rfl, hx, rfl⟩ := h
        have hsp := span_app (hs.span (p := namB) (by decide) (by decide)) (c :: t)
        obtain ⟨m, hm⟩ : ∃ m, span namB (c :: t) = m + 1 := ⟨span namB (c :: t) - 1, by omega⟩
        have ht : (c :: t).take (span namB (c :: t)) ++ rest = c :: (t.take m ++ rest) := by rw [hm, List.take_succ_cons, List.cons_append]
        have htk : (c :: (t.take m ++ rest)).take (m + 1) = (c :: t).take (m + 1) := by
          rw [List.take_succ_cons, List.take_succ_cons, List.take_append_of_le_length (by rw [List.length_take]; have := hn.2.1; rw [List.length_cons] at this; omega), List.take_take, Nat.min_self]
        rw [ht] at hsp ⊢
        rw [front_cons, if_pos h1, hsp, if_neg h24, hm, htk, ← hm, hx]
    · rename_i h1
      split at h
      · rename_i h2
        split at h
        · cases h
        · rename_i h20
          split at h
          · cases h
          · rename_i h48
            simp only [Except.ok.injEq, Prod.mk.injEq] at h
            obtain ⟨rfl, hx, rfl⟩ := h
            have hsp := span_app (hs.span (p := digB) (by decide) (by decide)) (c :: t)
            obtain ⟨m, hm⟩ : ∃ m, span digB (c :: t) = m + 1 := ⟨span digB (c :: t) - 1, by omega⟩
            have ht : (c :: t).take (span digB (c :: t)) ++ rest = c :: (t.take m ++ rest) := by rw [hm, List.take_succ_cons, List.cons_append]
            have htk : (c :: (t.take m ++ rest)).take (m + 1) = (c :: t).take (m + 1) := by
              rw [List.take_succ_cons, List.take_succ_cons, List.take_append_of_le_length (by rw [List.length_take]; have := hn.2.1; rw [List.length_cons] at this; omega), List.take_take, Nat.min_self]
            rw [ht] at hsp ⊢
            rw [front_cons, if_neg h1, if_pos h2, hsp, if_neg h20, if_neg h48, hm, htk, ← hm, hx]
      · rename_i h2
        split at h
        · rename_i h47
          split at h
          · rename_i hd
            simp only [Except.ok.injEq, Prod.mk.injEq] at h
            obtain ⟨rfl, hx, rfl⟩ := h
            obtain ⟨u, hu⟩ : ∃ u, t.drop (span patB t) = 47 :: u := by
              cases hdd : t.drop (span patB t) with
              | nil => rw [hdd] at hd; cases hd
              | cons a u => rw [hdd] at hd; injection hd with hd; rw [hd]; exact ⟨u, rfl⟩
            have h3 : (c :: t).take (span patB t + 2) ++ rest = c :: (t.take (span patB t) ++ 47 :: rest) := by
              rw [show span patB t + 2 = (span patB t + 1) + 1 by omega, List.take_succ_cons, List.cons_append, List.take_add, hu]
              simp
            have h4 : span patB (t.take (span patB t) ++ 47 :: rest) = span patB t := span_app (by rw [span_cons]; rfl) t
            have h5 : (t.take (span patB t) ++ 47 :: rest).drop (span patB t) = 47 :: rest := by
              rw [List.drop_append_of_le_length (by rw [List.length_take]; have := span_le patB t; omega), List.drop_eq_nil_of_le (by rw [List.length_take]; omega)]
              rfl
            have h6 : (t.take (span patB t) ++ 47 :: rest).take (span patB t) = t.take (span patB t) := by
              rw [List.take_append_of_le_length (by rw [List.length_take]; have := span_le patB t; omega), List.take_take, Nat.min_self]
            rw [h3, front_cons, if_neg h1, if_neg h2, if_pos h47, h4, h5, if_pos (show (47 :: rest).head? = some 47 from rfl), h6, hx]
          · cases h
        · rename_i h47
          split at h
          · rename_i h46
            simp only [Except.ok.injEq, Prod.mk.injEq] at h
            obtain ⟨rfl, rfl, rfl⟩ := h
            cases t with
            | nil => cases h46.2
            | cons d t =>
              have h3 : (c :: d :: t).take 2 ++ rest = c :: d :: rest := rfl
              rw [h3, front_cons, if_neg h1, if_neg h2, if_neg h47, if_pos ⟨h46.1, h46.2⟩]
          · split at h
            · rename_i hsg
              simp only [Except.ok.injEq, Prod.mk.injEq] at h
              obtain ⟨rfl, rfl, rfl⟩ := h
              have h3 : (c :: t).take 1 ++ rest = c :: rest := rfl
              have h46 : ¬ c.toNat = 46 := by
                intro e
                have : c = 46 := UInt8.toNat_inj.1 e
                subst this
                revert hsg
                decide
              rw [h3, front_cons, if_neg h1, if_neg h2, if_neg h47, if_neg (fun h => h46 h.1), if_pos hsg]
            · cases h
theorem blank_front : ∀ c : Fin 256, (c.1 = 10 ∨ c.1 = 32 ∨ c.1 = 9 ∨ c.1 = 13 ∨ c.1 = 35) → letN c.1 = false ∧ digN c.1 = false ∧ c.1 ≠ 47 ∧ c.1 ≠ 46 ∧ sgB (UInt8.ofNat c.1) = false := by decide +kernel
/-- Where a token begins, no gap is. -/
theorem front_gap {r : List UInt8} {k : Nat} {x : List UInt8} {n : Nat} (h : front r = .ok (k, x, n)) : gap false r = 0 := by
  cases r with
  | nil => rfl
  | cons c t =>
    have key : ¬ (c.toNat = 10 ∨ c.toNat = 32 ∨ c.toNat = 9 ∨ c.toNat = 13 ∨ c.toNat = 35) := by
      intro hb
      obtain ⟨h1, h2, h3, h4, h5⟩ := blank_front ⟨c.toNat, c.toNat_lt⟩ hb
      simp only at h1 h2 h3 h4
      have h5' : sgB c = false := by simpa using h5
      rw [front_cons, h1, h2, if_neg (by decide), if_neg (by decide), if_neg h3, if_neg (fun h => h4 h.1), h5', if_neg (by decide)] at h
      cases h
    rw [gap_cons, if_neg (fun h => key (.inl h)), if_neg (fun h => key (by rcases h with h | h | h | h; cases h; exact .inr (.inl h); exact .inr (.inr (.inl h)); exact .inr (.inr (.inr (.inl h))))), if_neg (fun h => key (.inr (.inr (.inr (.inr h)))))]
/-- Two lists of tokens are the same, but for where they stand. -/
def Alike (a b : List Tk) : Prop := a.map (fun t => (t.k, t.x)) = b.map (fun t => (t.k, t.x))
/-- Tokens of which each is read as it is written. -/
def Good (t : Tk) : Prop := ∃ r, front r = .ok (t.k, t.x, (shT t).length) ∧ shT t = r.take (shT t).length
theorem Good.of {r : List UInt8} {k : Nat} {x : List UInt8} {n : Nat} (h : front r = .ok (k, x, n)) (p : Nat) : Good ⟨k, p, x⟩ := by
  have h1 := front_show h p
  have h2 := front_len h
  have h3 : (shT ⟨k, p, x⟩).length = n := by rw [h1, List.length_take]; omega
  exact ⟨r, by rw [h3]; exact h, by rw [h3]; exact h1⟩
theorem Good.front {t : Tk} (h : Good t) {rest : List UInt8} (hs : Stop rest) : front (shT t ++ rest) = .ok (t.k, t.x, (shT t).length) := by
  obtain ⟨r, h1, h2⟩ := h
  have := front_take h1 hs
  rw [← h2] at this
  exact this
theorem Good.pos {t : Tk} (h : Good t) : 0 < (shT t).length ∧ t.k ≤ 4 := by
  obtain ⟨r, h1, _⟩ := h
  have := front_len h1
  omega
/-- The tokens but the last, which is the end. -/
theorem chain_split {l : List UInt8} : ∀ (ts : List Tk) (a : Nat), Chain l a ts → ∃ gs e, ts = gs ++ [e] ∧ e.k = 5 ∧ e.x = [] ∧ (∀ g ∈ gs, Good g) ∧ a + (gs.map (fun g => (shT g).length)).sum ≤ l.length + a ∧ (a ≤ l.length → (gs.map (fun g => (shT g).length)).sum ≤ l.length - a)
  | [], _, h => h.elim
  | t :: ts, a, h => by
    obtain ⟨hp, h⟩ := h
    rcases h with ⟨_, h2, h3⟩ | ⟨n, hf, hc⟩
    · refine ⟨[], t, by rw [h3]; rfl, by rw [h2], by rw [h2], by simp, by simp, by simp⟩
    · obtain ⟨gs, e, h1, h2, h3, h4, h5, h6⟩ := chain_split ts _ hc
      have hg := Good.of hf t.p
      have hsh := front_show hf t.p
      have hfl := front_len hf
      rw [List.length_drop] at hfl
      have hlen : (shT t).length = n := by
        have h7 : shT t = (l.drop t.p).take n := hsh
        rw [h7, List.length_take, List.length_drop]
        omega
      have h7 := h6 (by omega)
      refine ⟨t :: gs, e, by rw [h1]; rfl, h2, h3, fun g hg' => ?_, ?_, fun ha => ?_⟩
      · rcases List.mem_cons.1 hg' with rfl | hg'
        · exact hg
        · exact h4 g hg'
      · simp only [List.map_cons, List.sum_cons]
        omega
      · simp only [List.map_cons, List.sum_cons]
        omega
theorem words_good {gs : List Tk} {e : Tk} (h : ∀ g ∈ gs, Good g) (he : e.k = 5) : wordsT (gs ++ [e]) = gs.map shT := by
  unfold wordsT
  rw [List.filter_append]
  have h1 : gs.filter (fun t => !decide (t.k = 5)) = gs := List.filter_eq_self.2 (fun g hg => by
    have := (h g hg).pos.2
    simp
    omega)
  rw [h1]
  simp [he]
theorem tail_stop (ws : List (List UInt8)) : Stop (Lib.joinTail [32] ws) := by
  cases ws with
  | nil => exact .inl rfl
  | cons w ws => exact .inr (.inl ⟨w ++ Lib.joinTail [32] ws, by simp [Lib.joinTail]⟩)
theorem tail_cons (w : List UInt8) (ws : List (List UInt8)) : Lib.joinTail [32] (w :: ws) = 32 :: (w ++ Lib.joinTail [32] ws) := by simp [Lib.joinTail]
theorem scan_word {g : Tk} (hg : Good g) {rest : List UInt8} (hs : Stop rest) (m p n : Nat) (hn : n ≠ 8192) : scanG m (shT g ++ rest) p n = thenR [⟨g.k, p, g.x⟩] (scanF m rest (p + (shT g).length) (n + 1)) := by
  have hpos := hg.pos.1
  have hne : shT g ++ rest ≠ [] := by
    intro e
    have := congrArg List.length e
    rw [List.length_append, List.length_nil] at this
    omega
  rw [scanG_ok hne hn (hg.front hs), List.drop_left]
theorem scan_tail : ∀ (gs : List Tk) (m p n : Nat), (∀ g ∈ gs, Good g) → gs.length < m → n + gs.length ≤ 8192 → ∃ us, scanF m (Lib.joinTail [32] (gs.map shT)) p n = .ok us ∧ Alike us (gs ++ [⟨5, 0, []⟩])
  | [], m, p, n, _, hm, _ => by
    obtain ⟨m, rfl⟩ : ∃ q, m = q + 1 := ⟨m - 1, by simp at hm; omega⟩
    exact ⟨_, rfl, rfl⟩
  | g :: gs, m, p, n, hg, hm, hn => by
    obtain ⟨m, rfl⟩ : ∃ q, m = q + 1 := ⟨m - 1, by simp at hm; omega⟩
    have hg1 := hg g (by simp)
    have hst := tail_stop (gs.map shT)
    obtain ⟨us, h1, h2⟩ := scan_tail gs m (p + 1 + (shT g).length) (n + 1) (fun x hx => hg x (List.mem_cons_of_mem _ hx)) (by simp at hm; omega) (by simp at hn; omega)
    have hgap : gap false (32 :: (shT g ++ Lib.joinTail [32] (gs.map shT))) = 1 := by
      rw [gap_cons, if_neg (by decide), if_pos (by decide), front_gap (hg1.front hst)]
    refine ⟨⟨g.k, p + 1, g.x⟩ :: us, ?_, ?_⟩
    · rw [List.map_cons, tail_cons, scanF_succ, hgap, List.drop_succ_cons, List.drop_zero, scan_word hg1 hst m (p + 1) n (by simp at hn; omega), h1]
      rfl
    · unfold Alike at h2 ⊢
      rw [List.map_cons, h2]
      rfl
theorem tail_len : ∀ gs : List Tk, (Lib.joinTail [32] (gs.map shT)).length = (gs.map (fun g => (shT g).length)).sum + gs.length
  | [] => rfl
  | g :: gs => by
    rw [List.map_cons, tail_cons, List.length_cons, List.length_append, tail_len gs]
    simp only [List.map_cons, List.sum_cons, List.length_cons]
    omega
/-- The tokens of a text, written with a blank between two, are the same tokens again. -/
theorem back_scan {l : List UInt8} {ts : List Tk} (h : scanT l = .ok ts) (hl : l.length ≤ 3000) : (joinT ts).length ≤ 6000 ∧ ∃ us, scanT (joinT ts) = .ok us ∧ Alike us ts := by
  obtain ⟨gs, e, rfl, h2, h3, h4, _, h6⟩ := chain_split ts 0 (chain_scan h)
  have hn := scan_ok_len h
  rw [List.length_append, List.length_cons, List.length_nil] at hn
  have h7 := h6 (Nat.zero_le _)
  have hw := words_good h4 h2
  have hlen := tail_len gs
  have hend : Alike [⟨5, 0, []⟩] [e] := by
    unfold Alike
    simp [h2, h3]
  have hjt : joinT (gs ++ [e]) = Lib.join (gs.map shT) [32] := by unfold joinT; rw [hw]
  cases gs with
  | nil =>
    rw [hjt]
    refine ⟨by simp [Lib.join_nil], [⟨5, 0, []⟩], ?_, ?_⟩
    · rw [List.map_nil, Lib.join_nil]; rfl
    · exact hend
  | cons g gs =>
    have hg1 := h4 g (by simp)
    have hst := tail_stop (gs.map shT)
    rw [List.map_cons, Lib.join_cons] at hjt
    rw [List.map_cons, tail_cons, List.length_cons, List.length_append] at hlen
    simp only [List.length_cons] at hn hlen
    have hjl : (joinT (g :: gs ++ [e])).length ≤ 6000 := by
      rw [hjt, List.length_append]
      omega
    refine ⟨hjl, ?_⟩
    obtain ⟨us, k1, k2⟩ := scan_tail gs ((joinT (g :: gs ++ [e])).length + 1) (0 + 0 + (shT g).length) (0 + 1) (fun x hx => h4 x (List.mem_cons_of_mem _ hx)) (by
      rw [hjt, List.length_append]
      have := tail_len gs
      omega) (by omega)
    refine ⟨⟨g.k, 0, g.x⟩ :: us, ?_, ?_⟩
    · unfold scanT
      rw [if_neg (by omega), scanF_succ]
      have hgap : gap false (joinT (g :: gs ++ [e])) = 0 := by rw [hjt]; exact front_gap (hg1.front hst)
      rw [hgap, List.drop_zero]
      have hj2 : scanG ((joinT (g :: gs ++ [e])).length + 1) (joinT (g :: gs ++ [e])) (0 + 0) 0 = scanG ((joinT (g :: gs ++ [e])).length + 1) (shT g ++ Lib.joinTail [32] (gs.map shT)) (0 + 0) 0 := by
        congr 1
      rw [hj2, scan_word hg1 hst _ _ _ (by omega), k1]
      rfl
    · unfold Alike at k2 hend ⊢
      rw [List.map_cons, k2, List.cons_append, List.map_cons, List.map_append, List.map_append, hend]
end Go.Proofs.Ytmefllfmcjjbaaa
