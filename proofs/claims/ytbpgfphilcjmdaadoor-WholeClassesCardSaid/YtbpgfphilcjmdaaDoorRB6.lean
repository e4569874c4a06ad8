/- regex: parts in parentheses, and sets with a bar or a count: plain mathematics. -/
import Derived.Test.YtbpgfphilcjmdaaDoorRB5
namespace Go.Proofs.YtbpgfphilcjmdaaDoor

/-- An error that a longer text may have where its parts have none. -/
def Bad (r : NR RT) : Prop := ∃ c p, r = .error (c, p) ∧ (c = 2 ∨ c = 6)
theorem paren_rep {l L : List UInt8} {o : Nat} {x : RT} (h : Sim l L (o + 1)) (h40 : nx L o = 40) (hx : pEither l 33 0 0 = .ok (x, l.length, szT x)) (d : Nat) (hd : d ≤ 33) (nd : Nat) :
    Bad (pRep L (pEither L d) o nd) ∨ pRep L (pEither L d) o nd = pRepL L (L.length + 1) x (o + l.length + 2) (nd + szT x) := by
  have hlk := (pEither_like h 33 d hd 0 0 nd x l.length (szT x) (by omega) hx).2
  rw [Nat.add_zero, Nat.zero_add] at hlk
  have h41 := h.nxe
  unfold pRep pOne
  rw [if_pos h40]
  rcases hlk with e | ⟨c, p, e, hc⟩
  · right
    rw [e]
    simp only
    rw [if_pos h41]
    simp only
    rw [show o + 1 + l.length + 1 = o + l.length + 2 by omega, Nat.add_comm (szT x) nd]
  · left
    rw [e]
    exact ⟨c, p, rfl, hc⟩
theorem mkN_or (t : RT) (i nd : Nat) : mkN t i nd = .ok (t, i, nd + 1) ∨ Bad (mkN t i nd) := by
  unfold mkN
  by_cases h : nd + 1 ≤ 512
  · rw [if_pos h]; exact .inl rfl
  · rw [if_neg h]; exact .inr ⟨2, i, rfl, .inl rfl⟩
theorem pCatL_step {l : List UInt8} {E : Nat → Nat → NR RT} {m i nd : Nat} {ks : List RT} (h : i < l.length) (h1 : nx l i ≠ 124) (h2 : nx l i ≠ 41) (hm : 0 < m) : pCatL l E m ks i nd = (match pRep l E i nd with
      | .error e => .error e
      | .ok (t, j, nd') => pCatL l E (m - 1) (ks ++ [t]) j nd') := by
  obtain ⟨m, rfl⟩ : ∃ n, m = n + 1 := ⟨m - 1, by omega⟩
  conv => lhs; unfold pCatL
  rw [if_pos ⟨h, h1, h2⟩]
  rfl
theorem pEithL_step {l : List UInt8} {E : Nat → Nat → NR RT} {m i nd : Nat} {ks : List RT} (hm : 0 < m) : pEithL l E m ks i nd = (match pCatL l E (l.length + 1) [] i nd with
      | .error e => .error e
      | .ok (t, j, nd') => if nx l j = 124 then pEithL l E (m - 1) (ks ++ [t]) (j + 1) nd' else joinN 4 (ks ++ [t]) j nd') := by
  obtain ⟨m, rfl⟩ : ∃ n, m = n + 1 := ⟨m - 1, by omega⟩
  conv => lhs; unfold pEithL
  rfl
theorem Bad.cat {L : List UInt8} {E : Nat → Nat → NR RT} {i nd m : Nat} {ks : List RT} (h : Bad (pRep L E i nd)) (hi : i < L.length) (h1 : nx L i ≠ 124) (h2 : nx L i ≠ 41) (hm : 0 < m) : Bad (pCatL L E m ks i nd) := by
  obtain ⟨c, p, e, hc⟩ := h
  rw [pCatL_step hi h1 h2 hm, e]
  exact ⟨c, p, rfl, hc⟩
theorem Bad.eith {L : List UInt8} {E : Nat → Nat → NR RT} {i nd m : Nat} {ks : List RT} (h : Bad (pCatL L E (L.length + 1) [] i nd)) (hm : 0 < m) : Bad (pEithL L E m ks i nd) := by
  obtain ⟨c, p, e, hc⟩ := h
  rw [pEithL_step hm, e]
  exact ⟨c, p, rfl, hc⟩
/-- What Parse answers of a longer text: this expression, or that it is too great. -/
def Whole (l : List UInt8) (t : RT) : Prop := pParse l = .ok t ∨ ∃ c p, pParse l = .error (c, p) ∧ (c = 2 ∨ c = 6)
theorem whole_bad {L : List UInt8} {t : RT} (hl : L.length ≤ 512) (h : Bad (pEithL L (pEither L 32) (L.length + 1) [] 0 0)) : Whole L t := by
  obtain ⟨c, p, e, hc⟩ := h
  right
  refine ⟨c, p, ?_, hc⟩
  unfold pParse
  rw [if_neg (by omega), show pEither L 33 0 0 = _ from e]
theorem whole_ok {L : List UInt8} {t : RT} {n : Nat} (hl : L.length ≤ 512) (h : pEithL L (pEither L 32) (L.length + 1) [] 0 0 = .ok (t, L.length, n)) : Whole L t := by
  left
  unfold pParse
  rw [if_neg (by omega), show pEither L 33 0 0 = _ from h]
  simp
theorem joins_cat {a b : List UInt8} {x y : RT} (ha : pParse a = .ok x) (hb : pParse b = .ok y) (hl : a.length + b.length ≤ 500) :
    Whole (40 :: (a ++ 41 :: 40 :: (b ++ [41]))) (.nd 3 (0#256) [x, y] 0 0) := by
  obtain ⟨L, hL⟩ : ∃ L, L = 40 :: (a ++ 41 :: 40 :: (b ++ [41])) := ⟨_, rfl⟩
  rw [← hL]
  have hlen : L.length = a.length + b.length + 4 := by rw [hL]; simp; omega
  have s1 : Sim a L (0 + 1) := ⟨by omega, ⟨40 :: (b ++ [41]), by rw [hL]; rfl⟩⟩
  have hd2 : L.drop (a.length + 2) = 40 :: (b ++ [41]) := by
    rw [hL, show a.length + 2 = (a.length + 1) + 1 by omega, List.drop_succ_cons, ← List.drop_drop, List.drop_left]
    rfl
  have s2 : Sim b L (a.length + 2 + 1) := ⟨by omega, ⟨[], by rw [← List.drop_drop, hd2]; rfl⟩⟩
  have n0 : nx L 0 = 40 := by rw [hL]; rfl
  have n2 : nx L (a.length + 2) = 40 := At.nxc hd2
  have ne : nx L L.length = 0 := nx_end (Nat.le_refl _)
  have r40 : isRep 40 = false := rep_signs.2.2.2.2.2.2.2
  have hx := either_alone ha
  have hy := either_alone hb
  rcases paren_rep s1 n0 hx 32 (by omega) 0 with hbad | e1
  · exact whole_bad (by omega) (Bad.eith (Bad.cat hbad (by omega) (by omega) (by omega) (by omega)) (by omega))
  rw [Nat.zero_add, pRepL_halt (by rw [n2]; exact r40) (by omega), Nat.zero_add] at e1
  have c1 : pCatL L (pEither L 32) (L.length + 1) [] 0 0 = pCatL L (pEither L 32) L.length [x] (a.length + 2) (szT x) := by
    rw [pCatL_step (by omega) (by omega) (by omega) (by omega), e1]
    rfl
  rcases paren_rep s2 n2 hy 32 (by omega) (szT x) with hbad | e2
  · refine whole_bad (by omega) (Bad.eith ?_ (by omega))
    rw [c1]
    exact Bad.cat hbad (by omega) (by omega) (by omega) (by omega)
  rw [show a.length + 2 + b.length + 2 = L.length by omega, pRepL_halt (by rw [ne]; exact rep0) (by omega)] at e2
  have c2 : pCatL L (pEither L 32) (L.length + 1) [] 0 0 = mkN (.nd 3 (0#256) [x, y] 0 0) L.length (szT x + szT y) := by
    rw [c1, pCatL_step (by omega) (by omega) (by omega) (by omega), e2]
    simp only
    rw [pCatL_halt (by omega) (by omega)]
    rfl
  rcases mkN_or (.nd 3 (0#256) [x, y] 0 0) L.length (szT x + szT y) with e3 | hbad
  · refine whole_ok (n := szT x + szT y + 1) (by omega) ?_
    rw [pEithL_step (by omega), c2, e3]
    simp only
    rw [if_neg (by rw [ne]; decide)]
    rfl
  · exact whole_bad (by omega) (Bad.eith (by rw [c2]; exact hbad) (by omega))
theorem joins_alt {a b : List UInt8} {x y : RT} (ha : pParse a = .ok x) (hb : pParse b = .ok y) (hl : a.length + b.length ≤ 500) :
    Whole (40 :: (a ++ 41 :: 124 :: 40 :: (b ++ [41]))) (.nd 4 (0#256) [x, y] 0 0) := by
  obtain ⟨L, hL⟩ : ∃ L, L = 40 :: (a ++ 41 :: 124 :: 40 :: (b ++ [41])) := ⟨_, rfl⟩
  rw [← hL]
  have hlen : L.length = a.length + b.length + 5 := by rw [hL]; simp; omega
  have s1 : Sim a L (0 + 1) := ⟨by omega, ⟨124 :: 40 :: (b ++ [41]), by rw [hL]; rfl⟩⟩
  have hd2 : L.drop (a.length + 2) = 124 :: 40 :: (b ++ [41]) := by
    rw [hL, show a.length + 2 = (a.length + 1) + 1 by omega, List.drop_succ_cons, ← List.drop_drop, List.drop_left]
    rfl
  have hd3 : L.drop (a.length + 3) = 40 :: (b ++ [41]) := by
    rw [show a.length + 3 = a.length + 2 + 1 by omega, ← List.drop_drop, hd2]
    rfl
  have s2 : Sim b L (a.length + 3 + 1) := ⟨by omega, ⟨[], by rw [← List.drop_drop, hd3]; rfl⟩⟩
  have n0 : nx L 0 = 40 := by rw [hL]; rfl
  have n2 : nx L (a.length + 2) = 124 := At.nxc hd2
  have n3 : nx L (a.length + 3) = 40 := At.nxc hd3
  have ne : nx L L.length = 0 := nx_end (Nat.le_refl _)
  have r124 : isRep 124 = false := rep_signs.2.2.2.2.2.2.1
  have hx := either_alone ha
  have hy := either_alone hb
  rcases paren_rep s1 n0 hx 32 (by omega) 0 with hbad | e1
  · exact whole_bad (by omega) (Bad.eith (Bad.cat hbad (by omega) (by omega) (by omega) (by omega)) (by omega))
  rw [Nat.zero_add, pRepL_halt (by rw [n2]; exact r124) (by omega), Nat.zero_add] at e1
  have c1 : pCatL L (pEither L 32) (L.length + 1) [] 0 0 = .ok (x, a.length + 2, szT x) := by
    rw [pCatL_step (by omega) (by omega) (by omega) (by omega), e1]
    simp only
    rw [pCatL_halt (by omega) (by omega)]
    rfl
  have p1 : pEithL L (pEither L 32) (L.length + 1) [] 0 0 = pEithL L (pEither L 32) L.length [x] (a.length + 3) (szT x) := by
    rw [pEithL_step (by omega), c1]
    simp only
    rw [if_pos n2]
    rfl
  rcases paren_rep s2 n3 hy 32 (by omega) (szT x) with hbad | e2
  · refine whole_bad (by omega) ?_
    rw [p1]
    exact Bad.eith (Bad.cat hbad (by omega) (by omega) (by omega) (by omega)) (by omega)
  rw [show a.length + 3 + b.length + 2 = L.length by omega, pRepL_halt (by rw [ne]; exact rep0) (by omega)] at e2
  have c2 : pCatL L (pEither L 32) (L.length + 1) [] (a.length + 3) (szT x) = .ok (y, L.length, szT x + szT y) := by
    rw [pCatL_step (by omega) (by omega) (by omega) (by omega), e2]
    simp only
    rw [pCatL_halt (by omega) (by omega)]
    rfl
  have p2 : pEithL L (pEither L 32) (L.length + 1) [] 0 0 = mkN (.nd 4 (0#256) [x, y] 0 0) L.length (szT x + szT y) := by
    rw [p1, pEithL_step (by omega), c2]
    simp only
    rw [if_neg (by rw [ne]; decide)]
    rfl
  rcases mkN_or (.nd 4 (0#256) [x, y] 0 0) L.length (szT x + szT y) with e3 | hbad
  · exact whole_ok (n := szT x + szT y + 1) (by omega) (by rw [p2, e3])
  · exact whole_bad (by omega) (by rw [p2]; exact hbad)
theorem joins_rep {a : List UInt8} {x : RT} (ha : pParse a = .ok x) (hl : a.length ≤ 500) : Whole (40 :: (a ++ [41, 42])) (.nd 5 (0#256) [x] 0 (-1)) := by
  obtain ⟨L, hL⟩ : ∃ L, L = 40 :: (a ++ [41, 42]) := ⟨_, rfl⟩
  rw [← hL]
  have hlen : L.length = a.length + 3 := by rw [hL]; simp
  have s1 : Sim a L (0 + 1) := ⟨by omega, ⟨[42], by rw [hL]; rfl⟩⟩
  have hd2 : L.drop (a.length + 2) = [42] := by
    rw [hL, show a.length + 2 = (a.length + 1) + 1 by omega, List.drop_succ_cons, ← List.drop_drop, List.drop_left]
    rfl
  have n0 : nx L 0 = 40 := by rw [hL]; rfl
  have n2 : nx L (a.length + 2) = 42 := At.nxc hd2
  have ne : nx L L.length = 0 := nx_end (Nat.le_refl _)
  have hx := either_alone ha
  rcases paren_rep s1 n0 hx 32 (by omega) 0 with hbad | e1
  · exact whole_bad (by omega) (Bad.eith (Bad.cat hbad (by omega) (by omega) (by omega) (by omega)) (by omega))
  rw [Nat.zero_add, Nat.zero_add] at e1
  have ht : pTimes L (a.length + 2) = .ok ((0, -1), a.length + 2 + 1) := by
    unfold pTimes
    rw [if_pos n2]
  have e2 : pRep L (pEither L 32) 0 0 = (match mkN (.nd 5 (0#256) [x] ((0 : Nat) : Int) (-1)) L.length (szT x) with
      | .error e => .error e
      | .ok (t', _, nd') => pRepL L L.length t' L.length nd') := by
    rw [e1]
    conv => lhs; unfold pRepL
    rw [if_pos (by rw [n2]; exact rep_signs.1), ht, show a.length + 2 + 1 = L.length by omega]
    rfl
  rcases mkN_or (.nd 5 (0#256) [x] ((0 : Nat) : Int) (-1)) L.length (szT x) with e3 | hbad
  · rw [e3] at e2
    simp only at e2
    rw [pRepL_halt (by rw [ne]; exact rep0) (by omega)] at e2
    have c1 : pCatL L (pEither L 32) (L.length + 1) [] 0 0 = .ok (.nd 5 (0#256) [x] ((0 : Nat) : Int) (-1), L.length, szT x + 1) := by
      rw [pCatL_step (by omega) (by omega) (by omega) (by omega), e2]
      simp only
      rw [pCatL_halt (by omega) (by omega)]
      rfl
    refine whole_ok (n := szT x + 1) (by omega) ?_
    rw [pEithL_step (by omega), c1]
    simp only
    rw [if_neg (by rw [ne]; decide)]
    rfl
  · obtain ⟨c, p, e, hc⟩ := hbad
    rw [e] at e2
    exact whole_bad (by omega) (Bad.eith (Bad.cat ⟨c, p, e2, hc⟩ (by omega) (by omega) (by omega) (by omega)) (by omega))

/-! Sets with a bar between, and with a count. -/
theorem textL_bit (c : Nat) (hc : c < 256) : textL (bit c) = nameL c := by
  have h1 : (bytesOf (bit c)).length = 1 := bit_len ⟨c, hc⟩
  rw [textL_one h1]
  have h2 := ((len_one (bit c)).1 h1).2
  have h3 := has_bit (firstN (bit c)) c (firstN_lt _)
  rw [← h2, has_bit c c hc] at h3
  simp at h3
  rw [← h3]
theorem wg_one {s : BS} (h : s ≠ 0#256) : wgT (.nd 2 s [] 0 0) = 0 := (fine_one h).wg
theorem bit_ne (c : Nat) (hc : c < 256) : bit c ≠ 0#256 := by
  intro e
  have := has_bit c c hc
  rw [e, has_zero] at this
  simp at this
theorem parse_alt2 {s u : BS} (hs : s ≠ 0#256) (hu : u ≠ 0#256) (hl : (textL s).length + (textL u).length ≤ 500) :
    pParse (textL s ++ 124 :: textL u) = .ok (.nd 4 (0#256) [.nd 2 s [] 0 0, .nd 2 u [] 0 0] 0 0) := by
  have hf := fine_many (k := 4) (.inr rfl) (ts := [.nd 2 s [] 0 0, .nd 2 u [] 0 0]) (fun t ht => by
    simp only [List.mem_cons, List.not_mem_nil, or_false] at ht
    rcases ht with rfl | rfl
    · exact fine_one hs
    · exact fine_one hu) (by simp)
  have hw : wrT (.nd 4 (0#256) [.nd 2 s [] 0 0, .nd 2 u [] 0 0] 0 0) = textL s ++ 124 :: textL u := by
    simp [wrT, wrKs, clo, RT.k]
  have h := (parse_text hf.wg (by simp [szT, szL]) (by rw [hw]; simp; omega)).1 (by simp [pdT, pdL, clo, RT.k])
  rw [hw, hf.nr] at h
  exact h
theorem parse_rep3 {s : BS} (hs : s ≠ 0#256) (c : Nat) (hc : c < 256) (hl : (textL s).length ≤ 500) :
    pParse (textL s ++ 123 :: 51 :: 125 :: nameL c) = .ok (.nd 3 (0#256) [.nd 5 (0#256) [.nd 2 s [] 0 0] 3 3, .nd 2 (bit c) [] 0 0] 0 0) := by
  have hr := fine_rep (lo := 3) (hi := 3) (fine_one hs) (by omega) (by omega) (by omega) (fun _ => by omega)
  have hf := fine_many (k := 3) (.inl rfl) (ts := [.nd 5 (0#256) [.nd 2 s [] 0 0] 3 3, .nd 2 (bit c) [] 0 0]) (fun t ht => by
    simp only [List.mem_cons, List.not_mem_nil, or_false] at ht
    rcases ht with rfl | rfl
    · exact hr
    · exact fine_one (bit_ne c hc)) (by simp)
  have ho : oftT 3 3 = [123, 51, 125] := by kernel_rfl
  have hn := nameL_le c
  have hw : wrT (.nd 3 (0#256) [.nd 5 (0#256) [.nd 2 s [] 0 0] 3 3, .nd 2 (bit c) [] 0 0] 0 0) = textL s ++ 123 :: 51 :: 125 :: nameL c := by
    simp [wrT, wrKs, clo, RT.k, ho, textL_bit c hc]
  have h := (parse_text hf.wg (by simp [szT, szL]) (by rw [hw]; simp; omega)).1 (by simp [pdT, pdL, clo, RT.k])
  rw [hw, hf.nr] at h
  exact h
end Go.Proofs.YtbpgfphilcjmdaaDoor
