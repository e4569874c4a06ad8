/- The walk of LebOne. -/
import Derived.Test.YtkbddjmfccbcoaaWLeb
import Derived.Deep.RegionHeld
namespace Go.Proofs.Ytkbddjmfccbcoaa
open Go.RowKit

theorem vSum_dig (T : List UInt8) (i : Nat) (h : i < T.length) : vSum T / 128 ^ i % 128 = T[i].toNat % 128 := by
  induction T generalizing i with
  | nil => simp at h
  | cons c t ih =>
    cases i with
    | zero => simp only [vSum, Nat.pow_zero, Nat.div_one, List.getElem_cons_zero]; omega
    | succ i =>
      simp only [List.getElem_cons_succ]
      rw [← ih i (by simpa using h)]
      have e : vSum (c :: t) / 128 = vSum t := by simp only [vSum]; omega
      rw [Nat.pow_succ, Nat.mul_comm, ← Nat.div_div_eq_div_mul, e]

theorem u8_ext {a b : UInt8} (h : a.toNat = b.toNat) : a = b := UInt8.toNat_inj.1 h

/-- Just those bytes that the number is written as are read as it, none longer than it must be. -/
theorem rd_unique (l : List UInt8) (k : Nat) (hL : Lead l k) (hk9 : k ≤ 9) (hk : k < l.length) (hb : l[k].toNat < 128) (hb9 : k = 9 → l[k].toNat ≤ 1) (hz : 0 < k → l[k].toNat ≠ 0) :
    lenD (vSum (l.take (k + 1))) = k + 1 ∧ padD (vSum (l.take (k + 1))) (k + 1) = l.take (k + 1) := by
  have hT : (l.take (k + 1)).length = k + 1 := by rw [List.length_take]; omega
  have hu := vSum_u64 l k hk9 hk hb9
  have hlt := vSum_lt (l.take (k + 1))
  rw [hT] at hlt
  refine ⟨lenD_unique _ _ hu (by omega) hlt ?_, ?_⟩
  · rcases (show k = 0 ∨ 0 < k by omega) with rfl | h0
    · exact .inl rfl
    · right
      have := vSum_take l k hk
      have h1 : 1 ≤ l[k].toNat % 128 := by have := hz h0; omega
      have h2 : 1 * 128 ^ k ≤ l[k].toNat % 128 * 128 ^ k := Nat.mul_le_mul_right _ h1
      rw [Nat.add_sub_cancel]
      omega
  · apply List.ext_getElem
    · rw [padD_len _ _ (by omega), hT]
    · intro i h1 h2
      have hd := vSum_dig (l.take (k + 1)) i h2
      rw [List.getElem_take] at hd ⊢
      rw [hT] at h2
      rcases (show i < k ∨ i = k by omega) with e | rfl
      · have hp := pad_at_lt (vSum (l.take (k + 1))) (k + 1) i (by omega)
        rw [(List.getElem?_eq_some_iff.1 hp).2]
        apply u8_ext
        rw [hiD_nat, hd]
        have := hL.2 i (by omega) e
        have := l[i].toNat_lt
        omega
      · have hp := pad_at_last (vSum (l.take (i + 1))) (i + 1)
        rw [Nat.add_sub_cancel] at hp
        rw [(List.getElem?_eq_some_iff.1 hp).2]
        apply u8_ext
        rw [loD_nat, hd]
        omega

theorem put_str (n : Nat) (hn : n < 18446744073709551616) (S : ByteArray) (hS : S = ⟨(padD n (lenD n)).toArray⟩) (W : World) :
    Calls Try.prog 36 #[.slice none 0 0, .int .u64 n] W fun e w' => ∃ g, e = .returned (.slice (some ⟨g, 0, none⟩) (lenD n) (lenD n)) ∧
      (convert 24 9 (.slice (some ⟨g, 0, none⟩) (lenD n) (lenD n))).run Try.prog w' = .ok (.string S) w' ∧ Below W.heap.size W w' := by
  refine (lebput_ok (w := W) (c := 0) n hn (RdB.nil_ W none) (Nat.zero_le _)).mono ?_
  rintro e w' ⟨g, rfl, hG, hb, _⟩
  obtain ⟨h1, _, _, _⟩ := lenD_spec n hn
  rw [List.nil_append] at hG
  have hD := RdB.of_blk hG
  rw [padD_len _ _ h1] at hD
  rw [Nat.zero_add]
  have hs := run_str hD (lenD n)
  rw [← hS] at hs
  exact ⟨g, rfl, hs, hb⟩

set_option maxHeartbeats 800000 in
theorem lebOne_law {w : World} {A : Option Addr} {n c : Nat} {l : List UInt8} (hR : RdB w A n l) (hn : n ≤ c) (hc : c ≤ 9223372036854775807) :
    Calls Try.prog 11 #[.slice A n c] w fun e w' => e = .returned (.bool true) ∧ Below w.heap.size w w' := by
  by_cases h50 : 50 < n
  · go_enter Try.func11, Try.ntmps11
    go_wp2_with (go_at_call 34; refine (folds_any _).mono ?_; rintro e w1 ⟨rfl, hb1⟩)
    go_ret
    exact ⟨rfl, hb1⟩
  · obtain ⟨v, m, code, hS⟩ := rd_some l false
    obtain ⟨v', m', code', hS', hrel⟩ : ∃ v' m' code', RdRes l true v' m' code' ∧ ((code ≠ 0 ∧ (code = 21 → code' = 0)) ∨ (code = 0 ∧ code' = 0 ∧ v' = v ∧ m = lenD v ∧ padD v (lenD v) = l.take m ∧ v < 18446744073709551616 ∧ m ≤ n)) := by
      obtain ⟨k, hk9, hL, hcase⟩ := hS
      rcases hcase with ⟨rfl, ⟨h9, hb⟩, rfl, rfl, rfl⟩ | ⟨hk, rfl, rfl, rfl⟩ | ⟨⟨hk, hb⟩, h0, hl, rfl, rfl, rfl⟩ | ⟨⟨hk, hb, hb9, hbc⟩, hv, rfl, rfl⟩
      · obtain ⟨v', m', code', hS'⟩ := rd_some l true
        exact ⟨v', m', code', hS', .inl ⟨by decide, fun h => absurd h (by decide)⟩⟩
      · obtain ⟨v', m', code', hS'⟩ := rd_some l true
        exact ⟨v', m', code', hS', .inl ⟨by decide, fun h => absurd h (by decide)⟩⟩
      · exact ⟨_, _, 0, ⟨k, hk9, hL, .inr (.inr (.inr ⟨⟨hk, by omega, fun _ => by omega, fun hh => by cases hh.2.2⟩, rfl, rfl, rfl⟩))⟩, .inl ⟨by decide, fun _ => rfl⟩⟩
      · refine ⟨v, k + 1, 0, ⟨k, hk9, hL, .inr (.inr (.inr ⟨⟨hk, hb, hb9, fun hh => by cases hh.2.2⟩, hv, rfl, rfl⟩))⟩, .inr ⟨rfl, rfl, rfl, ?_, ?_, ?_, ?_⟩⟩
        · rw [hv]; exact (rd_unique l k hL hk9 hk hb hb9 (fun h0 h => hbc ⟨h, h0, rfl⟩)).1.symm
        · obtain ⟨e1, e2⟩ := rd_unique l k hL hk9 hk hb hb9 (fun h0 h => hbc ⟨h, h0, rfl⟩)
          rw [hv, e1, e2]
        · rw [hv]; exact vSum_u64 l k hk9 hk hb9
        · rw [← hR.1]; omega
    have HRel := hid hrel
    clear hrel
    go_enter Try.func11, Try.ntmps11
    go_wp2_with (go_at_call 34; refine (folds_any _).mono ?_; rintro e w1 ⟨rfl, hb1⟩)
    go_wp2_with fail
    refine (new_rd (hR.below hb1) hn hc).mono ?_
    rintro e w2 ⟨p, rfl, hR2, hb, hp⟩
    have hb2 := hb1.trans (hb.mono hb1.size)
    have hpw : w.heap.size ≤ p := by have := hb1.size; omega
    go_wp2_with fail
    refine (read_ok (rd := 0) hR2 (by rw [List.drop_zero]; exact hS)).mono ?_
    rintro e w3 ⟨rfl, hR3, hg3⟩
    have hb3 := below_grown hb2 hg3 hb2.size hpw
    clear hR2 hb hp hb2 hg3 hpw
    go_wp2_with fail
    refine (new_rd (hR.below hb3) hn hc).mono ?_
    rintro e w4 ⟨p4, rfl, hR4, hb, hp⟩
    have hb4 := hb3.trans (hb.mono hb3.size)
    have hpw : w.heap.size ≤ p4 := by have := hb3.size; omega
    have hR34 := hR3.below hb
    go_wp2_with fail
    refine (read_ok (rd := 0) hR4 (by rw [List.drop_zero]; exact hS')).mono ?_
    rintro e w5 ⟨rfl, hR5, hg5⟩
    have hb5 := below_grown hb4 hg5 hb4.size hpw
    have hR35 := hR34.grown hg5 (fun e => by injection e with e; have := hR3.blk.lt; omega) (fun hn0 a ha e => hR4.ne hn0 a ha (by injection e))
    clear hR4 hb hp hb4 hg5 hpw hR5 hR34 hR3 hb3 hS hS' hb1
    rcases HRel.out with ⟨h0, h21⟩ | ⟨rfl, rfl, rfl, hm, hpad, hv, hmn⟩
    · have e1 : ((code : Int) != 0) = true := by simp; omega
      by_cases h : code = 21
      · have hc' := h21 h
        subst h hc'
        go_wp2
        go_ret
        exact ⟨rfl, hb5⟩
      · have e2 : ((code : Int) != 21) = true := by simp; omega
        go_wp2
        go_ret
        exact ⟨rfl, hb5⟩
    · have hRf := hR.below hb5
      have hmn' : m ≤ c := by omega
      have hsl := run_sliceB_to A n c m hmn'
      obtain ⟨S, hS⟩ : ∃ S : ByteArray, S = ⟨(l.take m).toArray⟩ := ⟨_, rfl⟩
      have hS2 : S = ⟨(padD v' (lenD v')).toArray⟩ := by rw [hpad, hS]
      have HP := hid (put_str v' hv S hS2)
      have hs0 := run_str (show RdB w5.drew A m (l.take m) from hRf.front m hmn) c
      rw [← hS] at hs0
      have HS2 := hid (fun (w6 : World) (hb6 : Below w5.heap.size w5 w6) => by
        have h := run_str ((hRf.below hb6).front m hmn) c
        rw [← hS] at h
        exact h)
      rw [Nat.zero_add] at hR35
      have h35d : Rdr w5.drew p A n c m l := ⟨hR35.blk, hR35.rdb, hR35.ne, hR35.le, hR35.cap, hR35.lim⟩
      have H35 := hid hR35
      have H35d := hid h35d
      clear hv hpad hm HRel hS hS2 hR35 hRf hR h35d
      go_wp2_with fail
      go_region_held (fun w' => (convert 24 9 (.slice A m c)).run Try.prog w' = .ok (.string S) w' ∧ Rdr w' p A n c m l)
        (first | exact ⟨hs0, H35d.out⟩ | exact ⟨hs2, hR6⟩ | assumption)
        (first
        | (go_at_call 36; refine (HP.out _).mono ?_; rintro e w6 ⟨g, rfl, hs1, hb6⟩; have hb6' : Below w5.heap.size w5 w6 := ⟨hb6.os, hb6.tape, hb6.output, hb6.size, hb6.block⟩; have hR6 := H35.out.below hb6'; have hs2 := HS2.out w6 hb6'; clear hb6)
        | (go_at_call 25; refine (at_any (A := A) (n := n) (c := c) (rd := m) (l := l) ?_).mono ?_; assumption; rintro e w7 ⟨rfl, rfl⟩))
      all_goals go_wp2
      all_goals go_ret
      all_goals exact ⟨rfl, hb5.trans (hb6'.mono hb5.size)⟩
end Go.Proofs.Ytkbddjmfccbcoaa
