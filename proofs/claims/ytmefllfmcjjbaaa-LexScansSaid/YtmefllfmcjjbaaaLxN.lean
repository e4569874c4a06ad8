/- lex: the tokens of a text, one behind the other: plain mathematics; the reference's gap. -/
import Derived.Test.YtmefllfmcjjbaaaLxK
namespace Go.Proofs.Ytmefllfmcjjbaaa
open Go.RowKit

/-- These are the tokens of what stands behind a place. -/
def Chain (l : List UInt8) : Nat → List Tk → Prop
  | _, [] => False
  | a, t :: ts => t.p = a + gap false (l.drop a) ∧ ((l.drop t.p = [] ∧ t = ⟨5, t.p, []⟩ ∧ ts = []) ∨ ∃ n, front (l.drop t.p) = .ok (t.k, t.x, n) ∧ Chain l (t.p + n) ts)
theorem chain_of (l : List UInt8) : ∀ (m p n : Nat) (ts : List Tk), scanF m (l.drop p) p n = .ok ts → Chain l p ts
  | 0, _, _, _, h => by cases h
  | m + 1, p, n, ts, h => by
    rw [scanF_succ, List.drop_drop] at h
    by_cases he : l.drop (p + gap false (l.drop p)) = []
    · rw [he, scanG_end] at h
      injection h with h
      subst h
      exact ⟨rfl, .inl ⟨he, rfl, rfl⟩⟩
    · by_cases hn : n = 8192
      · rw [hn, scanG_full he] at h; cases h
      · cases hf : front (l.drop (p + gap false (l.drop p))) with
        | error e => rw [scanG_bad he hn hf] at h; cases h
        | ok v =>
          obtain ⟨k, x, j⟩ := v
          rw [scanG_ok he hn hf, List.drop_drop] at h
          cases hr : scanF m (l.drop (p + gap false (l.drop p) + j)) (p + gap false (l.drop p) + j) (n + 1) with
          | error e => rw [hr] at h; cases h
          | ok us =>
            rw [hr] at h
            injection h with h
            subst h
            exact ⟨rfl, .inr ⟨j, hf, chain_of l m _ _ _ hr⟩⟩
theorem chain_scan {l : List UInt8} {ts : List Tk} (h : scanT l = .ok ts) : Chain l 0 ts := by
  unfold scanT at h
  split at h
  · cases h
  · exact chain_of l _ 0 0 ts h
theorem take_head {c : UInt8} {t : List UInt8} : (c :: t).take 1 = [c] := rfl
/-- A token is shown as it stands. -/
theorem front_show {r : List UInt8} {k : Nat} {x : List UInt8} {n : Nat} (h : front r = .ok (k, x, n)) (p : Nat) : shT ⟨k, p, x⟩ = r.take n := by
  cases r with
  | nil => cases h
  | cons c t =>
    rw [front_cons] at h
    split at h
    · split at h
      · cases h
      · simp only [Except.ok.injEq, Prod.mk.injEq] at h
        obtain ⟨rfl, rfl, rfl⟩ := h
        rfl
    · split at h
      · split at h
        · cases h
        · split at h
          · cases h
          · simp only [Except.ok.injEq, Prod.mk.injEq] at h
            obtain ⟨rfl, rfl, rfl⟩ := h
            rfl
      · split at h
        · rename_i h47
          split at h
          · rename_i hd
            simp only [Except.ok.injEq, Prod.mk.injEq] at h
            obtain ⟨rfl, rfl, rfl⟩ := h
            have hc : c = 47 := UInt8.toNat_inj.1 h47
            subst hc
            show 47 :: (t.take (span patB t) ++ [47]) = (47 :: t).take (span patB t + 2)
            rw [show span patB t + 2 = (span patB t + 1) + 1 by omega, List.take_succ_cons]
            congr 1
            have h2 : t.drop (span patB t) = 47 :: (t.drop (span patB t)).tail := by
              cases hdd : t.drop (span patB t) with
              | nil => rw [hdd] at hd; cases hd
              | cons a u => rw [hdd] at hd; injection hd with hd; rw [hd]; rfl
            rw [List.take_add, h2]
            rfl
          · cases h
        · split at h
          · rename_i h46
            simp only [Except.ok.injEq, Prod.mk.injEq] at h
            obtain ⟨rfl, rfl, rfl⟩ := h
            obtain ⟨h1, h2⟩ := h46
            have hc : c = 46 := UInt8.toNat_inj.1 h1
            subst hc
            cases t with
            | nil => cases h2
            | cons d t => injection h2 with h2; subst h2; rfl
          · split at h
            · simp only [Except.ok.injEq, Prod.mk.injEq] at h
              obtain ⟨rfl, rfl, rfl⟩ := h
              rfl
            · cases h
theorem pre_take (r : List UInt8) (n : Nat) : Lib.hasPrefix r (r.take n) = true := by
  unfold Lib.hasPrefix
  rw [List.isPrefixOf_iff_prefix]
  exact List.take_prefix n r
theorem gapb_at {b : Bool} {l : List UInt8} {i : Nat} (h : i < l.length) : gap b (l.drop i) = if (l[i]).toNat = 10 then gap false (l.drop (i + 1)) + 1 else if b = true ∨ (l[i]).toNat = 32 ∨ (l[i]).toNat = 9 ∨ (l[i]).toNat = 13 then gap b (l.drop (i + 1)) + 1 else if (l[i]).toNat = 35 then gap true (l.drop (i + 1)) + 1 else 0 := by
  rw [drop_eq h, gap_cons]
theorem gapb_end {b : Bool} {l : List UInt8} {i : Nat} (h : l.length ≤ i) : gap b (l.drop i) = 0 := by
  rw [List.drop_eq_nil_of_le h]; rfl
set_option maxRecDepth 100000 in
set_option maxHeartbeats 4000000 in
theorem Gap_any (s : ByteArray) (hs : s.size ≤ 65536) (w : World) : Calls Try.prog 13 #[.string s] w fun e w' => e = .returned (.int .i64 ((gap false s.data.toList : Nat) : Int)) ∧ w' = w := by
  obtain ⟨G, hG⟩ : ∃ G, G = gap false s.data.toList := ⟨_, rfl⟩
  rw [← hG]
  have HG := hid (show G = 0 + gap false (s.data.toList.drop 0) by rw [hG, List.drop_zero]; omega)
  clear hG
  go_enter Try.func13, Try.ntmps13
  go_wp2_with fail
  go_loopg [3, 4] (s.size + 1) (fun m i v wr => ∃ (j : Nat) (b : Bool), j ≤ s.size ∧ s.size < m + j ∧ i = .int .i64 (j : Int) ∧ v = .bool b ∧ Hid (G = j + gap b (s.data.toList.drop j)) ∧ wr = w)
  case atStart => exact ⟨0, false, by omega, by omega, rfl, rfl, HG, rfl⟩
  case round =>
    clear HG
    obtain ⟨j, b, hj, hm, rfl, rfl, HG, rfl⟩ := hrel
    obtain ⟨m, rfl⟩ : ∃ m, gk = m + 1 := ⟨gk - 1, by omega⟩
    rcases Nat.lt_or_ge j s.size with hlt | hge
    · have hlt2 : j < s.data.toList.length := hlt
      have n1 : (j : Int) < (s.size : Int) := by omega
      have hga := gapb_at (b := b) hlt2
      obtain ⟨x, hx⟩ : ∃ x, x = (s.data.toList[j]'hlt2).toNat := ⟨_, rfl⟩
      have hx1 : ((s[j]'hlt).toNat : Int) = (x : Int) := by rw [hx]; rfl
      rw [← hx] at hga
      have hw : wrap64 ((j : Int) + 1) = (j : Int) + 1 := by unfold wrap64; omega
      clear hx
      by_cases h10 : x = 10
      · rw [if_pos h10] at hga
        have HE2 := hid (show G = (j + 1) + gap false (s.data.toList.drop (j + 1)) by rw [HG.out, hga]; omega)
        clear hga HG hlt2
        obtain rfl := h10
        go_wp2_with fail
        go_roundg m
        case measure => omega
        case rel => exact ⟨j + 1, false, by omega, by omega, by go_num, rfl, HE2, rfl⟩
      · rw [if_neg h10] at hga
        have h10' : ¬ (x : Int) = 10 := by omega
        by_cases hb : b = true ∨ x = 32 ∨ x = 9 ∨ x = 13
        · rw [if_pos hb] at hga
          have HE2 := hid (show G = (j + 1) + gap b (s.data.toList.drop (j + 1)) by rw [HG.out, hga]; omega)
          clear hga HG hlt2 h10
          cases b with
          | true =>
            clear hb
            go_wp2_with fail
            go_roundg m
            case measure => omega
            case rel => exact ⟨j + 1, true, by omega, by omega, by go_num, rfl, HE2, rfl⟩
          | false =>
            have hb2 : x = 32 ∨ x = 9 ∨ x = 13 := by simpa using hb
            clear hb h10'
            rcases hb2 with rfl | rfl | rfl
            all_goals
              go_wp2_with fail
              go_roundg m
              case measure => omega
              case rel => exact ⟨j + 1, false, by omega, by omega, by go_num, rfl, HE2, rfl⟩
        · rw [if_neg hb] at hga
          obtain rfl : b = false := by cases b; rfl; exact absurd (.inl rfl) hb
          have hb2 : ¬ (x : Int) = 32 ∧ ¬ (x : Int) = 9 ∧ ¬ (x : Int) = 13 := by
            refine ⟨fun h => hb (.inr (.inl (by omega))), fun h => hb (.inr (.inr (.inl (by omega)))), fun h => hb (.inr (.inr (.inr (by omega))))⟩
          obtain ⟨b1, b2, b3⟩ : ((x : Int) == 32) = false ∧ ((x : Int) == 9) = false ∧ ((x : Int) == 13) = false := ⟨by simpa using hb2.1, by simpa using hb2.2.1, by simpa using hb2.2.2⟩
          clear hb2
          by_cases h35 : x = 35
          · rw [if_pos h35] at hga
            have HE2 := hid (show G = (j + 1) + gap true (s.data.toList.drop (j + 1)) by rw [HG.out, hga]; omega)
            clear hga HG hlt2 h10 h10' b1 b2 b3 hb
            obtain rfl := h35
            go_wp2_with fail
            go_roundg m
            case measure => omega
            case rel => exact ⟨j + 1, true, by omega, by omega, by go_num, rfl, HE2, rfl⟩
          · rw [if_neg h35] at hga
            have h35' : ¬ (x : Int) = 35 := by omega
            have HE2 := hid (show G = j by rw [HG.out, hga]; omega)
            clear hga HG hlt2 h10 h35 hb
            obtain rfl := HE2.out
            go_wp2_with fail
            go_ret
            exact ⟨rfl, rfl⟩
    · obtain rfl : j = s.size := by omega
      have HE2 := hid (show G = s.size by rw [HG.out, gapb_end (show s.data.toList.length ≤ s.size from Nat.le_refl _)]; omega)
      clear HG
      obtain rfl := HE2.out
      go_wp2_with fail
      go_ret
      exact ⟨rfl, rfl⟩
end Go.Proofs.Ytmefllfmcjjbaaa
