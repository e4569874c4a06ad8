/- lex: the law LexWhole, walked. -/
import Derived.Test.YtmefllfmcjjbaaaLxN
namespace Go.Proofs.Ytmefllfmcjjbaaa
open Go.RowKit

theorem scan_len {l : List UInt8} : ∀ (m p n : Nat) (ts : List Tk), scanF m (l.drop p) p n = .ok ts → p ≤ l.length → p + ts.length ≤ l.length + 1
  | 0, _, _, _, h, _ => by cases h
  | m + 1, p, n, ts, h, hp => by
    rw [scanF_succ, List.drop_drop] at h
    have hg := gap_le false (l.drop p)
    rw [List.length_drop] at hg
    by_cases he : l.drop (p + gap false (l.drop p)) = []
    · rw [he, scanG_end] at h
      injection h with h
      subst h
      simp only [List.length_cons, List.length_nil]
      omega
    · by_cases hn : n = 8192
      · rw [hn, scanG_full he] at h; cases h
      · cases hf : front (l.drop (p + gap false (l.drop p))) with
        | error e => rw [scanG_bad he hn hf] at h; cases h
        | ok v =>
          obtain ⟨k, x, j⟩ := v
          have hfl := front_len hf
          rw [List.length_drop] at hfl
          rw [scanG_ok he hn hf, List.drop_drop] at h
          cases hr : scanF m (l.drop (p + gap false (l.drop p) + j)) (p + gap false (l.drop p) + j) (n + 1) with
          | error e => rw [hr] at h; cases h
          | ok us =>
            rw [hr] at h
            injection h with h
            subst h
            have := scan_len m _ _ _ hr (by omega)
            simp only [List.length_append, List.length_cons, List.length_nil]
            omega
theorem scan_ok_len {l : List UInt8} {ts : List Tk} (h : scanT l = .ok ts) : ts.length ≤ l.length + 1 := by
  unfold scanT at h
  split at h
  · cases h
  · have := scan_len (l := l) _ 0 0 ts h (Nat.zero_le _)
    omega
theorem scan_err : ∀ (m : Nat) (r : List UInt8) (p n : Nat) (e : Nat × Nat), r.length < m → scanF m r p n = .error e → e.1 ≠ 0
  | 0, _, _, _, _, h, _ => absurd h (by omega)
  | m + 1, r, p, n, e, hm, h => by
    rw [scanF_succ] at h
    by_cases he : r.drop (gap false r) = []
    · rw [he, scanG_end] at h; cases h
    · by_cases hn : n = 8192
      · rw [hn, scanG_full he] at h
        injection h with h; subst h
        show (2 : Nat) ≠ 0
        omega
      · cases hf : front (r.drop (gap false r)) with
        | error c =>
          rw [scanG_bad he hn hf] at h
          injection h with h; subst h
          have := front_err hf
          show c ≠ 0
          omega
        | ok v =>
          obtain ⟨k, x, j⟩ := v
          have hfl := front_len hf
          rw [List.length_drop] at hfl
          rw [scanG_ok he hn hf] at h
          cases hr : scanF m ((r.drop (gap false r)).drop j) (p + gap false r + j) (n + 1) with
          | error e2 =>
            rw [hr] at h
            injection h with h; subst h
            exact scan_err m _ _ _ _ (by rw [List.length_drop, List.length_drop]; omega) hr
          | ok us => rw [hr] at h; cases h
theorem scanT_err {l : List UInt8} {e : Nat × Nat} (h : scanT l = .error e) : e.1 ≠ 0 := by
  unfold scanT at h
  split at h
  · injection h with h; subst h
    show (2 : Nat) ≠ 0
    omega
  · exact scan_err _ _ _ _ _ (by omega) h
/-- What a call of Scan leaves, whatever the text. -/
theorem ScanR.un {r : Except (Nat × Nat) (List Tk)} {w : World} {e : Ending} {w' : World} (h : ScanR r w e w') (hne : ∀ e, r = .error e → e.1 ≠ 0) : Below w.heap.size w w' ∧ ∃ (A : Option Addr) (n cap : Nat) (ts : List Tk) (c p : Nat), e = .returned (.tuple #[.slice A n cap, .agg #[.int .i64 (c : Int), .int .i64 (p : Int)]]) ∧ n ≤ cap ∧ n = ts.length ∧ RdK w' A ts ∧ ((c = 0 ∧ p = 0 ∧ r = .ok ts) ∨ (c ≠ 0 ∧ r = .error (c, p) ∧ ts = [])) := by
  obtain ⟨hb, h⟩ := h
  refine ⟨hb, ?_⟩
  cases r with
  | error x =>
    obtain ⟨c, p⟩ := x
    exact ⟨none, 0, 0, [], c, p, h, Nat.le_refl _, rfl, fun h => absurd h (by simp), .inr ⟨hne _ rfl, rfl, rfl⟩⟩
  | ok ts =>
    obtain ⟨v, rfl, hown⟩ := h
    obtain ⟨A, cap, rfl⟩ := owns_shape hown
    refine ⟨A, ts.length, cap, ts, 0, 0, rfl, ?_, rfl, RdK.of_own hown rfl, .inl ⟨rfl, rfl, rfl⟩⟩
    rcases hown.2 with ⟨hv, hz⟩ | ⟨g, cp, cur, hv, hb, hg, hnc, _⟩
    · omega
    · injection hv with _ _ h3
      rw [h3]
      exact hnc
end Go.Proofs.Ytmefllfmcjjbaaa
