/- lex: a token. -/
import Derived.Test.YtmefllfmcjjbaaaLxB
namespace Go.Proofs.Ytmefllfmcjjbaaa
open Go.RowKit

theorem drop_str (s : ByteArray) (k : Nat) (h : k ≤ s.size) : s.extract k s.size = ⟨(s.data.toList.drop k).toArray⟩ := by
  have h1 := mid_str s k s.size h (Nat.le_refl _)
  rw [h1, List.take_of_length_le (by rw [List.length_drop]; exact Nat.le_refl _)]
set_option maxRecDepth 100000 in
theorem rest_any {w : World} {g : Nat} {s : ByteArray} {i : Nat} (h : Cu w g s i) (hi : i ≤ s.size) (_ : s.size ≤ 65536) :
    Calls Try.prog 35 #[.pointer (some ⟨g, 0, none⟩)] w fun e w' => e = .returned (.string ⟨(s.data.toList.drop i).toArray⟩) ∧ ∃ q, w' = w.drewN q := by
  have HR := hid (drop_str s i hi)
  rw [← HR.out]
  clear HR
  obtain ⟨h0, h1, f1⟩ := h.cells
  have hw2 : (i : Int) ≤ (s.size : Int) := by omega
  go_enter Try.func35, Try.ntmps35
  go_wp2_with fail
  go_quiet (fail)
  go_wp2
  go_ret
  exact ⟨rfl, _, rfl⟩

/-- What a token's function answers. -/
def TkPost (r : Except Nat (Nat × List UInt8 × Nat)) (w : World) (g : Nat) (s : ByteArray) (i : Nat) (e : Ending) (w' : World) : Prop :=
  w.grownBy w' (some g) ∧ match r with
  | .error c => e = .returned (.tuple #[.int .i64 0, .string ⟨#[]⟩, .int .i64 (c : Int)])
  | .ok (k, x, n) => e = .returned (.tuple #[.int .i64 (k : Int), .string ⟨x.toArray⟩, .int .i64 0]) ∧ Cu w' g s (i + n)
theorem take_size (r : List UInt8) (n : Nat) (h : n ≤ r.length) : (⟨(r.take n).toArray⟩ : ByteArray).size = n := by
  show (r.take n).toArray.size = n
  simp
  omega
set_option maxRecDepth 100000 in
theorem name_any {w : World} {g : Nat} {s : ByteArray} {i : Nat} (h : Cu w g s i) (hi : i ≤ s.size) (hs : s.size ≤ 65536) :
    Calls Try.prog 32 #[.pointer (some ⟨g, 0, none⟩)] w (TkPost (if 24 < span namB (s.data.toList.drop i) then .error 2 else .ok (1, (s.data.toList.drop i).take (span namB (s.data.toList.drop i)), span namB (s.data.toList.drop i))) w g s i) := by
  have HP := hid (past_any h hi hs 44 namB name1_tells (enters_of Try.func44 (by kernel_rfl) rfl))
  have hsz := take_size (s.data.toList.drop i) (span namB (s.data.toList.drop i)) (span_le _ _)
  generalize s.data.toList.drop i = r at *
  generalize span namB r = n at *
  obtain ⟨X, hX⟩ : ∃ X : ByteArray, X = ⟨(r.take n).toArray⟩ := ⟨_, rfl⟩
  rw [← hX] at HP hsz
  have HX := hid hX
  clear hX h
  by_cases h24 : 24 < n
  · rw [if_pos h24]
    have e24 : (24 : Int) < (X.size : Int) := by omega
    go_enter Try.func32, Try.ntmps32
    go_wp2_with fail
    refine HP.out.mono ?_
    rintro e w1 ⟨rfl, hc, hg⟩
    have HG := hid hg
    clear hc hg
    go_wp2
    go_ret3
    exact ⟨HG.out, rfl⟩
  · rw [if_neg h24]
    have e24 : ¬ (24 : Int) < (X.size : Int) := by omega
    go_enter Try.func32, Try.ntmps32
    go_wp2_with fail
    refine HP.out.mono ?_
    rintro e w1 ⟨rfl, hc, hg⟩
    have HG := hid hg
    have HC := hid hc
    clear hc hg
    go_wp2
    go_ret3
    exact ⟨HG.out, by rw [← HX.out]; rfl, HC.out⟩
set_option maxRecDepth 100000 in
theorem number_any {w : World} {g : Nat} {s : ByteArray} {i : Nat} (h : Cu w g s i) (hi : i ≤ s.size) (hs : s.size ≤ 65536) (c : UInt8) (t : List UInt8) (hr : s.data.toList.drop i = c :: t) :
    Calls Try.prog 34 #[.pointer (some ⟨g, 0, none⟩)] w (TkPost (if 20 < span digB (c :: t) then .error 2 else if 1 < span digB (c :: t) ∧ c.toNat = 48 then .error 5 else .ok (2, (c :: t).take (span digB (c :: t)), span digB (c :: t))) w g s i) := by
  have HP := hid (past_any h hi hs 33 digB digit_tells (enters_of Try.func33 (by kernel_rfl) rfl))
  have hsz := take_size (c :: t) (span digB (c :: t)) (span_le _ _)
  rw [hr] at HP
  generalize span digB (c :: t) = n at *
  obtain ⟨X, hX⟩ : ∃ X : ByteArray, X = ⟨((c :: t).take n).toArray⟩ := ⟨_, rfl⟩
  rw [← hX] at HP hsz
  have hidx : ∀ h0 : 0 < X.size, (X[0]'h0).toNat = c.toNat := by
    intro h0
    subst hX
    obtain ⟨m, rfl⟩ : ∃ m, n = m + 1 := ⟨n - 1, by omega⟩
    rfl
  have HX := hid hX
  clear hX h
  by_cases h20 : 20 < n
  · rw [if_pos h20]
    have e20 : (20 : Int) < (X.size : Int) := by omega
    clear hidx
    go_enter Try.func34, Try.ntmps34
    go_wp2_with fail
    refine HP.out.mono ?_
    rintro e w1 ⟨rfl, hc, hg⟩
    have HG := hid hg
    clear hc hg
    go_wp2
    go_ret3
    exact ⟨HG.out, rfl⟩
  · rw [if_neg h20]
    have e20 : ¬ (20 : Int) < (X.size : Int) := by omega
    by_cases h1 : 1 < n
    · have e1 : (1 : Int) < (X.size : Int) := by omega
      have h0 : 0 < X.size := by omega
      have hix := hidx h0
      by_cases h48 : c.toNat = 48
      · rw [if_pos ⟨h1, h48⟩]
        rw [h48] at hix
        clear hidx
        go_enter Try.func34, Try.ntmps34
        go_wp2_with fail
        refine HP.out.mono ?_
        rintro e w1 ⟨rfl, hc, hg⟩
        have HG := hid hg
        clear hc hg
        go_wp2
        go_ret3
        exact ⟨HG.out, rfl⟩
      · rw [if_neg (by omega)]
        have h48' : ¬ ((c.toNat : Nat) : Int) = 48 := by omega
        clear hidx
        go_enter Try.func34, Try.ntmps34
        go_wp2_with fail
        refine HP.out.mono ?_
        rintro e w1 ⟨rfl, hc, hg⟩
        have HG := hid hg
        have HC := hid hc
        clear hc hg
        go_wp2
        go_ret3
        exact ⟨HG.out, by rw [← HX.out]; rfl, HC.out⟩
    · rw [if_neg (by omega)]
      have e1 : ¬ (1 : Int) < (X.size : Int) := by omega
      clear hidx
      go_enter Try.func34, Try.ntmps34
      go_wp2_with fail
      refine HP.out.mono ?_
      rintro e w1 ⟨rfl, hc, hg⟩
      have HG := hid hg
      have HC := hid hc
      clear hc hg
      go_wp2
      go_ret3
      exact ⟨HG.out, by rw [← HX.out]; rfl, HC.out⟩
end Go.Proofs.Ytmefllfmcjjbaaa
