/- regex: the reference: Skip, counted. -/
import Derived.Test.YtplldfbjbekdlaaDoorRxM
import Derived.Deep.Cut
import Derived.Deep.LoopGhost
namespace Go.Proofs.YtplldfbjbekdlaaDoor
open Go.RowKit
set_option linter.unusedVariables false
set_option linter.unusedSimpArgs false

theorem nx_str {s : ByteArray} {i : Nat} (h : i < s.size) : ((s[i]'h).toNat : Int) = (nx s.data.toList i : Int) := by
  rw [nx_at (show i < s.data.toList.length from h)]
  rfl
theorem ext_list (s : ByteArray) (i e : Nat) : (s.extract i e).data.toList = (s.data.toList.drop i).take (e - i) := by
  rw [ByteArray.data_extract]
  simp only [Array.toList_extract, List.extract_eq_take_drop]
theorem ext_drop (s : ByteArray) (j : Nat) : (s.extract j s.size).data.toList = s.data.toList.drop j := by
  rw [ext_list, List.take_of_length_le (by rw [List.length_drop]; exact Nat.le_refl _)]
theorem ext_siz (s : ByteArray) (j : Nat) : (s.extract j s.size).size = s.size - j := by
  have h : (s.extract j s.size).data.toList.length = (s.extract j s.size).size := rfl
  rw [← h, ext_drop, List.length_drop]; rfl
/-- What Skip owes, one less deep. -/
def SkAt (d : Nat) : Prop := ∀ (s : ByteArray) (n : Nat) (w : World), s.size ≤ 1000 → skP d s.data.toList = some n → Calls Tryd.prog 14 #[.string s] w fun e w' => e = .returned (.int .i64 (n : Int)) ∧ w' = w
set_option maxRecDepth 100000 in
set_option maxHeartbeats 4000000 in
theorem sk_one {d : Nat} (ih : SkAt d) (s : ByteArray) (n : Nat) (w : World) (hs : s.size ≤ 1000) (h0 : 0 < s.size) (hc : nx s.data.toList 0 = 91) (h : lpT (skP d) 93 s.data.toList (s.data.toList.length + 1) 1 = some n) :
    Calls Tryd.prog 14 #[.string s] w fun e w' => e = .returned (.int .i64 (n : Int)) ∧ w' = w := by
  have hsz : s.data.toList.length = s.size := rfl
  have e0 := nx_str h0
  rw [hc] at e0
  have IH := hid (fun (W : World) (j m : Nat) (hm : skP d (s.data.toList.drop j) = some m) => ih (s.extract j s.size) m W (by rw [ext_siz]; omega) (by rw [ext_drop]; exact hm))
  have H := hid h
  clear h hc ih
  go_enter Tryd.func14, Tryd.ntmps14
  go_wp2_with fail
  go_loopg [3] (s.data.toList.length + 1) (fun k i wr => ∃ j : Nat, 1 ≤ j ∧ j ≤ 1000 ∧ i = .int .i64 (j : Int) ∧ Hid (lpT (skP d) 93 s.data.toList k j = some n) ∧ wr = w)
  case atStart => exact ⟨1, by omega, by omega, rfl, H, rfl⟩
  case round =>
    clear H
    obtain ⟨j, hj1, hj, rfl, H, rfl⟩ := hrel
    obtain ⟨k, rfl⟩ : ∃ k, gk = k + 1 := by
      cases gk with
      | zero => exact absurd H.out (by unfold lpT; intro q; cases q)
      | succ k => exact ⟨k, rfl⟩
    have h := H.out
    clear H
    unfold lpT at h
    split at h
    · cases h
    rename_i hlt
    rw [hsz] at hlt
    have hjs : j < s.size := by omega
    have ej := nx_str hjs
    have bj : (j : Int) < (s.size : Int) := by omega
    split at h
    · rename_i hx
      injection h with h
      rw [hx] at ej
      clear hx
      subst h
      go_wp2_with fail
      go_ret
      exact ⟨rfl, rfl⟩
    · rename_i hx
      have n1 : ¬ (nx s.data.toList j : Int) = 93 := by omega
      cases hm : skP d (s.data.toList.drop j) with
      | none => rw [hm] at h; cases h
      | some m =>
        rw [hm] at h
        have HM := hid (fun W => IH.out W j m hm)
        have hle := skP_le _ _ _ hm
        rw [List.length_drop, hsz] at hle
        have H := hid h
        clear h hm hx IH
        generalize nx s.data.toList j = x at *
        go_wp2_with fail
        refine (HM.out _).mono ?_
        rintro e w1 ⟨rfl, rfl⟩
        go_wp2_with fail
        go_roundg k
        case measure => omega
        case rel => exact ⟨j + m, by omega, by omega, by go_num, H, rfl⟩
set_option maxRecDepth 100000 in
set_option maxHeartbeats 4000000 in
theorem sk_two {d : Nat} (ih : SkAt d) (s : ByteArray) (n : Nat) (w : World) (hs : s.size ≤ 1000) (h0 : 0 < s.size) (hc : nx s.data.toList 0 = 40) (h : lpT (skP d) 41 s.data.toList (s.data.toList.length + 1) 1 = some n) :
    Calls Tryd.prog 14 #[.string s] w fun e w' => e = .returned (.int .i64 (n : Int)) ∧ w' = w := by
  have hsz : s.data.toList.length = s.size := rfl
  have e0 := nx_str h0
  rw [hc] at e0
  have IH := hid (fun (W : World) (j m : Nat) (hm : skP d (s.data.toList.drop j) = some m) => ih (s.extract j s.size) m W (by rw [ext_siz]; omega) (by rw [ext_drop]; exact hm))
  have H := hid h
  clear h hc ih
  go_enter Tryd.func14, Tryd.ntmps14
  go_wp2_with fail
  go_loopg [4] (s.data.toList.length + 1) (fun k i wr => ∃ j : Nat, 1 ≤ j ∧ j ≤ 1000 ∧ i = .int .i64 (j : Int) ∧ Hid (lpT (skP d) 41 s.data.toList k j = some n) ∧ wr = w)
  case atStart => exact ⟨1, by omega, by omega, rfl, H, rfl⟩
  case round =>
    clear H
    obtain ⟨j, hj1, hj, rfl, H, rfl⟩ := hrel
    obtain ⟨k, rfl⟩ : ∃ k, gk = k + 1 := by
      cases gk with
      | zero => exact absurd H.out (by unfold lpT; intro q; cases q)
      | succ k => exact ⟨k, rfl⟩
    have h := H.out
    clear H
    unfold lpT at h
    split at h
    · cases h
    rename_i hlt
    rw [hsz] at hlt
    have hjs : j < s.size := by omega
    have ej := nx_str hjs
    have bj : (j : Int) < (s.size : Int) := by omega
    split at h
    · rename_i hx
      injection h with h
      rw [hx] at ej
      clear hx
      subst h
      go_wp2_with fail
      go_ret
      exact ⟨rfl, rfl⟩
    · rename_i hx
      have n1 : ¬ (nx s.data.toList j : Int) = 41 := by omega
      cases hm : skP d (s.data.toList.drop j) with
      | none => rw [hm] at h; cases h
      | some m =>
        rw [hm] at h
        have HM := hid (fun W => IH.out W j m hm)
        have hle := skP_le _ _ _ hm
        rw [List.length_drop, hsz] at hle
        have H := hid h
        clear h hm hx IH
        generalize nx s.data.toList j = x at *
        go_wp2_with fail
        refine (HM.out _).mono ?_
        rintro e w1 ⟨rfl, rfl⟩
        go_wp2_with fail
        go_roundg k
        case measure => omega
        case rel => exact ⟨j + m, by omega, by omega, by go_num, H, rfl⟩
set_option maxRecDepth 100000 in
set_option maxHeartbeats 4000000 in
theorem rSkip_any : ∀ d, SkAt d
  | 0 => fun s n w hs h => by cases h
  | d + 1 => fun s n w hs h => by
    have hsz : s.data.toList.length = s.size := rfl
    have ih := rSkip_any d
    unfold skP at h
    split at h
    · cases h
    rename_i h0
    rw [hsz] at h0
    have p0 : 0 < s.size := by omega
    have e0 := nx_str p0
    split at h
    · rename_i h1
      rw [h1] at e0
      split at h
      · cases h
      rename_i h2
      rw [hsz] at h2
      have p1 : 1 < s.size := by omega
      have e1 := nx_str p1
      split at h
      · rename_i h3
        rw [h3] at e1
        split at h
        · cases h
        injection h with h
        subst h
        clear h1 h3 ih
        go_enter Tryd.func14, Tryd.ntmps14
        go_wp2_with fail
        go_ret
        exact ⟨rfl, rfl⟩
      · rename_i h3
        injection h with h
        subst h
        have n1 : ¬ (nx s.data.toList 1 : Int) = 120 := by omega
        generalize nx s.data.toList 1 = x at *
        clear h1 h3 ih
        go_enter Tryd.func14, Tryd.ntmps14
        go_wp2_with fail
        go_ret
        exact ⟨rfl, rfl⟩
    rename_i h1
    split at h
    · rename_i h2
      exact sk_one ih s n w hs p0 h2 h
    rename_i h2
    split at h
    · rename_i h3
      exact sk_two ih s n w hs p0 h3 h
    rename_i h3
    injection h with h
    subst h
    have n1 : ¬ (nx s.data.toList 0 : Int) = 92 := by omega
    have n2 : ¬ (nx s.data.toList 0 : Int) = 91 := by omega
    have n3 : ¬ (nx s.data.toList 0 : Int) = 40 := by omega
    generalize nx s.data.toList 0 = x at *
    clear h1 h2 h3 ih
    go_enter Tryd.func14, Tryd.ntmps14
    go_wp2_with fail
    go_ret
    exact ⟨rfl, rfl⟩
theorem clB_le {s : List UInt8} : ∀ (k n m : Nat), clB k s n = some m → n + 1 ≤ m ∧ m ≤ s.length
  | 0, _, _, h => by cases h
  | k + 1, n, m, h => by
    unfold clB at h
    split at h
    · cases h
    · split at h
      · injection h with h
        omega
      · have := clB_le k _ _ h
        omega
theorem cnP_le {s : List UInt8} {n : Nat} (h : cnP s = some n) : n ≤ s.length := by
  unfold cnP at h
  split at h
  · injection h with h
    omega
  · split at h
    · injection h with h
      omega
    · split at h
      · injection h with h
        omega
      · exact (clB_le _ _ _ h).2
set_option maxRecDepth 100000 in
set_option maxHeartbeats 4000000 in
theorem rCnt_any (s : ByteArray) (n : Nat) (w : World) (hs : s.size ≤ 1000) (h : cnP s.data.toList = some n) :
    Calls Tryd.prog 23 #[.string s] w fun e w' => e = .returned (.int .i64 (n : Int)) ∧ w' = w := by
  have hsz : s.data.toList.length = s.size := rfl
  unfold cnP at h
  split at h
  · rename_i h0
    rw [hsz] at h0
    injection h with h
    subst h
    obtain rfl : s = ⟨#[]⟩ := ByteArray.ext (Array.eq_empty_of_size_eq_zero h0)
    go_enter Tryd.func23, Tryd.ntmps23
    go_wp2_with fail
    go_ret
    exact ⟨rfl, rfl⟩
  rename_i h0
  rw [hsz] at h0
  have p0 : 0 < s.size := by omega
  have e0 := nx_str p0
  have hne : s.toList.isEmpty = false := by
    rw [ByteArray.toList_eq]
    cases hl : s.data.toList with
    | nil => rw [hl] at hsz; simp at hsz; omega
    | cons a b => rfl
  split at h
  · rename_i h1
    injection h with h
    subst h
    generalize nx s.data.toList 0 = x at *
    rcases h1 with rfl | rfl | rfl
    all_goals
      go_enter Tryd.func23, Tryd.ntmps23
      go_wp2_with fail
      go_ret
      exact ⟨rfl, rfl⟩
  rename_i h1
  have n1 : ¬ (nx s.data.toList 0 : Int) = 42 := by omega
  have n2 : ¬ (nx s.data.toList 0 : Int) = 43 := by omega
  have n3 : ¬ (nx s.data.toList 0 : Int) = 63 := by omega
  split at h
  · rename_i h2
    injection h with h
    subst h
    have n4 : ¬ (nx s.data.toList 0 : Int) = 123 := by omega
    have m1 : ((nx s.data.toList 0 : Int) == 42) = false := by simp; omega
    have m2 : ((nx s.data.toList 0 : Int) == 43) = false := by simp; omega
    have m3 : ((nx s.data.toList 0 : Int) == 63) = false := by simp; omega
    generalize nx s.data.toList 0 = x at *
    clear h1 h2 n1 n2 n3
    go_enter Tryd.func23, Tryd.ntmps23
    go_wp2_with fail
    go_ret
    exact ⟨rfl, rfl⟩
  rename_i h2
  have h2' : nx s.data.toList 0 = 123 := by omega
  rw [h2'] at e0
  have H := hid h
  clear h h1 h2 h2' n1 n2 n3
  go_enter Tryd.func23, Tryd.ntmps23
  go_wp2_with fail
  go_loopg [3] (s.data.toList.length + 1) (fun k i wr => ∃ j : Nat, 1 ≤ j ∧ j ≤ 1000 ∧ i = .int .i64 (j : Int) ∧ Hid (clB k s.data.toList j = some n) ∧ wr = w)
  case atStart => exact ⟨1, by omega, by omega, rfl, H, rfl⟩
  case round =>
    clear H
    obtain ⟨j, hj1, hj, rfl, H, rfl⟩ := hrel
    obtain ⟨k, rfl⟩ : ∃ k, gk = k + 1 := by
      cases gk with
      | zero => exact absurd H.out (by unfold clB; intro q; cases q)
      | succ k => exact ⟨k, rfl⟩
    have h := H.out
    clear H
    unfold clB at h
    split at h
    · cases h
    rename_i hlt
    rw [hsz] at hlt
    have hjs : j < s.size := by omega
    have ej := nx_str hjs
    have bj : (j : Int) < (s.size : Int) := by omega
    split at h
    · rename_i hx
      injection h with h
      rw [hx] at ej
      clear hx
      subst h
      go_wp2_with fail
      go_ret
      exact ⟨rfl, rfl⟩
    · rename_i hx
      have n1 : ¬ (nx s.data.toList j : Int) = 125 := by omega
      have H := hid h
      clear h hx
      generalize nx s.data.toList j = x at *
      go_wp2_with fail
      go_roundg k
      case measure => omega
      case rel => exact ⟨j + 1, by omega, by omega, by go_num, H, rfl⟩
end Go.Proofs.YtplldfbjbekdlaaDoor

/- regex: the reference: often. -/
namespace Go.Proofs.YtplldfbjbekdlaaDoor
open Go.RowKit
set_option linter.unusedVariables false
set_option linter.unusedSimpArgs false

set_option maxRecDepth 100000 in
set_option maxHeartbeats 4000000 in
theorem rOft_any (s : ByteArray) (lo : Nat) (hi : Int) (w : World) (hs : s.size ≤ 1000) (h : oftP s.data.toList = some (lo, hi)) :
    Calls Tryd.prog 24 #[.string s] w fun e w' => e = .returned (.tuple #[.int .i64 (lo : Int), .int .i64 hi]) ∧ w' = w := by
  have hsz : s.data.toList.length = s.size := rfl
  have lit : ∀ b : UInt8, s.data.toList = [b] → s = ⟨#[b]⟩ := fun b e => ByteArray.ext (Array.toList_inj.1 e)
  unfold oftP at h
  split at h
  · rename_i h1
    injection h with h
    injection h with ha hb
    subst ha hb
    obtain rfl := lit _ h1
    go_enter Tryd.func24, Tryd.ntmps24
    go_wp2_with fail
    go_ret2
    exact ⟨rfl, rfl⟩
  rename_i h1
  split at h
  · rename_i h2
    injection h with h
    injection h with ha hb
    subst ha hb
    obtain rfl := lit _ h2
    go_enter Tryd.func24, Tryd.ntmps24
    go_wp2_with fail
    go_ret2
    exact ⟨rfl, rfl⟩
  rename_i h2
  split at h
  · rename_i h3
    injection h with h
    injection h with ha hb
    subst ha hb
    obtain rfl := lit _ h3
    go_enter Tryd.func24, Tryd.ntmps24
    go_wp2_with fail
    go_ret2
    exact ⟨rfl, rfl⟩
  rename_i h3
  have m1 : (s.toList == [42]) = false := by rw [ByteArray.toList_eq]; simpa using h1
  have m2 : (s.toList == [43]) = false := by rw [ByteArray.toList_eq]; simpa using h2
  have m3 : (s.toList == [63]) = false := by rw [ByteArray.toList_eq]; simpa using h3
  clear h1 h2 h3 lit
  cases hL : oftL s.data.toList (s.data.toList.length + 1) 1 0 0 false with
  | none => rw [hL] at h; cases h
  | some v =>
    obtain ⟨LO, HI, B⟩ := v
    rw [hL] at h
    simp only at h
    have H := hid h
    have HL := hid hL
    clear h hL
    go_enter Tryd.func24, Tryd.ntmps24
    go_wp2_with fail
    go_loopg [4, 5, 6, 7] (s.data.toList.length + 1) (fun k a b c i wr => ∃ (x y j : Nat) (z : Bool), 1 ≤ j ∧ j ≤ 1001 ∧ a = .int .i64 (x : Int) ∧ b = .int .i64 (y : Int) ∧ c = .bool z ∧ i = .int .i64 (j : Int) ∧ Hid (oftL s.data.toList k j x y z = some (LO, HI, B)) ∧ wr = w)
    case atStart => exact ⟨0, 0, 1, false, by omega, by omega, rfl, rfl, rfl, rfl, HL, rfl⟩
    case round =>
      clear HL
      obtain ⟨x, y, j, z, hj1, hj, rfl, rfl, rfl, rfl, HL, rfl⟩ := hrel
      obtain ⟨k, rfl⟩ : ∃ k, gk = k + 1 := by
        cases gk with
        | zero => exact absurd HL.out (by unfold oftL; intro q; cases q)
        | succ k => exact ⟨k, rfl⟩
      have h := HL.out
      clear HL
      unfold oftL at h
      split at h
      · rename_i hlt
        rw [hsz] at hlt
        injection h with h
        injection h with ha h
        injection h with hb hc
        subst ha hb hc
        have n1 : ¬ (j : Int) < (s.size : Int) - 1 := by omega
        have h := H.out
        clear H
        cases z with
        | false =>
          rw [if_pos rfl] at h
          injection h with h
          injection h with ha hb
          subst ha hb
          go_wp2_with fail
          go_ret2
          exact ⟨rfl, rfl⟩
        | true =>
          rw [if_neg (by decide), hsz] at h
          split at h
          · cases h
          rename_i h2
          have hjs : s.size - 2 < s.size := by omega
          have ej := nx_str hjs
          have b1 : (0 : Int) ≤ (s.size : Int) - 2 := by omega
          have b2 : (s.size : Int) - 2 = ((s.size - 2 : Nat) : Int) := by omega
          split at h
          · rename_i hx
            injection h with h
            injection h with ha hb
            subst ha hb
            rw [hx] at ej
            go_wp2_with fail
            go_ret2
            exact ⟨rfl, rfl⟩
          · rename_i hx
            injection h with h
            injection h with ha hb
            subst ha hb
            have n2 : ¬ (nx s.data.toList (s.size - 2) : Int) = 44 := by omega
            generalize nx s.data.toList (s.size - 2) = q at *
            go_wp2_with fail
            go_ret2
            exact ⟨rfl, rfl⟩
      · rename_i hlt
        rw [hsz] at hlt
        split at h
        · cases h
        rename_i hbig
        have hjs : j < s.size := by omega
        have ej := nx_str hjs
        have bj : (j : Int) < (s.size : Int) := by omega
        have n1 : (j : Int) < (s.size : Int) - 1 := by omega
        split at h
        · rename_i hx
          rw [hx] at ej
          have HL := hid h
          clear h hx
          go_wp2_with fail
          go_roundg k
          case measure => omega
          case rel => exact ⟨x, y, j + 1, true, by omega, by omega, rfl, rfl, rfl, by go_num, HL, rfl⟩
        · rename_i hx
          have n2 : ¬ (nx s.data.toList j : Int) = 44 := by omega
          have hb := nx_byte s.data.toList j
          have hy : ((nx s.data.toList j : Int) - 48) % 256 = (((nx s.data.toList j + 256 - 48) % 256 : Nat) : Int) := by omega
          have hY : (nx s.data.toList j + 256 - 48) % 256 < 256 := Nat.mod_lt _ (by decide)
          generalize (nx s.data.toList j + 256 - 48) % 256 = Y at *
          generalize nx s.data.toList j = X at *
          cases z with
          | true =>
            rw [if_pos rfl] at h
            have HL := hid h
            clear h hx
            go_wp2_with fail
            go_roundg k
            case measure => omega
            case rel => exact ⟨x, y * 10 + Y, j + 1, true, by omega, by omega, rfl, by go_num, rfl, by go_num, HL, rfl⟩
          | false =>
            rw [if_neg (by decide)] at h
            have HL := hid h
            clear h hx
            go_wp2_with fail
            go_roundg k
            case measure => omega
            case rel => exact ⟨x * 10 + Y, y, j + 1, false, by omega, by omega, by go_num, rfl, rfl, by go_num, HL, rfl⟩
end Go.Proofs.YtplldfbjbekdlaaDoor
