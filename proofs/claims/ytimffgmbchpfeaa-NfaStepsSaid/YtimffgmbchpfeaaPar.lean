/- wide.written, wide.Parse. -/
import Derived.Test.YtimffgmbchpfeaaDig
namespace Go.Proofs.Ytimffgmbchpfeaa
open Go.RowKit

theorem written_bad (s : ByteArray) (k : Nat) (hs : s.size ≤ maxLen) (hk : k < s.size) (hg : ∀ j (h : j < k), isDig s[j]) (hb : ¬ isDig s[k]) (w : World) :
    Calls Try.prog 69 #[.string s] w fun e w' => e = .returned (.bool false) ∧ w = w' := by
  unfold maxLen at hs
  have HG := hid hg
  have HB := hid hb
  clear hg hb
  go_enter Try.func69, Try.ntmps69
  go_wp2
  go_loop [6] (fun i => ∃ j : Nat, j ≤ k ∧ i = .int .i64 j) (fun i => s.size - (intOf i).toNat)
  case atStart => exact ⟨0, by omega, rfl⟩
  case round =>
    obtain ⟨j, hj, rfl⟩ := hrel
    have hjs : j < s.size := by omega
    by_cases hlt : j < k
    · have hd := HG.out j hlt
      obtain ⟨h1, h2⟩ := hd
      go_wp2
      go_round
      case rel => exact ⟨j + 1, by omega, by go_num⟩
      case measure => simp [intOf]; omega
    · obtain rfl : j = k := by omega
      have hb := HB.out
      unfold isDig at hb
      by_cases h1 : s[j].toNat < 48
      · clear hb
        go_wp2
        go_ret
        exact ⟨rfl, rfl⟩
      · have h2 : 57 < s[j].toNat := by omega
        clear hb
        go_wp2
        go_ret
        exact ⟨rfl, rfl⟩

theorem str_len (s : ByteArray) : s.data.toList.length = s.size := rfl
theorem byte_ne {c : UInt8} (h : ¬ c = 48) : ¬ ((c.toNat : Int) = 48) := fun e => h (UInt8.toNat_inj.1 (by have e48 : (48 : UInt8).toNat = 48 := rfl; omega))
/-- Digits alone. -/
theorem written_digs (s : ByteArray) (hs : s.size ≤ maxLen) (hg : ∀ j (h : j < s.size), isDig s[j]) (w : World) :
    Calls Try.prog 69 #[.string s] w fun e w' => e = .returned (.bool (decide (s.size ≠ 0 ∧ (s.size = 1 ∨ s.data.toList.getD 0 0 ≠ 48)))) ∧ w = w' := by
  unfold maxLen at hs
  have HG := hid hg
  clear hg
  go_enter Try.func69, Try.ntmps69
  go_wp2
  go_loop [6] (fun i => ∃ j : Nat, j ≤ s.size ∧ i = .int .i64 j) (fun i => s.size - (intOf i).toNat)
  case atStart => exact ⟨0, by omega, rfl⟩
  case round =>
    obtain ⟨j, hj, rfl⟩ := hrel
    by_cases hlt : j < s.size
    · have hd := HG.out j hlt
      obtain ⟨h1, h2⟩ := hd
      go_wp2
      go_round
      case rel => exact ⟨j + 1, by omega, by go_num⟩
      case measure => simp [intOf]; omega
    · go_upto_region 7 with (fail)
      obtain ⟨⟨l⟩⟩ := s
      clear HG
      have hj' : l.length ≤ j := by simpa [ByteArray.size] using hlt
      have hjl : j ≤ l.length := by simpa [ByteArray.size] using hj
      obtain rfl : j = l.length := by omega
      clear hj' hjl hj hlt
      rcases l with _ | ⟨c, l⟩
      · go_wp2
        go_ret
        exact ⟨rfl, rfl⟩
      · rcases l with _ | ⟨d, l⟩
        · by_cases hc : c = 48
          · subst hc
            go_wp2
            go_ret
            exact ⟨rfl, rfl⟩
          · go_wp2
            go_ret
            exact ⟨by simp [hc]; exact byte_ne hc, rfl⟩
        · by_cases hc : c = 48
          · subst hc
            go_wp2
            go_ret
            exact ⟨by simp; rfl, rfl⟩
          · go_wp2
            go_ret
            exact ⟨by simp; exact byte_ne hc, rfl⟩

theorem wrt_iff (s : ByteArray) (hd : ∀ c ∈ s.data.toList, isDig c) : Wrt s.data.toList ↔ (s.size ≠ 0 ∧ (s.size = 1 ∨ s.data.toList.getD 0 0 ≠ 48)) := by
  unfold Wrt
  rw [← str_len]
  generalize s.data.toList = l at *
  constructor
  · rintro ⟨_, h2, h3⟩
    exact ⟨by simpa using h2, h3⟩
  · rintro ⟨h2, h3⟩
    exact ⟨hd, by simpa using h2, h3⟩

theorem written_yes (s : ByteArray) (hs : s.size ≤ maxLen) (h : Wrt s.data.toList) (w : World) :
    Calls Try.prog 69 #[.string s] w fun e w' => e = .returned (.bool true) ∧ w = w' := by
  refine (written_digs s hs (fun j hj => h.1 _ (List.getElem_mem (l := s.data.toList) hj)) w).mono ?_
  rintro e w' ⟨rfl, rfl⟩
  rw [decide_eq_true ((wrt_iff s h.1).1 h)]
  exact ⟨rfl, rfl⟩

theorem first_bad (l : List UInt8) (h : ¬ ∀ c ∈ l, isDig c) : ∃ k, ∃ hk : k < l.length, (∀ j (_ : j < k), isDig l[j]) ∧ ¬ isDig l[k] := by
  induction l with
  | nil => exact absurd (by simp) h
  | cons c l ih =>
    by_cases hc : isDig c
    · obtain ⟨k, hk, h1, h2⟩ := ih (fun h' => h (fun x hx => by
        rcases List.mem_cons.1 hx with rfl | hx
        · exact hc
        · exact h' x hx))
      refine ⟨k + 1, by simpa using hk, fun j hj => ?_, by simpa using h2⟩
      cases j with
      | zero => simpa using hc
      | succ j => simpa using h1 j (by omega)
    · exact ⟨0, by simp, fun j hj => absurd hj (by omega), by simpa using hc⟩

theorem written_no (s : ByteArray) (hs : s.size ≤ maxLen) (h : ¬ Wrt s.data.toList) (w : World) :
    Calls Try.prog 69 #[.string s] w fun e w' => e = .returned (.bool false) ∧ w = w' := by
  by_cases hd : ∀ c ∈ s.data.toList, isDig c
  · refine (written_digs s hs (fun j hj => hd _ (List.getElem_mem (l := s.data.toList) hj)) w).mono ?_
    rintro e w' ⟨rfl, rfl⟩
    rw [decide_eq_false (fun hh => h ((wrt_iff s hd).2 hh))]
    exact ⟨rfl, rfl⟩
  · obtain ⟨k, hk, h1, h2⟩ := first_bad _ hd
    exact written_bad s k hs hk h1 h2 w

theorem parse_form (s : ByteArray) (hs : s.size ≤ maxLen) (h : ¬ Wrt s.data.toList) (w : World) :
    Calls Try.prog 66 #[.string s] w fun e w' => e = .returned (.tuple #[.int .u64 0, .int .i64 5]) ∧ w = w' := by
  have HW := hid (fun w => written_no s hs h w)
  clear h
  go_enter Try.func66, Try.ntmps66
  go_wp2_with (go_at_call 69; refine (HW.out _).mono ?_; rintro e w' ⟨rfl, rfl⟩)
  go_ret2
  exact ⟨rfl, rfl⟩

theorem valL_take_succ (l : List UInt8) (k : Nat) (h : k < l.length) : valL (l.take (k + 1)) = 10 * valL (l.take k) + (l[k].toNat - 48) := by
  rw [List.take_succ_eq_append_getElem h, valL_snoc]

theorem line_at (m x c : Nat) (hc : 48 ≤ c) (hm : m < 18446744073709551616) (hx : x < 18446744073709551616) (h : m * x + (c - 48) < 18446744073709551616) (w : World) :
    Calls Try.prog 70 #[.int .u64 m, .int .u64 x, .int .u64 ((c : Int) - 48)] w fun e w' => e = .returned (.tuple #[.int .u64 ((m * x + (c - 48) : Nat) : Int), .int .i64 0]) ∧ w = w' := by
  have h2 := line_ok m x (c - 48) hm hx h w
  rw [show ((c - 48 : Nat) : Int) = (c : Int) - 48 by omega] at h2
  exact h2
theorem line_at_over (m x c : Nat) (hc : 48 ≤ c) (hc2 : c < 256) (hm : m < 18446744073709551616) (hx : x < 18446744073709551616) (h : 18446744073709551616 ≤ m * x + (c - 48)) (w : World) :
    Calls Try.prog 70 #[.int .u64 m, .int .u64 x, .int .u64 ((c : Int) - 48)] w fun e w' => e = .returned (.tuple #[.int .u64 0, .int .i64 40]) ∧ w = w' := by
  have h2 := line_over m x (c - 48) hm hx (by omega) h w
  rw [show ((c - 48 : Nat) : Int) = (c : Int) - 48 by omega] at h2
  exact h2

theorem parse_ok (s : ByteArray) (hs : s.size ≤ maxLen) (h : Wrt s.data.toList) (hv : valL s.data.toList < 18446744073709551616) (w : World) :
    Calls Try.prog 66 #[.string s] w fun e w' => e = .returned (.tuple #[.int .u64 ((valL s.data.toList : Nat) : Int), .int .i64 0]) ∧ w = w' := by
  have HW := hid (fun w => written_yes s hs h w)
  have HD := hid h.1
  have HV := hid hv
  clear h hv
  unfold maxLen at hs
  go_enter Try.func66, Try.ntmps66
  go_wp2_with (go_at_call 69; refine (HW.out _).mono ?_; rintro e w' ⟨rfl, rfl⟩)
  go_loop [4, 13] (fun v i => ∃ j : Nat, j ≤ s.size ∧ i = .int .i64 j ∧ v = .int .u64 ((valL (s.data.toList.take j) : Nat) : Int)) (fun _ i => s.size - (intOf i).toNat)
  case atStart => exact ⟨0, by omega, rfl, rfl⟩
  case round =>
    obtain ⟨j, hj, rfl, rfl⟩ := hrel
    by_cases hlt : j < s.size
    · have hd := HD.out s[j] (List.getElem_mem (l := s.data.toList) hlt)
      obtain ⟨h1, h2⟩ := hd
      have hs1 : valL (s.data.toList.take (j + 1)) = 10 * valL (s.data.toList.take j) + (s[j].toNat - 48) := valL_take_succ s.data.toList j hlt
      have hle := valL_take_le s.data.toList (j + 1)
      have HL := hid (fun w => line_at 10 (valL (s.data.toList.take j)) s[j].toNat h1 (by omega) (by have := HV.out; omega) (by have := HV.out; omega) w)
      rw [← hs1] at HL
      clear hs1 hle
      generalize hv1 : valL (s.data.toList.take (j + 1)) = v1 at HL
      have HV1 := hid hv1
      clear hv1
      generalize valL (s.data.toList.take j) = v0 at *
      go_wp2_with fail
      refine (HL.out _).mono ?_
      rintro e w' ⟨rfl, rfl⟩
      go_wp2
      go_round
      case rel => exact ⟨j + 1, by omega, by go_num, by rw [HV1.out]⟩
      case measure => simp [intOf]; omega
    · have HE := hid (show s.data.toList.take j = s.data.toList from List.take_of_length_le (by rw [str_len]; omega))
      go_wp2
      go_ret2
      exact ⟨by rw [HE.out]; rfl, rfl⟩

theorem parse_over (s : ByteArray) (hs : s.size ≤ maxLen) (h : Wrt s.data.toList) (hv : 18446744073709551616 ≤ valL s.data.toList) (w : World) :
    Calls Try.prog 66 #[.string s] w fun e w' => e = .returned (.tuple #[.int .u64 0, .int .i64 40]) ∧ w = w' := by
  have HW := hid (fun w => written_yes s hs h w)
  have HD := hid h.1
  have HV := hid hv
  clear h hv
  unfold maxLen at hs
  go_enter Try.func66, Try.ntmps66
  go_wp2_with (go_at_call 69; refine (HW.out _).mono ?_; rintro e w' ⟨rfl, rfl⟩)
  go_loop [4, 13] (fun v i => ∃ j : Nat, j ≤ s.size ∧ i = .int .i64 j ∧ v = .int .u64 ((valL (s.data.toList.take j) : Nat) : Int) ∧ valL (s.data.toList.take j) < 18446744073709551616) (fun _ i => s.size - (intOf i).toNat)
  case atStart => exact ⟨0, by omega, rfl, rfl, by simp [valL]⟩
  case round =>
    obtain ⟨j, hj, rfl, rfl, hlo⟩ := hrel
    by_cases hlt : j < s.size
    · have hd := HD.out s[j] (List.getElem_mem (l := s.data.toList) hlt)
      obtain ⟨h1, h2⟩ := hd
      have hs1 : valL (s.data.toList.take (j + 1)) = 10 * valL (s.data.toList.take j) + (s[j].toNat - 48) := valL_take_succ s.data.toList j hlt
      by_cases hov : valL (s.data.toList.take (j + 1)) < 18446744073709551616
      · have HL := hid (fun w => line_at 10 (valL (s.data.toList.take j)) s[j].toNat h1 (by omega) (by omega) (by omega) w)
        rw [← hs1] at HL
        have HO := hid hov
        clear hs1 hlo hov
        generalize hv1 : valL (s.data.toList.take (j + 1)) = v1 at HL HO
        have HV1 := hid hv1
        clear hv1
        generalize valL (s.data.toList.take j) = v0 at *
        go_wp2_with fail
        refine (HL.out _).mono ?_
        rintro e w' ⟨rfl, rfl⟩
        go_wp2
        go_round
        case rel => exact ⟨j + 1, by omega, by go_num, by rw [HV1.out], by rw [HV1.out]; exact HO.out⟩
        case measure => simp [intOf]; omega
      · have HL := hid (fun w => line_at_over 10 (valL (s.data.toList.take j)) s[j].toNat h1 (by omega) (by omega) (by omega) (by omega) w)
        clear hs1 hlo hov
        generalize valL (s.data.toList.take j) = v0 at *
        go_wp2_with fail
        refine (HL.out _).mono ?_
        rintro e w' ⟨rfl, rfl⟩
        go_wp2
        go_ret2
        exact ⟨rfl, rfl⟩
    · have HE := List.take_of_length_le (l := s.data.toList) (i := j) (by rw [str_len]; omega)
      rw [HE] at hlo
      exact absurd HV.out (by omega)
end Go.Proofs.Ytimffgmbchpfeaa
