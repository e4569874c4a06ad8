/- The walk of the law WideTexts. -/
import Derived.Test.YtmbbjhlpfgpibaaWInts
namespace Go.Proofs.Ytmbbjhlpfgpibaa
open Go.RowKit

/-- What the law has read so far: 'b': too great. -/
def Sofar (l : List UInt8) (j : Nat) (b : Bool) (v : Nat) : Prop := v < 18446744073709551616 ∧ (b = false → v = valL (l.take j)) ∧ (b = true → 18446744073709551616 ≤ valL (l.take j))
theorem Sofar.zero (l : List UInt8) : Sofar l 0 false 0 := ⟨by decide, fun _ => by simp [valL], fun h => by cases h⟩
theorem Sofar.more {l : List UInt8} {j v : Nat} (h : Sofar l j true v) (hj : j < l.length) : Sofar l (j + 1) true v := by
  refine ⟨h.1, (fun h' => by cases h'), fun _ => ?_⟩
  have h1 := h.2.2 rfl
  have h2 := valL_take_succ l j hj
  omega
theorem Sofar.next {l : List UInt8} {j v : Nat} (h : Sofar l j false v) (hj : j < l.length) (hv : 10 * v + (l[j].toNat - 48) < 18446744073709551616) : Sofar l (j + 1) false (10 * v + (l[j].toNat - 48)) := by
  refine ⟨hv, fun _ => ?_, (fun h' => by cases h')⟩
  rw [valL_take_succ l j hj, ← h.2.1 rfl]
theorem Sofar.over {l : List UInt8} {j v : Nat} (h : Sofar l j false v) (hj : j < l.length) (hv : 18446744073709551616 ≤ 10 * v + (l[j].toNat - 48)) : Sofar l (j + 1) true v := by
  refine ⟨h.1, (fun h' => by cases h'), fun _ => ?_⟩
  rw [valL_take_succ l j hj, ← h.2.1 rfl]
  exact hv

theorem parse_digits (n k : Nat) (hn : n < 18446744073709551616) (hk : IsLen n k) (hk2 : k ≤ 20) (w : World) :
    Calls Try.prog 33 #[.string ⟨(lastD n k).toArray⟩] w fun e w' => e = .returned (.tuple #[.int .u64 n, .int .i64 0]) ∧ w = w' := by
  obtain ⟨h1, h2⟩ := isLen_wrt n k hk
  have h := parse_ok ⟨(lastD n k).toArray⟩ (by show (lastD n k).length ≤ _; rw [lastD_len]; unfold maxLen; omega) h1 (by show valL (lastD n k) < _; rw [h2]; exact hn) w
  have e : valL (⟨(lastD n k).toArray⟩ : ByteArray).data.toList = n := h2
  rw [e] at h
  exact h
theorem some_ne (n k : Nat) (hk : IsLen n k) : (⟨(lastD n k).toArray⟩ : ByteArray).toList.isEmpty = false := by
  rw [Go.ByteArray.toList_eq]
  have := (isLen_wrt n k hk).1.2.1
  show (lastD n k).isEmpty = false
  simpa using this

/-- What the law asks first of a text, as the walk spells it. -/
def Good (s : ByteArray) (g : Bool) : Prop :=
  s.toList.isEmpty = false ∧ 0 < s.size ∧ ((((s.size : Int) == 1) = true ∧ g = true) ∨ (((s.size : Int) == 1) = false ∧ ∃ h : 0 < s.size, (((s[0].toNat : Nat) : Int) != 48) = g))
theorem nonempty_text (s : ByteArray) (h : 0 < s.size) : s.toList.isEmpty = false := by
  rw [Go.ByteArray.toList_eq]
  have h2 : 0 < s.data.toList.length := h
  generalize s.data.toList = l at *
  cases l with
  | nil => simp at h2
  | cons c l => rfl
theorem good_any (s : ByteArray) (h : 0 < s.size) : ∃ g, Good s g := by
  by_cases h1 : s.size = 1
  · exact ⟨true, nonempty_text s h, h, .inl ⟨by simp; omega, rfl⟩⟩
  · exact ⟨_, nonempty_text s h, h, .inr ⟨by simp; omega, h, rfl⟩⟩
theorem getD_zero (s : ByteArray) (h : 0 < s.size) : s.data.toList.getD 0 0 = s[0] := by
  obtain ⟨⟨l⟩⟩ := s
  cases l with
  | nil => exact absurd h (by decide)
  | cons c l => rfl
theorem good_wrt (s : ByteArray) (h : Wrt s.data.toList) : Good s true := by
  obtain ⟨h1, h2, h3⟩ := h
  have h0 : 0 < s.size := by
    show 0 < s.data.toList.length
    exact List.length_pos_iff.2 h2
  refine ⟨nonempty_text s h0, h0, ?_⟩
  by_cases hs : s.size = 1
  · exact .inl ⟨by simp; omega, rfl⟩
  · refine .inr ⟨by simp; omega, h0, ?_⟩
    rcases h3 with h3 | h3
    · exact absurd h3 hs
    · rw [getD_zero s h0] at h3
      have := byte_ne h3
      simpa using this
theorem good_no (s : ByteArray) (hd : ∀ c ∈ s.data.toList, isDig c) (h0 : 0 < s.size) (h : ¬ Wrt s.data.toList) : Good s false := by
  refine ⟨nonempty_text s h0, h0, .inr ?_⟩
  rw [wrt_iff s hd] at h
  have h1 : ¬ s.size = 1 := fun e => h ⟨by omega, .inl e⟩
  have h2 : s.data.toList.getD 0 0 = 48 := by
    by_cases e : s.data.toList.getD 0 0 = 48
    · exact e
    · exact absurd ⟨by omega, .inr e⟩ h
  refine ⟨by simp; omega, h0, ?_⟩
  rw [getD_zero s h0] at h2
  rw [h2]
  rfl


set_option maxRecDepth 4000 in
set_option maxHeartbeats 2000000 in
theorem texts_ok (n : Nat) (s : ByteArray) (hn : n < 18446744073709551616) (hs : s.size ≤ 100) (hw : Wrt s.data.toList) (hv : valL s.data.toList < 18446744073709551616) (w : World) :
    Calls Try.prog 12 #[.int .u64 n, .string s] w fun e w' => e = .returned (.bool true) ∧ Below w.heap.size w w' := by
  have HN := hid hn
  have d0 : decide ((100 : Int) < s.size) = false := by simp; omega
  have HS := hid (fun w => parse_ok s (by unfold maxLen; omega) hw hv w)
  have HB := hid (fun w => digits_any (valL s.data.toList) hv w)
  have HV := hid hv
  have HW := hid hw.1
  have HWr := hid hw
  have HG := good_wrt s hw
  clear hn hw hv
  obtain ⟨he, hp, hg⟩ := HG
  rcases hg with ⟨hg1, hg2⟩ | ⟨hg1, _, hg2⟩
  all_goals
    go_enter Try.func12, Try.ntmps12
    go_wp2_with fail
    refine (reckons_any _).mono ?_
    rintro e w1 ⟨rfl, hb1⟩
    go_wp2_with fail
    refine (digits_any n HN.out _).mono ?_
    rintro e w2 ⟨k, hk, hk2, rfl, hb2⟩
    have hbw := hb1.trans (hb2.mono hb1.size)
    have HK := hid hk
    have hd1 := some_ne n k hk
    have hd2 : (⟨(lastD n k).toArray⟩ : ByteArray).size ≤ 20 := by show (lastD n k).length ≤ 20; rw [lastD_len]; exact hk2
    have hd3 : decide ((20 : Int) < (⟨(lastD n k).toArray⟩ : ByteArray).size) = false := by simp; omega
    have HP := hid (fun w => parse_digits n k HN.out hk hk2 w)
    clear hb1 hb2 hk hk2
    generalize (⟨(lastD n k).toArray⟩ : ByteArray) = D at *
    go_wp2_with fail
    refine (HP.out _).mono ?_
    rintro e w' ⟨rfl, rfl⟩
    go_wp2_with fail
    refine (HS.out _).mono ?_
    rintro e w' ⟨rfl, rfl⟩
    go_wp2
    go_loop [10, 11, 12, 62] (fun g v b i => ∃ (j : Nat) (bb : Bool) (u : Nat), j ≤ s.size ∧ i = .int .i64 j ∧ b = .bool bb ∧ v = .int .u64 u ∧ g = .bool true ∧ Hid (Sofar s.data.toList j bb u)) (fun _ _ _ i => s.size - (intOf i).toNat)
    case atStart => exact ⟨0, false, 0, by omega, rfl, rfl, rfl, rfl, hid (Sofar.zero _)⟩
    case round =>
      obtain ⟨j, bb, u, hj, rfl, rfl, rfl, rfl, hS⟩ := hrel
      by_cases hlt : j < s.size
      · obtain ⟨h1, h2⟩ := HW.out s[j] (List.getElem_mem (l := s.data.toList) hlt)
        have hul : u ≤ 18446744073709551615 := by have := hS.out.1; omega
        cases bb
        · by_cases hov : 10 * u + (s[j].toNat - 48) < 18446744073709551616
          · have hd4 : decide (((18446744073709551615 : Int) - ((s[j].toNat : Int) - 48)) / 10 < u) = false := by simp; omega
            have hu1 : u ≤ 1844674407370955161 := by omega
            have hu2 : (u : Int) * 10 + ((s[j].toNat : Int) - 48) ≤ 18446744073709551615 := by omega
            have HE := hid (show (u : Int) * 10 + ((s[j].toNat : Int) - 48) = ((10 * u + (s[j].toNat - 48) : Nat) : Int) by omega)
            have HO := hid hov
            clear hov
            go_wp2
            go_round
            case rel => exact ⟨j + 1, false, 10 * u + (s[j].toNat - 48), by omega, by go_num, rfl, by rw [HE.out], rfl, hid (hS.out.next hlt HO.out)⟩
            case measure => simp [intOf]; omega
          · have hd4 : decide (((18446744073709551615 : Int) - ((s[j].toNat : Int) - 48)) / 10 < u) = true := by simp; omega
            have HO := hid hov
            clear hov
            go_wp2
            go_round
            case rel => exact ⟨j + 1, true, u, by omega, by go_num, rfl, rfl, rfl, hid (hS.out.over hlt (Nat.le_of_not_lt HO.out))⟩
            case measure => simp [intOf]; omega
        · go_wp2
          go_round
          case rel => exact ⟨j + 1, true, u, by omega, by go_num, rfl, rfl, rfl, hid (hS.out.more hlt)⟩
          case measure => simp [intOf]; omega
      · have hE : s.data.toList.take j = s.data.toList := List.take_of_length_le (by rw [str_len]; omega)
        have hS1 := hS.out
        unfold Sofar at hS1
        rw [hE] at hS1
        obtain ⟨hS1, hS2, hS3⟩ := hS1
        cases bb
        · have e := hS2 rfl
          clear hS1 hS2 hS3 hE hS
          subst e
          go_wp2_with fail
          refine (HB.out _).mono ?_
          rintro e w3 ⟨k2, hk2, hk3, rfl, hb3⟩
          rw [lastD_back _ HWr.out k2 hk2]
          go_wp2
          go_ret
          exact ⟨rfl, hbw.trans (hb3.mono hbw.size)⟩
        · exact absurd (hS3 rfl) (by have := HV.out; omega)

set_option maxRecDepth 4000 in
set_option maxHeartbeats 2000000 in
theorem texts_over (n : Nat) (s : ByteArray) (hn : n < 18446744073709551616) (hs : s.size ≤ 100) (hw : Wrt s.data.toList) (hv : 18446744073709551616 ≤ valL s.data.toList) (w : World) :
    Calls Try.prog 12 #[.int .u64 n, .string s] w fun e w' => e = .returned (.bool true) ∧ Below w.heap.size w w' := by
  have HN := hid hn
  have d0 : decide ((100 : Int) < s.size) = false := by simp; omega
  have HS := hid (fun w => parse_over s (by unfold maxLen; omega) hw hv w)
  have HV := hid hv
  have HW := hid hw.1
  have HG := good_wrt s hw
  clear hn hw hv
  obtain ⟨he, hp, hg⟩ := HG
  rcases hg with ⟨hg1, hg2⟩ | ⟨hg1, _, hg2⟩
  all_goals
    go_enter Try.func12, Try.ntmps12
    go_wp2_with fail
    refine (reckons_any _).mono ?_
    rintro e w1 ⟨rfl, hb1⟩
    go_wp2_with fail
    refine (digits_any n HN.out _).mono ?_
    rintro e w2 ⟨k, hk, hk2, rfl, hb2⟩
    have hbw := hb1.trans (hb2.mono hb1.size)
    have HK := hid hk
    have hd1 := some_ne n k hk
    have hd2 : (⟨(lastD n k).toArray⟩ : ByteArray).size ≤ 20 := by show (lastD n k).length ≤ 20; rw [lastD_len]; exact hk2
    have hd3 : decide ((20 : Int) < (⟨(lastD n k).toArray⟩ : ByteArray).size) = false := by simp; omega
    have HP := hid (fun w => parse_digits n k HN.out hk hk2 w)
    clear hb1 hb2 hk hk2
    generalize (⟨(lastD n k).toArray⟩ : ByteArray) = D at *
    go_wp2_with fail
    refine (HP.out _).mono ?_
    rintro e w' ⟨rfl, rfl⟩
    go_wp2_with fail
    refine (HS.out _).mono ?_
    rintro e w' ⟨rfl, rfl⟩
    go_wp2
    go_loop [10, 11, 12, 62] (fun g v b i => ∃ (j : Nat) (bb : Bool) (u : Nat), j ≤ s.size ∧ i = .int .i64 j ∧ b = .bool bb ∧ v = .int .u64 u ∧ g = .bool true ∧ Hid (Sofar s.data.toList j bb u)) (fun _ _ _ i => s.size - (intOf i).toNat)
    case atStart => exact ⟨0, false, 0, by omega, rfl, rfl, rfl, rfl, hid (Sofar.zero _)⟩
    case round =>
      obtain ⟨j, bb, u, hj, rfl, rfl, rfl, rfl, hS⟩ := hrel
      by_cases hlt : j < s.size
      · obtain ⟨h1, h2⟩ := HW.out s[j] (List.getElem_mem (l := s.data.toList) hlt)
        have hul : u ≤ 18446744073709551615 := by have := hS.out.1; omega
        cases bb
        · by_cases hov : 10 * u + (s[j].toNat - 48) < 18446744073709551616
          · have hd4 : decide (((18446744073709551615 : Int) - ((s[j].toNat : Int) - 48)) / 10 < u) = false := by simp; omega
            have hu1 : u ≤ 1844674407370955161 := by omega
            have hu2 : (u : Int) * 10 + ((s[j].toNat : Int) - 48) ≤ 18446744073709551615 := by omega
            have HE := hid (show (u : Int) * 10 + ((s[j].toNat : Int) - 48) = ((10 * u + (s[j].toNat - 48) : Nat) : Int) by omega)
            have HO := hid hov
            clear hov
            go_wp2
            go_round
            case rel => exact ⟨j + 1, false, 10 * u + (s[j].toNat - 48), by omega, by go_num, rfl, by rw [HE.out], rfl, hid (hS.out.next hlt HO.out)⟩
            case measure => simp [intOf]; omega
          · have hd4 : decide (((18446744073709551615 : Int) - ((s[j].toNat : Int) - 48)) / 10 < u) = true := by simp; omega
            have HO := hid hov
            clear hov
            go_wp2
            go_round
            case rel => exact ⟨j + 1, true, u, by omega, by go_num, rfl, rfl, rfl, hid (hS.out.over hlt (Nat.le_of_not_lt HO.out))⟩
            case measure => simp [intOf]; omega
        · go_wp2
          go_round
          case rel => exact ⟨j + 1, true, u, by omega, by go_num, rfl, rfl, rfl, hid (hS.out.more hlt)⟩
          case measure => simp [intOf]; omega
      · have hE : s.data.toList.take j = s.data.toList := List.take_of_length_le (by rw [str_len]; omega)
        have hS1 := hS.out
        unfold Sofar at hS1
        rw [hE] at hS1
        obtain ⟨hS1, hS2, hS3⟩ := hS1
        cases bb
        · have e := hS2 rfl
          exact absurd HV.out (by omega)
        · clear hS1 hS2 hS3 hE
          go_wp2
          go_ret
          exact ⟨rfl, hbw⟩

set_option maxRecDepth 4000 in
set_option maxHeartbeats 2000000 in
theorem texts_zero (n : Nat) (s : ByteArray) (hn : n < 18446744073709551616) (hs : s.size ≤ 100) (hd : ∀ c ∈ s.data.toList, isDig c) (h0 : 0 < s.size) (hw : ¬ Wrt s.data.toList) (w : World) :
    Calls Try.prog 12 #[.int .u64 n, .string s] w fun e w' => e = .returned (.bool true) ∧ Below w.heap.size w w' := by
  have HN := hid hn
  have d0 : decide ((100 : Int) < s.size) = false := by simp; omega
  have HS := hid (fun w => parse_form s (by unfold maxLen; omega) hw w)
  have HW := hid hd
  have HG := good_no s hd h0 hw
  clear hn hw hd
  obtain ⟨he, hp, hg⟩ := HG
  rcases hg with ⟨hg1, hg2⟩ | ⟨hg1, _, hg2⟩
  · cases hg2
  ·
    go_enter Try.func12, Try.ntmps12
    go_wp2_with fail
    refine (reckons_any _).mono ?_
    rintro e w1 ⟨rfl, hb1⟩
    go_wp2_with fail
    refine (digits_any n HN.out _).mono ?_
    rintro e w2 ⟨k, hk, hk2, rfl, hb2⟩
    have hbw := hb1.trans (hb2.mono hb1.size)
    have HK := hid hk
    have hd1 := some_ne n k hk
    have hd2 : (⟨(lastD n k).toArray⟩ : ByteArray).size ≤ 20 := by show (lastD n k).length ≤ 20; rw [lastD_len]; exact hk2
    have hd3 : decide ((20 : Int) < (⟨(lastD n k).toArray⟩ : ByteArray).size) = false := by simp; omega
    have HP := hid (fun w => parse_digits n k HN.out hk hk2 w)
    clear hb1 hb2 hk hk2
    generalize (⟨(lastD n k).toArray⟩ : ByteArray) = D at *
    go_wp2_with fail
    refine (HP.out _).mono ?_
    rintro e w' ⟨rfl, rfl⟩
    go_wp2_with fail
    refine (HS.out _).mono ?_
    rintro e w' ⟨rfl, rfl⟩
    go_wp2
    go_loop [10, 11, 12, 62] (fun g v b i => ∃ (j : Nat) (bb : Bool) (u : Nat), j ≤ s.size ∧ i = .int .i64 j ∧ b = .bool bb ∧ v = .int .u64 u ∧ g = .bool false ∧ Hid (Sofar s.data.toList j bb u)) (fun _ _ _ i => s.size - (intOf i).toNat)
    case atStart => exact ⟨0, false, 0, by omega, rfl, rfl, rfl, rfl, hid (Sofar.zero _)⟩
    case round =>
      obtain ⟨j, bb, u, hj, rfl, rfl, rfl, rfl, hS⟩ := hrel
      by_cases hlt : j < s.size
      · obtain ⟨h1, h2⟩ := HW.out s[j] (List.getElem_mem (l := s.data.toList) hlt)
        have hul : u ≤ 18446744073709551615 := by have := hS.out.1; omega
        cases bb
        · by_cases hov : 10 * u + (s[j].toNat - 48) < 18446744073709551616
          · have hd4 : decide (((18446744073709551615 : Int) - ((s[j].toNat : Int) - 48)) / 10 < u) = false := by simp; omega
            have hu1 : u ≤ 1844674407370955161 := by omega
            have hu2 : (u : Int) * 10 + ((s[j].toNat : Int) - 48) ≤ 18446744073709551615 := by omega
            have HE := hid (show (u : Int) * 10 + ((s[j].toNat : Int) - 48) = ((10 * u + (s[j].toNat - 48) : Nat) : Int) by omega)
            have HO := hid hov
            clear hov
            go_wp2
            go_round
            case rel => exact ⟨j + 1, false, 10 * u + (s[j].toNat - 48), by omega, by go_num, rfl, by rw [HE.out], rfl, hid (hS.out.next hlt HO.out)⟩
            case measure => simp [intOf]; omega
          · have hd4 : decide (((18446744073709551615 : Int) - ((s[j].toNat : Int) - 48)) / 10 < u) = true := by simp; omega
            have HO := hid hov
            clear hov
            go_wp2
            go_round
            case rel => exact ⟨j + 1, true, u, by omega, by go_num, rfl, rfl, rfl, hid (hS.out.over hlt (Nat.le_of_not_lt HO.out))⟩
            case measure => simp [intOf]; omega
        · go_wp2
          go_round
          case rel => exact ⟨j + 1, true, u, by omega, by go_num, rfl, rfl, rfl, hid (hS.out.more hlt)⟩
          case measure => simp [intOf]; omega
      · go_wp2
        go_ret
        exact ⟨rfl, hbw⟩

set_option maxRecDepth 4000 in
set_option maxHeartbeats 2000000 in
theorem texts_bad (n : Nat) (s : ByteArray) (hn : n < 18446744073709551616) (hs : s.size ≤ 100) (q : Nat) (hq : q < s.size) (hd : ∀ j (h : j < q), isDig s[j]) (hb : ¬ isDig s[q]) (w : World) :
    Calls Try.prog 12 #[.int .u64 n, .string s] w fun e w' => e = .returned (.bool true) ∧ Below w.heap.size w w' := by
  have HN := hid hn
  have d0 : decide ((100 : Int) < s.size) = false := by simp; omega
  have hw : ¬ Wrt s.data.toList := fun h => hb (h.1 _ (List.getElem_mem (l := s.data.toList) hq))
  have HS := hid (fun w => parse_form s (by unfold maxLen; omega) hw w)
  have HD := hid hd
  have HBad := hid hb
  obtain ⟨gg, HG⟩ := good_any s (by omega)
  clear hn hw hd hb
  obtain ⟨he, hp, hg⟩ := HG
  rcases hg with ⟨hg1, hg2⟩ | ⟨hg1, _, hg2⟩
  all_goals
    go_enter Try.func12, Try.ntmps12
    go_wp2_with fail
    refine (reckons_any _).mono ?_
    rintro e w1 ⟨rfl, hb1⟩
    go_wp2_with fail
    refine (digits_any n HN.out _).mono ?_
    rintro e w2 ⟨k, hk, hk2, rfl, hb2⟩
    have hbw := hb1.trans (hb2.mono hb1.size)
    have HK := hid hk
    have hd1 := some_ne n k hk
    have hd2 : (⟨(lastD n k).toArray⟩ : ByteArray).size ≤ 20 := by show (lastD n k).length ≤ 20; rw [lastD_len]; exact hk2
    have hd3 : decide ((20 : Int) < (⟨(lastD n k).toArray⟩ : ByteArray).size) = false := by simp; omega
    have HP := hid (fun w => parse_digits n k HN.out hk hk2 w)
    clear hb1 hb2 hk hk2
    generalize (⟨(lastD n k).toArray⟩ : ByteArray) = D at *
    go_wp2_with fail
    refine (HP.out _).mono ?_
    rintro e w' ⟨rfl, rfl⟩
    go_wp2_with fail
    refine (HS.out _).mono ?_
    rintro e w' ⟨rfl, rfl⟩
    go_wp2
    go_loop [10, 11, 12, 62] (fun g v b i => ∃ (j : Nat) (bb : Bool) (u : Nat), j ≤ q ∧ i = .int .i64 j ∧ b = .bool bb ∧ v = .int .u64 u ∧ (∃ g0 : Bool, g = .bool g0) ∧ Hid (Sofar s.data.toList j bb u)) (fun _ _ _ i => s.size - (intOf i).toNat)
    case atStart => exact ⟨0, false, 0, by omega, rfl, rfl, rfl, ⟨_, rfl⟩, hid (Sofar.zero _)⟩
    case round =>
      obtain ⟨j, bb, u, hj, rfl, rfl, rfl, ⟨g0, rfl⟩, hS⟩ := hrel
      by_cases hlk : j < q
      · have hlt : j < s.size := by omega
        obtain ⟨h1, h2⟩ := HD.out j hlk
        have hul : u ≤ 18446744073709551615 := by have := hS.out.1; omega
        cases bb
        · by_cases hov : 10 * u + (s[j].toNat - 48) < 18446744073709551616
          · have hd4 : decide (((18446744073709551615 : Int) - ((s[j].toNat : Int) - 48)) / 10 < u) = false := by simp; omega
            have hu1 : u ≤ 1844674407370955161 := by omega
            have hu2 : (u : Int) * 10 + ((s[j].toNat : Int) - 48) ≤ 18446744073709551615 := by omega
            have HE := hid (show (u : Int) * 10 + ((s[j].toNat : Int) - 48) = ((10 * u + (s[j].toNat - 48) : Nat) : Int) by omega)
            have HO := hid hov
            clear hov
            go_wp2
            go_round
            case rel => exact ⟨j + 1, false, 10 * u + (s[j].toNat - 48), by omega, by go_num, rfl, by rw [HE.out], ⟨_, rfl⟩, hid (hS.out.next hlt HO.out)⟩
            case measure => simp [intOf]; omega
          · have hd4 : decide (((18446744073709551615 : Int) - ((s[j].toNat : Int) - 48)) / 10 < u) = true := by simp; omega
            have HO := hid hov
            clear hov
            go_wp2
            go_round
            case rel => exact ⟨j + 1, true, u, by omega, by go_num, rfl, rfl, ⟨_, rfl⟩, hid (hS.out.over hlt (Nat.le_of_not_lt HO.out))⟩
            case measure => simp [intOf]; omega
        · go_wp2
          go_round
          case rel => exact ⟨j + 1, true, u, by omega, by go_num, rfl, rfl, ⟨_, rfl⟩, hid (hS.out.more hlt)⟩
          case measure => simp [intOf]; omega
      · obtain rfl : j = q := by omega
        have hb := HBad.out
        unfold isDig at hb
        by_cases h1 : s[j].toNat < 48
        · clear hb
          go_wp2
          go_ret
          exact ⟨rfl, hbw⟩
        · have h2 : 57 < s[j].toNat := by omega
          clear hb
          go_wp2
          go_ret
          exact ⟨rfl, hbw⟩

set_option maxRecDepth 4000 in
set_option maxHeartbeats 2000000 in
theorem texts_nil (n : Nat) (hn : n < 18446744073709551616) (w : World) :
    Calls Try.prog 12 #[.int .u64 n, .string ⟨#[]⟩] w fun e w' => e = .returned (.bool true) ∧ Below w.heap.size w w' := by
  have HN := hid hn
  have HS := hid (fun w => parse_form ⟨#[]⟩ (by decide) (fun h => h.2.1 rfl) w)
  clear hn
  go_enter Try.func12, Try.ntmps12
  go_wp2_with fail
  refine (reckons_any _).mono ?_
  rintro e w1 ⟨rfl, hb1⟩
  go_wp2_with fail
  refine (digits_any n HN.out _).mono ?_
  rintro e w2 ⟨k, hk, hk2, rfl, hb2⟩
  have hbw := hb1.trans (hb2.mono hb1.size)
  have HK := hid hk
  have hd1 := some_ne n k hk
  have hd2 : (⟨(lastD n k).toArray⟩ : ByteArray).size ≤ 20 := by show (lastD n k).length ≤ 20; rw [lastD_len]; exact hk2
  have hd3 : decide ((20 : Int) < (⟨(lastD n k).toArray⟩ : ByteArray).size) = false := by simp; omega
  have HP := hid (fun w => parse_digits n k HN.out hk hk2 w)
  clear hb1 hb2 hk hk2
  generalize (⟨(lastD n k).toArray⟩ : ByteArray) = D at *
  go_wp2_with fail
  refine (HP.out _).mono ?_
  rintro e w' ⟨rfl, rfl⟩
  go_wp2_with fail
  refine (HS.out _).mono ?_
  rintro e w' ⟨rfl, rfl⟩
  go_wp2
  go_loop [10, 11, 12, 62] (fun g v b i => g = .bool false ∧ v = .int .u64 0 ∧ b = .bool false ∧ i = .int .i64 0) (fun _ _ _ _ => 0)
  case atStart => exact ⟨rfl, rfl, rfl, rfl⟩
  case round =>
    obtain ⟨rfl, rfl, rfl, rfl⟩ := hrel
    go_wp2
    go_ret
    exact ⟨rfl, hbw⟩

set_option maxRecDepth 4000 in
theorem texts_long (n : Nat) (s : ByteArray) (hs : 100 < s.size) (w : World) :
    Calls Try.prog 12 #[.int .u64 n, .string s] w fun e w' => e = .returned (.bool true) ∧ Below w.heap.size w w' := by
  have d0 : decide ((100 : Int) < s.size) = true := by simp; omega
  go_enter Try.func12, Try.ntmps12
  go_wp2_with fail
  refine (reckons_any _).mono ?_
  rintro e w1 ⟨rfl, hb1⟩
  go_wp2
  go_ret
  exact ⟨rfl, hb1⟩

theorem wideTexts_law (n : Nat) (s : ByteArray) (hn : n < 18446744073709551616) (w : World) :
    Calls Try.prog 12 #[.int .u64 n, .string s] w fun e w' => e = .returned (.bool true) ∧ Below w.heap.size w w' := by
  by_cases hs : 100 < s.size
  · exact texts_long n s hs w
  · have hs' : s.size ≤ 100 := by omega
    by_cases hd : ∀ c ∈ s.data.toList, isDig c
    · by_cases hw : Wrt s.data.toList
      · by_cases hv : valL s.data.toList < 18446744073709551616
        · exact texts_ok n s hn hs' hw hv w
        · exact texts_over n s hn hs' hw (by omega) w
      · by_cases h0 : 0 < s.size
        · exact texts_zero n s hn hs' hd h0 hw w
        · have e : s = ⟨#[]⟩ := by
            apply ByteArray.ext
            exact Array.eq_empty_of_size_eq_zero (by have : s.data.size = s.size := rfl; omega)
          rw [e]
          exact texts_nil n hn w
    · obtain ⟨q, hq, h1, h2⟩ := first_bad _ hd
      exact texts_bad n s hn hs' q hq h1 h2 w
end Go.Proofs.Ytmbbjhlpfgpibaa
