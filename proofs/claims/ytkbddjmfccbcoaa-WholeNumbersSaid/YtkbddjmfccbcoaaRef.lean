/- The reference's Put and Read. -/
import Derived.Test.YtkbddjmfccbcoaaRead
namespace Go.Proofs.Ytkbddjmfccbcoaa
open Go.RowKit

/-- Up to where bytes tell of one more, ten at most. -/
def Stop10 (L : List UInt8) (K : Nat) : Prop := K ≤ 10 ∧ Lead L K ∧ (K = L.length ∨ K = 10 ∨ ∃ h : K < L.length, L[K].toNat < 128)

theorem stop_of (L : List UInt8) (lenient : Bool) (v m code : Nat) (h : RdRes L lenient v m code) :
    ∃ K, Stop10 L K ∧
    ((9 ≤ K ∧ (∃ h : 9 < L.length, 1 < L[9].toNat) ∧ v = 0 ∧ m = 0 ∧ code = 20) ∨
    (K = L.length ∧ K ≤ 9 ∧ v = 0 ∧ m = 0 ∧ code = 10) ∨
    (K ≤ 9 ∧ (∃ h : K < L.length, L[K].toNat = 0) ∧ 0 < K ∧ lenient = false ∧ v = 0 ∧ m = 0 ∧ code = 21) ∨
    (K ≤ 9 ∧ (∃ h : K < L.length, L[K].toNat < 128 ∧ (K = 9 → L[K].toNat ≤ 1) ∧ ¬ (L[K].toNat = 0 ∧ 0 < K ∧ lenient = false)) ∧ v = vSum (L.take (K + 1)) ∧ m = K + 1 ∧ code = 0)) := by
  obtain ⟨k, hk9, hL, h⟩ := h
  rcases h with ⟨rfl, ⟨h9, hb⟩, rfl, rfl, rfl⟩ | ⟨hk, rfl, rfl, rfl⟩ | ⟨⟨hk, hb⟩, h0, hl, rfl, rfl, rfl⟩ | ⟨⟨hk, hb, hb9, hbc⟩, hv, rfl, rfl⟩
  · by_cases h128 : 128 ≤ L[9].toNat
    · exact ⟨10, ⟨by omega, lead_succ hL h9 h128, .inr (.inl rfl)⟩, .inl ⟨by omega, ⟨h9, hb⟩, rfl, rfl, rfl⟩⟩
    · exact ⟨9, ⟨by omega, hL, .inr (.inr ⟨h9, by omega⟩)⟩, .inl ⟨by omega, ⟨h9, hb⟩, rfl, rfl, rfl⟩⟩
  · exact ⟨k, ⟨by omega, hL, .inl hk⟩, .inr (.inl ⟨hk, hk9, rfl, rfl, rfl⟩)⟩
  · exact ⟨k, ⟨by omega, hL, .inr (.inr ⟨hk, by omega⟩)⟩, .inr (.inr (.inl ⟨hk9, ⟨hk, hb⟩, h0, hl, rfl, rfl, rfl⟩))⟩
  · exact ⟨k, ⟨by omega, hL, .inr (.inr ⟨hk, hb⟩)⟩, .inr (.inr (.inr ⟨hk9, ⟨hk, hb, hb9, hbc⟩, hv, rfl, rfl⟩))⟩

theorem vSum_drop (L : List UInt8) (t : Nat) (h : t < L.length) : vSum (L.drop t) = L[t].toNat % 128 + 128 * vSum (L.drop (t + 1)) := by
  rw [List.drop_eq_getElem_cons h]; rfl
theorem vSum_drop_le (L : List UInt8) (t : Nat) : vSum (L.drop t) ≤ vSum L := by
  induction t with
  | zero => simp
  | succ t ih =>
    by_cases h : t < L.length
    · have := vSum_drop L t h; omega
    · rw [List.drop_eq_nil_of_le (by omega)]; simp [vSum]
theorem vSum_u64 (L : List UInt8) (K : Nat) (h9 : K ≤ 9) (h : K < L.length) (hb : K = 9 → L[K].toNat ≤ 1) : vSum (L.take (K + 1)) < 18446744073709551616 := by
  have h1 := vSum_take L K h
  have h2 := vSum_take_lt L K (by omega)
  have h3 := (dig_small L[K] K h9 hb).2
  omega
/-- The number of the bytes from place t on. -/
def vAt (L : List UInt8) (t : Nat) : Nat := vSum (L.drop t)
theorem vAt_zero (L : List UInt8) : vAt L 0 = vSum L := rfl
theorem vAt_end (L : List UInt8) (t : Nat) (h : L.length ≤ t) : vAt L t = 0 := by unfold vAt; rw [List.drop_of_length_le h]; rfl
theorem horner (L : List UInt8) (t : Nat) (h : t < L.length) (hv : vSum L < 18446744073709551616) :
    IntKind.u64.wrap (IntKind.u64.wrap ((vAt L (t + 1) : Int) * 128) + (L[t].toNat : Int) % 128) = (vAt L t : Int) := by
  unfold vAt
  have h1 := vSum_drop L t h
  have h2 := vSum_drop_le L t
  simp only [IntKind.wrap_u64]
  omega

set_option maxHeartbeats 2000000 in
theorem refread_ok {w : World} {A : Option Addr} {n c v m code : Nat} {L : List UInt8} {lenient : Bool} (hD : RdB w A n L) (hn : n ≤ 9223372036854775807) (hS : RdRes L lenient v m code) :
    Calls Try.prog 39 #[.slice A n c, .bool lenient] w fun e w' => e = .returned (.tuple #[.int .u64 v, .int .i64 m, .int .i64 code]) ∧ w = w' := by
  obtain ⟨K, ⟨h10, ⟨hle, hL⟩, hstop⟩, hcase⟩ := stop_of L lenient v m code hS
  have hlen := hD.1
  have HL := hid hL
  have HS := hid hstop
  have HC := hid hcase
  clear hL hstop hcase hS
  go_enter Try.func39, Try.ntmps39
  go_wp2
  go_loop [7] (fun i => ∃ j : Nat, j ≤ K ∧ i = .int .i64 j) (fun i => 10 - (intOf i).toNat)
  case atStart => exact ⟨0, Nat.zero_le _, rfl⟩
  case round =>
    obtain ⟨j, hj, rfl⟩ := hrel
    by_cases hlt : j < K
    · obtain ⟨b, o, rfl, hb, hc⟩ := hD.2 (by omega)
      have h128 := HL.out j (by omega) hlt
      have hck := hc j (by omega)
      clear hc
      have hby := (L[j]'(by omega)).toNat_lt
      have d0 : decide (j < n) = true := by simp; omega
      have d1 : decide ((j : Int) < 10) = true := by simp; omega
      have d2 : decide ((128 : Int) ≤ ((L[j]'(by omega)).toNat : Int)) = true := by simp; omega
      go_wp2
      go_round
      case rel => exact ⟨j + 1, by omega, by go_num⟩
      case measure => simp [intOf]; omega
    · obtain rfl : j = K := by omega
      rcases HC.out with ⟨h9, ⟨hn9, hb9⟩, rfl, rfl, rfl⟩ | ⟨hk, hk9, rfl, rfl, rfl⟩ | ⟨hk9, ⟨hk, hb0⟩, h0, rfl, rfl, rfl, rfl⟩ | ⟨hk9, ⟨hk, hb, hb9, hbc⟩, hv, rfl, rfl⟩
      · obtain ⟨b, o, rfl, hbb, hc⟩ := hD.2 (by omega)
        have hck := hc 9 hn9
        clear hc
        have d1 : decide ((9 : Int) < (n : Int)) = true := by simp; omega
        have d3 : decide ((1 : Int) < ((L[9]'hn9).toNat : Int)) = true := by simp; omega
        rcases (show j = 9 ∨ j = 10 by omega) with rfl | rfl
        · have hs : (L[9]'hn9).toNat < 128 := by
            rcases HS.out with e | e | ⟨_, e⟩
            · omega
            · omega
            · exact e
          have d2 : decide ((128 : Int) ≤ ((L[9]'hn9).toNat : Int)) = false := by simp; omega
          go_wp2
          go_ret3
          exact ⟨rfl, rfl⟩
        · by_cases e10 : n = 10
          · have d0 : decide ((10 : Int) < (n : Int)) = false := by simp; omega
            go_wp2
            go_ret3
            exact ⟨rfl, rfl⟩
          · have d0 : decide ((10 : Int) < (n : Int)) = true := by simp; omega
            go_wp2
            go_ret3
            exact ⟨rfl, rfl⟩
      · have e : ((j : Int) == (n : Int)) = true := by simp; omega
        have d0 : decide (j < n) = false := by simp; omega
        have d1 : decide ((9 : Int) < (n : Int)) = false := by simp; omega
        have d3 : ((j : Int) == 10) = false := by simp; omega
        clear hlen hk
        go_wp2
        all_goals
          go_ret3
          exact ⟨rfl, rfl⟩
      · obtain ⟨b, o, rfl, hbb, hc⟩ := hD.2 (by omega)
        have hck := hc j hk
        clear hc
        rw [hb0] at hck
        have d0 : decide (j < n) = true := by simp; omega
        have d1 : decide ((j : Int) < 10) = true := by simp; omega
        have d3 : ((j : Int) == 10) = false := by simp; omega
        have d4 : ((j : Int) == (n : Int)) = false := by simp; omega
        have d5 : decide ((0 : Int) < (j : Int)) = true := by simp; omega
        rcases (show j = 9 ∨ j < 9 by omega) with rfl | h9
        · have d6 : decide ((9 : Int) < (n : Int)) = true := by simp; omega
          clear hb0
          go_wp2
          go_ret3
          exact ⟨rfl, rfl⟩
        · have d6 : decide ((9 : Int) ≤ (j : Int)) = false := by simp; omega
          clear hb0
          go_wp2
          go_ret3
          exact ⟨rfl, rfl⟩
      · obtain ⟨b, o, rfl, hbb, hc⟩ := hD.2 (by omega)
        have HCell := hid hc
        have hck := hc j hk
        clear hc
        have hbl := (L[j]'hk).toNat_lt
        have d0 : decide (j < n) = true := by simp; omega
        have d1 : decide ((j : Int) < 10) = true := by simp; omega
        have d2 : decide ((128 : Int) ≤ ((L[j]'hk).toNat : Int)) = false := by simp; omega
        have d3 : ((j : Int) == 10) = false := by simp; omega
        have d4 : ((j : Int) == (n : Int)) = false := by simp; omega
        have HU := hid (vSum_u64 L j hk9 hk hb9)
        have HV := hid hv
        have hTl : (L.take (j + 1)).length = j + 1 := by rw [List.length_take]; omega
        have HTl := hid hTl
        have hw9 : decide ((9 : Int) ≤ (j : Int)) = false ∨ decide ((9 : Int) ≤ (j : Int)) = true ∧ (∃ h : 9 < L.length, L[9].toNat ≤ 1) := by
          rcases (show j < 9 ∨ j = 9 by omega) with e | rfl
          · exact .inl (by simp; omega)
          · exact .inr ⟨by simp, hk, hb9 rfl⟩
        have hwc : j < 1 ∨ 0 < j ∧ (((L[j]'hk).toNat : Int) == 0) = false ∨ 0 < j ∧ (((L[j]'hk).toNat : Int) == 0) = true ∧ lenient = true := by
          by_cases e0 : j = 0
          · exact .inl (by omega)
          · by_cases e1 : (L[j]'hk).toNat = 0
            · refine .inr (.inr ⟨by omega, by simp [e1], ?_⟩)
              cases lenient
              · exact absurd ⟨e1, by omega, rfl⟩ hbc
              · rfl
            · exact .inr (.inl ⟨by omega, by simp [e1]⟩)
        clear hTl hv hb9 hbc HC
        rcases hw9 with e9 | ⟨e9, h9, hb1⟩
        · rcases hwc with e0 | ⟨e0, e1⟩ | ⟨e0, e1, rfl⟩
          all_goals
            clear hb
            go_wp2
            go_loop [8, 9] (fun x i => (∃ t : Nat, t ≤ j ∧ i = .int .i64 t ∧ x = .int .u64 (vAt (L.take (j + 1)) (t + 1))) ∨ (i = .int .i64 (-1) ∧ x = .int .u64 (vAt (L.take (j + 1)) 0))) (fun _ i => (intOf i + 1).toNat)
            case atStart => exact .inl ⟨j, Nat.le_refl _, rfl, by rw [vAt_end _ _ (by rw [HTl.out]; exact Nat.le_refl _)]; rfl⟩
            case round =>
              rcases hrel with ⟨t, ht, rfl, rfl⟩ | ⟨rfl, rfl⟩
              · have hkt := HCell.out t (by omega)
                have htl := (L[t]'(by omega)).toNat_lt
                have hh := horner (L.take (j + 1)) t (by rw [HTl.out]; omega) HU.out
                rw [List.getElem_take] at hh
                have HH := hid hh
                have htn : t < n := by omega
                clear hh hck
                rcases t with _ | t
                · rw [Nat.add_zero] at hkt
                  go_wp2
                  go_round
                  case rel => exact .inr ⟨rfl, by rw [HH.out]⟩
                  case measure => simp [intOf]
                · first
                    | (exfalso; omega)
                    | (go_wp2
                       go_round
                       case rel => exact .inl ⟨t, by omega, by go_num, by rw [HH.out]⟩
                       case measure => first | (simp [intOf]; done) | (simp [intOf]; omega))
              · go_wp2
                go_ret3
                exact ⟨by rw [HV.out, ← vAt_zero]; rfl, rfl⟩
        · rcases hwc with e0 | ⟨e0, e1⟩ | ⟨e0, e1, rfl⟩
          all_goals
            clear hb
            have hck9 := HCell.out 9 h9
            have d6 : decide ((9 : Int) < (n : Int)) = true := by simp; omega
            have d7 : decide ((1 : Int) < ((L[9]'h9).toNat : Int)) = false := by simp; omega
            go_wp2
            go_loop [8, 9] (fun x i => (∃ t : Nat, t ≤ j ∧ i = .int .i64 t ∧ x = .int .u64 (vAt (L.take (j + 1)) (t + 1))) ∨ (i = .int .i64 (-1) ∧ x = .int .u64 (vAt (L.take (j + 1)) 0))) (fun _ i => (intOf i + 1).toNat)
            case atStart => exact .inl ⟨j, Nat.le_refl _, rfl, by rw [vAt_end _ _ (by rw [HTl.out]; exact Nat.le_refl _)]; rfl⟩
            case round =>
              rcases hrel with ⟨t, ht, rfl, rfl⟩ | ⟨rfl, rfl⟩
              · have hkt := HCell.out t (by omega)
                have htl := (L[t]'(by omega)).toNat_lt
                have hh := horner (L.take (j + 1)) t (by rw [HTl.out]; omega) HU.out
                rw [List.getElem_take] at hh
                have HH := hid hh
                have htn : t < n := by omega
                clear hh hck
                rcases t with _ | t
                · rw [Nat.add_zero] at hkt
                  go_wp2
                  go_round
                  case rel => exact .inr ⟨rfl, by rw [HH.out]⟩
                  case measure => simp [intOf]
                · first
                    | (exfalso; omega)
                    | (go_wp2
                       go_round
                       case rel => exact .inl ⟨t, by omega, by go_num, by rw [HH.out]⟩
                       case measure => first | (simp [intOf]; done) | (simp [intOf]; omega))
              · go_wp2
                go_ret3
                exact ⟨by rw [HV.out, ← vAt_zero]; rfl, rfl⟩
end Go.Proofs.Ytkbddjmfccbcoaa
