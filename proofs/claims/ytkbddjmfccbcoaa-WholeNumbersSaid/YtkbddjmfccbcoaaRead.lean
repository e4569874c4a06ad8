/- leb.Read: the number at the front of what is left. -/
import Derived.Test.YtkbddjmfccbcoaaMtr
namespace Go.Proofs.Ytkbddjmfccbcoaa
open Go.RowKit

/-- The first k bytes each tell of one more. -/
def Lead (L : List UInt8) (k : Nat) : Prop := k ≤ L.length ∧ ∀ i (h : i < L.length), i < k → 128 ≤ L[i].toNat

/-- What is read at the front of L: the number v, of m bytes; or the error 'code'. -/
def RdRes (L : List UInt8) (lenient : Bool) (v m code : Nat) : Prop :=
  ∃ k, k ≤ 9 ∧ Lead L k ∧
    ((k = 9 ∧ (∃ h : 9 < L.length, 1 < L[9].toNat) ∧ v = 0 ∧ m = 0 ∧ code = 20) ∨
     (k = L.length ∧ v = 0 ∧ m = 0 ∧ code = 10) ∨
     ((∃ h : k < L.length, L[k].toNat = 0) ∧ 0 < k ∧ lenient = false ∧ v = 0 ∧ m = 0 ∧ code = 21) ∨
     ((∃ h : k < L.length, L[k].toNat < 128 ∧ (k = 9 → L[k].toNat ≤ 1) ∧ ¬ (L[k].toNat = 0 ∧ 0 < k ∧ lenient = false)) ∧ v = vSum (L.take (k + 1)) ∧ m = k + 1 ∧ code = 0))

theorem lead_zero (L : List UInt8) : Lead L 0 := ⟨Nat.zero_le _, fun _ _ h => absurd h (by omega)⟩
theorem lead_succ {L : List UInt8} {k : Nat} (h : Lead L k) (hk : k < L.length) (hb : 128 ≤ L[k].toNat) : Lead L (k + 1) := by
  refine ⟨hk, fun i hi hik => ?_⟩
  rcases (show i < k ∨ i = k by omega) with e | rfl
  · exact h.2 i hi e
  · exact hb
theorem rd_from {L : List UInt8} (lenient : Bool) (d : Nat) : ∀ k, k + d = 9 → Lead L k → ∃ v m code, RdRes L lenient v m code := by
  induction d with
  | zero =>
    intro k hk hL
    obtain rfl : k = 9 := by omega
    by_cases h : 9 < L.length
    · by_cases hv : 1 < L[9].toNat
      · exact ⟨0, 0, 20, 9, by omega, hL, .inl ⟨rfl, ⟨h, hv⟩, rfl, rfl, rfl⟩⟩
      · by_cases hc : L[9].toNat = 0 ∧ lenient = false
        · exact ⟨0, 0, 21, 9, by omega, hL, .inr (.inr (.inl ⟨⟨h, hc.1⟩, by omega, hc.2, rfl, rfl, rfl⟩))⟩
        · exact ⟨_, _, 0, 9, by omega, hL, .inr (.inr (.inr ⟨⟨h, by omega, fun _ => by omega, fun hh => hc ⟨hh.1, hh.2.2⟩⟩, rfl, rfl, rfl⟩))⟩
    · exact ⟨0, 0, 10, 9, by omega, hL, .inr (.inl ⟨by have := hL.1; omega, rfl, rfl, rfl⟩)⟩
  | succ d ih =>
    intro k hk hL
    by_cases h : k < L.length
    · by_cases hb : 128 ≤ L[k].toNat
      · exact ih (k + 1) (by omega) (lead_succ hL h hb)
      · by_cases hc : L[k].toNat = 0 ∧ 0 < k ∧ lenient = false
        · exact ⟨0, 0, 21, k, by omega, hL, .inr (.inr (.inl ⟨⟨h, hc.1⟩, hc.2.1, hc.2.2, rfl, rfl, rfl⟩))⟩
        · exact ⟨_, _, 0, k, by omega, hL, .inr (.inr (.inr ⟨⟨h, by omega, fun _ => by omega, hc⟩, rfl, rfl, rfl⟩))⟩
    · exact ⟨0, 0, 10, k, by omega, hL, .inr (.inl ⟨by have := hL.1; omega, rfl, rfl, rfl⟩)⟩
theorem rd_some (L : List UInt8) (lenient : Bool) : ∃ v m code, RdRes L lenient v m code := rd_from lenient 9 0 rfl (lead_zero L)

theorem vSum_take (L : List UInt8) (k : Nat) (h : k < L.length) : vSum (L.take (k + 1)) = vSum (L.take k) + L[k].toNat % 128 * 128 ^ k := by
  rw [take_snoc L k h, vSum_snoc, List.length_take, Nat.min_eq_left (by omega)]
theorem vSum_take_lt (L : List UInt8) (k : Nat) (h : k ≤ L.length) : vSum (L.take k) < 128 ^ k := by
  have := vSum_lt (L.take k)
  rwa [List.length_take, Nat.min_eq_left h] at this

theorem drop_at (l : List UInt8) (rd j : Nat) (h : j < (l.drop rd).length) : ∃ h' : rd + j < l.length, (l.drop rd)[j] = l[rd + j] :=
  ⟨by simp at h; omega, by simp⟩
/-- The meter's count, where it lies. -/
def cntAt (w : World) (q : Nat) : Nat := (intOf ((w.cell? ⟨q, 2, none⟩).getD undef)).toNat
theorem Mtr.cntAt_ {w : World} {q v cnt : Nat} {lenient : Bool} (h : Mtr w q lenient v cnt) : cntAt w q = cnt := by
  unfold cntAt
  rw [h.c2]
  simp [intOf]

set_option maxHeartbeats 1000000 in
theorem read_ok {w : World} {p : Nat} {A : Option Addr} {n c rd v m code : Nat} {l : List UInt8} {lenient : Bool} (hR : Rdr w p A n c rd l) (hS : RdRes (l.drop rd) lenient v m code) :
    Calls Try.prog 38 #[.pointer (some ⟨p, 0, none⟩), .bool lenient] w fun e w' => e = .returned (.tuple #[.int .u64 v, .int .i64 code]) ∧ Rdr w' p A n c (rd + m) l ∧ w.grownBy w' (some p) := by
  have c0 := hR.c0
  have c1 := hR.c1
  have hpl := hR.blk.lt
  have hlen := hR.len
  have hle := hR.le
  have HLen := hid hlen
  obtain ⟨k, hk9, hL, hcase⟩ := hS
  have HC := hid hcase
  clear hcase hlen
  have hdl : (l.drop rd).length = n - rd := by rw [List.length_drop, HLen.out]
  have HDL := hid hdl
  have hLk := hL.1
  rw [hdl] at hLk
  clear hdl
  have HL := hid hL.2
  clear hL
  have hA : Rdr (w.alloc (.cells #[.slice A n c, .int .i64 (rd : Int)] 76)) w.heap.size A n c rd l :=
    ⟨Blk.fresh w _ [_, _], hR.rdb.alloc _, fun hn a ha e => by
      obtain ⟨b, o, e', hb, _⟩ := hR.rdb.2 hn
      rw [ha] at e'
      injection e' with e'
      rw [e'] at e
      exact absurd e (Nat.ne_of_lt hb), hR.le, hR.cap, hR.lim⟩
  go_enter Try.func38, Try.ntmps38
  go_wp2
  go_loopw [8] (fun _ wr => ∃ j : Nat, j ≤ k ∧ Rdr wr w.heap.size A n c (rd + j) l ∧ Mtr wr (w.heap.size + 1) lenient (vSum ((l.drop rd).take j)) j ∧ Below w.heap.size w wr) (fun _ wr => 9 - cntAt wr (w.heap.size + 1))
  case atStart =>
    refine ⟨0, Nat.zero_le _, hA.below ((Below.refl _ _).alloc (Nat.le_refl _) _), ?_, ((Below.refl _ _).alloc (Nat.le_refl _) _).alloc (by simp) _⟩
    have := Blk.fresh (w.alloc (.cells #[.slice A n c, .int .i64 (rd : Int)] 76)) 64 [.bool lenient, .int .u64 0, .int .i64 0]
    simpa [Mtr, vSum] using this
  case round =>
    obtain ⟨j, hj, hRa, hM, hB⟩ := hrel
    have HM := hid hM.cntAt_
    by_cases hlt : j < k
    · obtain ⟨h', e⟩ := drop_at l rd j (by rw [HDL.out]; omega)
      have h128 := HL.out j (by rw [HDL.out]; omega) hlt
      rw [e] at h128
      have hvl := vSum_take_lt (l.drop rd) j (by rw [HDL.out]; omega)
      have hvs := vSum_take (l.drop rd) j (by rw [HDL.out]; omega)
      rw [e] at hvs
      have HVS := hid hvs
      have HVL := hid hvl
      clear hvs hvl e
      have hf : decide (((l[rd + j]'h').toNat : Int) < 128) = false := by simp; omega
      go_wp2_with fail
      refine (byte_yes hRa h').mono ?_
      rintro e w2 ⟨rfl, hRa2, hg2⟩
      have hM2 := hM.grown hg2 (by simp)
      have hB2 := below_grown hB hg2 hB.size (Nat.le_refl _)
      go_wp2_with fail
      refine (step_ok hM2 (l[rd + j]'h') (by omega) HVL.out (by omega) (by omega)).mono ?_
      rintro e w3 ⟨rfl, hM3, hg3⟩
      rw [hf]
      rw [← HVS.out] at hM3
      have hRa3 := hRa2.grown hg3 (by simp) (fun hn a ha e => by
        obtain ⟨b, o, e', hb, _⟩ := hR.rdb.2 hn
        rw [ha] at e'
        injection e' with e'
        rw [e'] at e
        injection e with e
        simp at e
        omega)
      have hB3 := below_grown hB2 hg3 hB2.size (by omega)
      clear hB2 hB hRa2 hRa hM2 hM hg2 hg3 hf
      have HM3 := hid hM3.cntAt_
      go_wp2
      go_roundw
      case rel => exact ⟨j + 1, by omega, hRa3, hM3, hB3⟩
      case measure => rw [HM.out, HM3.out]; omega
    · obtain rfl : j = k := by omega
      have hRp := hR.below hB
      rcases HC.out with ⟨rfl, ⟨h9, hb⟩, rfl, rfl, rfl⟩ | ⟨hk, rfl, rfl, rfl⟩ | ⟨⟨hk, hb⟩, h0, rfl, rfl, rfl, rfl⟩ | ⟨⟨hk, hb, hb9, hbc⟩, hv, rfl, rfl⟩
      · obtain ⟨h', e⟩ := drop_at l rd 9 h9
        rw [e] at hb
        go_wp2_with fail
        refine (byte_yes hRa h').mono ?_
        rintro e w2 ⟨rfl, hRa2, hg2⟩
        have hM2 := hM.grown hg2 (by simp)
        have hB2 := below_grown hB hg2 hB.size (Nat.le_refl _)
        go_wp2_with fail
        refine (step_var hM2 (l[rd + 9]'h') (.inr ⟨rfl, hb⟩)).mono ?_
        rintro e w3 ⟨rfl, rfl⟩
        go_wp2
        go_ret2
        exact ⟨rfl, hR.below hB2, grown_of_below hB2 _⟩
      · have hend : rd + j = n := by rw [HDL.out] at hk; omega
        go_wp2_with fail
        refine (byte_no hRa hend).mono ?_
        rintro e w2 ⟨rfl, k2, rfl⟩
        go_wp2
        go_ret2
        have hB2 := below_drewN hB k2
        exact ⟨rfl, hR.below hB2, grown_of_below hB2 _⟩
      · obtain ⟨h', e⟩ := drop_at l rd j hk
        rw [e] at hb
        have HB0 := hid hb
        clear hb e
        go_wp2_with fail
        refine (byte_yes hRa h').mono ?_
        rintro e w2 ⟨rfl, hRa2, hg2⟩
        have hM2 := hM.grown hg2 (by simp)
        have hB2 := below_grown hB hg2 hB.size (Nat.le_refl _)
        go_wp2_with fail
        refine (step_canon0 hM2 (l[rd + j]'h') HB0.out h0 hk9).mono ?_
        rintro e w3 ⟨rfl, rfl⟩
        go_wp2
        go_ret2
        exact ⟨rfl, hR.below hB2, grown_of_below hB2 _⟩
      · obtain ⟨h', e⟩ := drop_at l rd j hk
        rw [e] at hb hb9 hbc
        have hvl := vSum_take_lt (l.drop rd) j (by rw [HDL.out]; omega)
        have hvs := vSum_take (l.drop rd) j hk
        rw [e] at hvs
        have hjn : rd + (j + 1) ≤ n := by rw [HDL.out] at hk; omega
        rw [← hv] at hvs
        have HVS := hid hvs
        have HVL := hid hvl
        clear hvs hvl e hv
        have hf : decide (((l[rd + j]'h').toNat : Int) < 128) = true := by simp; omega
        go_wp2_with fail
        refine (byte_yes hRa h').mono ?_
        rintro e w2 ⟨rfl, hRa2, hg2⟩
        have hM2 := hM.grown hg2 (by simp)
        have hB2 := below_grown hB hg2 hB.size (Nat.le_refl _)
        go_wp2_with fail
        refine (step_ok hM2 (l[rd + j]'h') hk9 HVL.out hb9 hbc).mono ?_
        rintro e w3 ⟨rfl, hM3, hg3⟩
        rw [hf]
        rw [← HVS.out] at hM3
        have hB3 := below_grown hB2 hg3 hB2.size (by omega)
        have hR3 := hR.below hB3
        clear hB2 hB hRa2 hRa hM2 hM hg2 hg3 hf hb hb9 hbc
        go_wp2_with fail
        refine (value_any hM3).mono ?_
        rintro e w4 ⟨rfl, rfl⟩
        go_wp2_with fail
        refine (count_any hM3).mono ?_
        rintro e w4 ⟨rfl, rfl⟩
        go_wp2_with fail
        refine (skip_ok hR3 hjn).mono ?_
        rintro e w4 ⟨rfl, hR4, hg4⟩
        go_wp2
        go_ret2
        exact ⟨rfl, hR4, grown_trans (grown_of_below hB3 _) hg4⟩
end Go.Proofs.Ytkbddjmfccbcoaa
