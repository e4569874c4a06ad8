/- The walk of the law CrcSeals. -/
import Derived.Test.YtmbbjhlpfgpibaaOpen
import Derived.Deep.RegionHeld
namespace Go.Proofs.Ytmbbjhlpfgpibaa
open Go.RowKit

theorem xor_zero_eq {a b : Nat} (h : a ^^^ b = 0) : a = b := by
  have h2 : a ^^^ b ^^^ b = b := by rw [h, Nat.zero_xor]
  rw [Nat.xor_assoc, Nat.xor_self, Nat.xor_zero] at h2
  exact h2
theorem step1_null {r : Nat} (hr : r < 4294967296) (h : step1 r = 0) : r = 0 := by
  unfold step1 at h
  have h2 := xor_zero_eq h
  by_cases ho : r % 2 = 1
  · rw [if_pos ho] at h2
    unfold pol at h2
    omega
  · rw [if_neg ho] at h2
    omega
theorem step1_inj {a b : Nat} (ha : a < 4294967296) (hb : b < 4294967296) (h : step1 a = step1 b) : a = b := by
  refine xor_zero_eq (step1_null (xor_lt32 ha hb) ?_)
  rw [step1_xor, h, Nat.xor_self]
theorem stepN_inj (k : Nat) {a b : Nat} (ha : a < 4294967296) (hb : b < 4294967296) (h : stepN k a = stepN k b) : a = b := by
  induction k generalizing a b with
  | zero => exact h
  | succ k ih => exact step1_inj ha hb (ih (step1_lt ha) (step1_lt hb) h)
theorem upd_inj_r {r s c : Nat} (hr : r < 4294967296) (hs : s < 4294967296) (hc : c < 256) (h : upd r c = upd s c) : r = s := by
  rw [upd_eq, upd_eq] at h
  have h2 := stepN_inj 8 (xor_lt32 hr (by omega)) (xor_lt32 hs (by omega)) h
  have h3 : r ^^^ c ^^^ c = s ^^^ c ^^^ c := by rw [h2]
  rw [Nat.xor_assoc, Nat.xor_self, Nat.xor_zero, Nat.xor_assoc, Nat.xor_self, Nat.xor_zero] at h3
  exact h3
theorem upd_inj_c {r c d : Nat} (hr : r < 4294967296) (hc : c < 256) (hd : d < 256) (h : upd r c = upd r d) : c = d := by
  rw [upd_eq, upd_eq] at h
  have h2 := stepN_inj 8 (xor_lt32 hr (by omega)) (xor_lt32 hr (by omega)) h
  have h3 : r ^^^ (r ^^^ c) = r ^^^ (r ^^^ d) := by rw [h2]
  rw [← Nat.xor_assoc, ← Nat.xor_assoc, Nat.xor_self, Nat.zero_xor, Nat.zero_xor] at h3
  exact h3
theorem crcF_inj {r s : Nat} (l : List UInt8) (hr : r < 4294967296) (hs : s < 4294967296) (h : crcF r l = crcF s l) : r = s := by
  induction l generalizing r s with
  | nil => exact h
  | cons c l ih =>
    exact upd_inj_r hr hs c.toNat_lt (ih (upd_lt hr c.toNat_lt) (upd_lt hs c.toNat_lt) h)
/-- Another byte, another checksum. -/
theorem crcF_set (r : Nat) (l : List UInt8) (j : Nat) (x : UInt8) (hr : r < 4294967296) (hj : j < l.length) (h : crcF r (l.set j x) = crcF r l) : x = l[j] := by
  induction l generalizing r j with
  | nil => simp at hj
  | cons c l ih =>
    cases j with
    | zero =>
      have h2 := crcF_inj l (upd_lt hr x.toNat_lt) (upd_lt hr c.toNat_lt) h
      exact UInt8.toNat_inj.1 (upd_inj_c hr x.toNat_lt c.toNat_lt h2)
    | succ j =>
      simp only [List.getElem_cons_succ]
      exact ih (upd r c.toNat) j (upd_lt hr c.toNat_lt) (by simpa using hj) h
theorem crcN_set (l : List UInt8) (j : Nat) (x : UInt8) (hj : j < l.length) (h : crcN (l.set j x) = crcN l) : x = l[j] := by
  unfold crcN more at h
  have h2 : crcF (0 ^^^ ones) (l.set j x) ^^^ ones ^^^ ones = crcF (0 ^^^ ones) l ^^^ ones ^^^ ones := by rw [h]
  rw [xor_ones2, xor_ones2] at h2
  exact crcF_set _ l j x (by decide) hj h2

theorem sumD_len (v : Nat) : (sumD v).length = 4 := rfl
/-- What was sealed, one byte another. -/
theorem seal_off (l : List UInt8) (j : Nat) (x : UInt8) (hj : j < l.length + 4) (hx : x ≠ (l ++ sumD (crcN l))[j]'(by simp [sumD_len]; exact hj)) :
    crcN (((l ++ sumD (crcN l)).set j x).take l.length) ≠ getN (((l ++ sumD (crcN l)).set j x).drop l.length) := by
  intro h
  by_cases hlt : j < l.length
  · rw [List.set_append_left _ _ hlt] at h
    rw [List.take_left' (by simp), List.drop_left' (by simp), getN_sumD _ (crcN_lt l)] at h
    apply hx
    rw [List.getElem_append_left hlt]
    exact crcN_set l j x hlt h
  · rw [List.set_append_right _ _ (by omega)] at h
    rw [List.take_left' rfl, List.drop_left' rfl] at h
    have h2 := sumD_getN ((sumD (crcN l)).set (j - l.length) x) (by simp [sumD_len])
    rw [← h] at h2
    apply hx
    rw [List.getElem_append_right (by omega)]
    have h3 : (sumD (crcN l))[j - l.length]'(by simp [sumD_len]; omega) = ((sumD (crcN l)).set (j - l.length) x)[j - l.length]'(by simp [sumD_len]; omega) := by
      congr 1
    rw [h3, List.getElem_set_self]
theorem xor_byte_ne (c : UInt8) (y : Nat) (hy : 0 < y) (hy2 : y < 256) : c ^^^ UInt8.ofNat y ≠ c := by
  intro h
  have h2 := congrArg UInt8.toNat h
  rw [UInt8.toNat_xor, UInt8.toNat_ofNat', Nat.mod_eq_of_lt hy2] at h2
  have h3 : c.toNat ^^^ (c.toNat ^^^ y) = c.toNat ^^^ c.toNat := by rw [h2]
  rw [← Nat.xor_assoc, Nat.xor_self, Nat.zero_xor] at h3
  omega
theorem isB_xor (c : UInt8) (y : Nat) (hy2 : y < 256) : isB (c ^^^ UInt8.ofNat y) = .int .u8 (bits .xor .u8 (c.toNat : Int) (y : Int)) := by
  rw [u8_xor_nat _ _ c.toNat_lt hy2]
  unfold isB
  rw [UInt8.toNat_xor, UInt8.toNat_ofNat', Nat.mod_eq_of_lt hy2]

set_option maxRecDepth 8000 in
theorem seals_long {w : World} {A : Option Addr} {n c : Nat} (at_ by_ : Int) (h : 1000 < n) :
    Calls Try.prog 5 #[.slice A n c, .int .i64 at_, .int .u8 by_] w fun e w' => e = .returned (.bool true) ∧ Below w.heap.size w w' := by
  have d0 : decide ((1000 : Int) < n) = true := by simp; omega
  go_enter Try.func5, Try.ntmps5
  go_wp2_with (go_at_call 15; refine (checks_any _).mono ?_; rintro e w1 ⟨rfl, hb1⟩)
  go_ret
  exact ⟨rfl, hb1⟩

set_option maxRecDepth 8000 in
set_option maxHeartbeats 1000000 in
theorem seals_go {w : World} {A : Option Addr} {n c : Nat} {l : List UInt8} (at_ by_ : Int) (hR : RdB w A n l) (hn : n ≤ 1000) (hb0 : 0 ≤ by_) (hb1 : by_ ≤ 255) (hat : at_ ≤ 9223372036854775807) :
    Calls Try.prog 5 #[.slice A n c, .int .i64 at_, .int .u8 by_] w fun e w' => e = .returned (.bool true) ∧ Below w.heap.size w w' := by
  have d0 : decide ((1000 : Int) < n) = false := by simp; omega
  have HR := hid hR
  have hl := hid hR.1
  clear hR
  go_enter Try.func5, Try.ntmps5
  go_wp2_with (go_at_call 15; refine (checks_any _).mono ?_; rintro e w1 ⟨rfl, hb1⟩)
  have hT := hid (tab_new w1)
  have hb2 := hid (hb1.alloc hb1.size (.cells Try.zeroCells45 45))
  have hs1 := hb1.size
  clear hb1
  generalize w1.alloc (.cells Try.zeroCells45 45) = w2 at *
  generalize w1.heap.size = g at *
  refine (seal_any hT.out (HR.out.below hb2.out) (by omega) (by omega)).mono ?_
  rintro e w3 ⟨p, rfl, hB3, hp, hT3, hC3⟩
  have hb3 := hid (Chg.below hb2.out hC3 hb2.out.size (fun j hj => by omega))
  have HB3 := hid hB3
  have HT3 := hid hT3
  have hpw : w.heap.size ≤ p := Nat.le_trans hb2.out.size hp
  have hgp : g < p := Nat.lt_of_lt_of_le hT.out.lt hp
  clear hT hb2 hT3 hC3 hB3
  have hv : crcN ((l ++ sumD (crcN l)).take n) = getN ((l ++ sumD (crcN l)).drop n) := by
    rw [List.take_left' hl.out, List.drop_left' hl.out, getN_sumD _ (crcN_lt l)]
  have hR3 := RdB.of_blk HB3.out
  rw [show (l ++ sumD (crcN l)).length = n + 4 by simp [sumD_len, hl.out]] at hR3
  have HR3 := hid hR3
  have HV := hid hv
  clear hR3 hv
  go_wp2_with fail
  refine (open_yes HT3.out HR3.out (Nat.le_refl _) (by omega) (by omega) HV.out).mono ?_
  rintro e w4 ⟨q, rfl, hB4, hq, hT4, hC4⟩
  have hb4 := hid (Chg.below hb3.out hC4 hb3.out.size (fun j hj => by omega))
  have HB3' := hid (HB3.out.chg hC4 (fun e => HT3.out.ne HR3.out (by omega) ⟨p, 0, none⟩ rfl e))
  have hst := run_str (RdB.of_blk hB4) n
  rw [show ((l ++ sumD (crcN l)).take n).length = n by simp [hl.out]] at hst
  rw [List.take_left' hl.out] at hst
  have hst2 := run_str (HR.out.below hb4.out) c
  have HT4 := hid hT4
  clear hb3 HB3 HT3 HR3 HV hC4 hT4 hB4
  by_cases hneg : at_ < 0
  · have d1 : decide (at_ < 0) = true := by simp [hneg]
    go_wp2
    go_ret
    exact ⟨rfl, hb4.out⟩
  obtain ⟨j, rfl⟩ := Int.eq_ofNat_of_zero_le (show 0 ≤ at_ by omega)
  obtain ⟨y, rfl⟩ := Int.eq_ofNat_of_zero_le hb0
  have d1 : decide ((j : Int) < 0) = false := by simp
  clear hneg hb0
  by_cases hfar : n + 4 ≤ j
  · have d2 : decide (((n + 4 : Nat) : Int) ≤ (j : Int)) = true := by simp; omega
    have d3 : decide ((n : Int) + 4 ≤ (j : Int)) = true := by simp; omega
    have d4 : decide (n + 4 ≤ j) = true := by simp [hfar]
    go_wp2
    go_ret
    exact ⟨rfl, hb4.out⟩
  have d2 : decide (((n + 4 : Nat) : Int) ≤ (j : Int)) = false := by simp; omega
  have d3 : decide ((n : Int) + 4 ≤ (j : Int)) = false := by simp; omega
  have d4 : decide (n + 4 ≤ j) = false := by simp [hfar]
  rcases Nat.eq_zero_or_pos y with rfl | hy
  · go_wp2
    go_ret
    exact ⟨rfl, hb4.out⟩
  have d5 : ((y : Int) == 0) = false := by simp; omega
  have hj : j < (l ++ sumD (crcN l)).length := by simp [sumD_len, hl.out]; omega
  have hck := HB3'.out.at j
  rw [List.getElem?_map, List.getElem?_eq_getElem hj] at hck
  simp only [Option.map_some, isB] at hck
  have hfr := HB3'.out.free j
  have hS := HB3'.out.put j (isB ((l ++ sumD (crcN l))[j] ^^^ UInt8.ofNat y))
  rw [← List.map_set] at hS
  have hne := hid (seal_off l j ((l ++ sumD (crcN l))[j] ^^^ UInt8.ofNat y) (by simpa [sumD_len] using hj) (xor_byte_ne _ y hy (by omega)))
  have hT5 := HT4.out.chg (Chg.of_grown (grown_set w4 0 p j (isB ((l ++ sumD (crcN l))[j] ^^^ UInt8.ofNat y)))) (by intro h; injection h with h; omega)
  have hb5 : Below w.heap.size w (w4.setCell ⟨p, j, none⟩ (isB ((l ++ sumD (crcN l))[j] ^^^ UInt8.ofNat y))) := hb4.out.setCell hpw _
  have hlen := hid (show ((l ++ sumD (crcN l)).set j ((l ++ sumD (crcN l))[j] ^^^ UInt8.ofNat y)).length = n + 4 by simp [sumD_len, hl.out])
  rw [isB_xor _ y (by omega)] at hS hb5 hT5
  have HS := hid hS
  have HB5 := hid hb5
  have HT5 := hid hT5
  clear hS hT5 hb5 HB3' HT4 hb4
  generalize hL : (l ++ sumD (crcN l)).set j ((l ++ sumD (crcN l))[j] ^^^ UInt8.ofNat y) = L' at *
  clear hL
  generalize ((l ++ sumD (crcN l))[j]).toNat = x at *
  go_wp2_with fail
  change Hid (Tab (w4.setCell _ _) _ _ _) at HT5
  generalize w4.setCell ⟨p, j, none⟩ (.int .u8 (bits .xor .u8 (x : Int) (y : Int))) = w5 at *
  have hR5 := RdB.of_blk HS.out
  rw [hlen.out] at hR5
  have hne2 := hne.out
  rw [hl.out] at hne2
  refine (open_no HT5.out hR5 (Nat.le_refl _) (by omega) (by omega) hne2).mono ?_
  rintro e w6 ⟨rfl, hT6, hC6⟩
  have hb6 := hid (Chg.below HB5.out hC6 HB5.out.size (fun i hi => by omega))
  clear hT6 hC6 hR5 hne2
  go_wp2
  go_ret
  exact ⟨rfl, hb6.out⟩

theorem crcSeals_law {w : World} {A : Option Addr} {n c : Nat} {l : List UInt8} (at_ by_ : Int) (hR : RdB w A n l) (hb0 : 0 ≤ by_) (hb1 : by_ ≤ 255) (hat : at_ ≤ 9223372036854775807) :
    Calls Try.prog 5 #[.slice A n c, .int .i64 at_, .int .u8 by_] w fun e w' => e = .returned (.bool true) ∧ Below w.heap.size w w' := by
  by_cases h : 1000 < n
  · exact seals_long at_ by_ h
  · exact seals_go at_ by_ hR (by omega) hb0 hb1 hat
end Go.Proofs.Ytmbbjhlpfgpibaa
