/- crc: put, get. -/
import Derived.Test.YtmbbjhlpfgpibaaChk
namespace Go.Proofs.Ytmbbjhlpfgpibaa
open Go.RowKit

/-- Byte number i of a checksum, the highest one first. -/
def byteD (v i : Nat) : UInt8 := UInt8.ofNat (v / 2 ^ (8 * (3 - i)))
theorem byteD_nat (v i : Nat) : (byteD v i).toNat = v / 2 ^ (8 * (3 - i)) % 256 := by simp [byteD, UInt8.toNat_ofNat']
/-- The bytes of a checksum. -/
def sumD (v : Nat) : List UInt8 := [byteD v 0, byteD v 1, byteD v 2, byteD v 3]
/-- The number of four bytes. -/
def getN (l : List UInt8) : Nat := (l.getD 0 0).toNat * 16777216 + (l.getD 1 0).toNat * 65536 + (l.getD 2 0).toNat * 256 + (l.getD 3 0).toNat
theorem getN_sumD (v : Nat) (h : v < 4294967296) : getN (sumD v) = v := by
  unfold getN sumD
  simp only [List.getD_cons_zero, List.getD_cons_succ, byteD_nat]
  omega
theorem getN_lt (l : List UInt8) : getN l < 4294967296 := by
  have h0 := (l.getD 0 0).toNat_lt
  have h1 := (l.getD 1 0).toNat_lt
  have h2 := (l.getD 2 0).toNat_lt
  have h3 := (l.getD 3 0).toNat_lt
  unfold getN
  omega
theorem sumD_getN (l : List UInt8) (h : l.length = 4) : sumD (getN l) = l := by
  match l, h with
  | [a, b, c, d], _ =>
    have h0 := a.toNat_lt
    have h1 := b.toNat_lt
    have h2 := c.toNat_lt
    have h3 := d.toNat_lt
    have e : ∀ (i : Nat) (x : UInt8), (byteD (getN [a, b, c, d]) i).toNat = x.toNat → byteD (getN [a, b, c, d]) i = x := fun i x h => UInt8.toNat_inj.1 h
    unfold sumD
    rw [e 0 a, e 1 b, e 2 c, e 3 d]
    all_goals
      rw [byteD_nat]
      simp only [getN, List.getD_cons_zero, List.getD_cons_succ]
      omega

/-- The number of the first k bytes. -/
def getK (l : List UInt8) : Nat → Nat
  | 0 => 0
  | k + 1 => getK l k * 256 + (l.getD k 0).toNat
theorem getK_all (l : List UInt8) : getK l 4 = getN l := by
  simp only [getK, getN]
  omega
theorem getK_succ (l : List UInt8) (k : Nat) (h : k < l.length) : getK l (k + 1) = getK l k * 256 + l[k].toNat := by
  simp [getK, List.getD, h]
theorem getK_lt (l : List UInt8) (k : Nat) (h : k ≤ 3) : getK l k < 16777216 := by
  have h0 := (l.getD 0 0).toNat_lt
  have h1 := (l.getD 1 0).toNat_lt
  have h2 := (l.getD 2 0).toNat_lt
  rcases (show k = 0 ∨ k = 1 ∨ k = 2 ∨ k = 3 by omega) with rfl | rfl | rfl | rfl <;> simp only [getK] <;> omega
theorem or_add (y x : Nat) (hy : y < 16777216) (hx : x < 256) : bits .or .u32 ((y : Int) * 256) (x : Int) = ((y * 256 + x : Nat) : Int) := by
  have h := u32_or_nat (y * 256) x (by omega) (by omega)
  have e := Nat.two_pow_add_eq_or_of_lt (i := 8) (b := x) (by omega) y
  rw [show y * 256 = 2 ^ 8 * y by omega, ← e] at h
  rw [show (y : Int) * 256 = ((2 ^ 8 * y : Nat) : Int) by omega, h]
  congr 1
  omega

/-- So many bytes of a checksum are put. -/
def putC (cs : List Value) (o v : Nat) : Nat → List Value
  | 0 => cs
  | k + 1 => (putC cs o v k).set (o + k) (isB (byteD v k))
theorem putC_len (cs : List Value) (o v k : Nat) : (putC cs o v k).length = cs.length := by
  induction k with
  | zero => rfl
  | succ k ih => simp [putC, ih]

set_option maxRecDepth 4000 in
theorem put_any {w : World} {g o m c v : Nat} {cs : List Value} (hB : Blk w g 5 cs) (hv : v < 4294967296) (hm : 4 ≤ m) (hml : m ≤ 9223372036854775807) (ho : o + 4 ≤ cs.length) :
    Calls Try.prog 48 #[.slice (some ⟨g, o, none⟩) m c, .int .u32 v] w fun e w' => e = .returned (.tuple #[]) ∧ Blk w' g 5 (putC cs o v 4) ∧ w.grownBy w' (some g) := by
  have HB := hid hB
  clear hB
  go_enter Try.func48, Try.ntmps48
  go_wp2
  go_loopw [5] (fun i wr => ∃ k : Nat, k ≤ 4 ∧ i = .int .i64 k ∧ Hid (Blk wr g 5 (putC cs o v k)) ∧ w.grownBy wr (some g)) (fun i _ => 4 - (intOf i).toNat)
  case atStart => exact ⟨0, by omega, rfl, HB, World.grownBy.refl w _⟩
  case round =>
    obtain ⟨k, hk, rfl, HG, hg⟩ := hrel
    by_cases hlt : k < 4
    · have hck : ∃ u, wr.cell? ⟨g, o + k, none⟩ = some u := ⟨_, (HG.out.at (o + k)).trans (List.getElem?_eq_getElem (by rw [putC_len]; omega))⟩
      obtain ⟨u, hu⟩ := hck
      have hfr := HG.out.free (o + k)
      have HS := hid (HG.out.put (o + k) (isB (byteD v k)))
      have HE := hid (byteD_nat v k)
      rcases (show k = 0 ∨ k = 1 ∨ k = 2 ∨ k = 3 by omega) with rfl | rfl | rfl | rfl
      · have d1 : (0 : Int) < m := by omega
        rw [Nat.add_zero] at hu hfr
        have e : isB (byteD v 0) = .int .u8 ((v : Int) / 16777216) := by
          unfold isB
          rw [HE.out]
          congr 1 <;> omega
        go_wp2
        go_roundw
        case rel =>
          have h := HS.out
          change Blk _ _ _ (putC cs o v 1) at h
          rw [Nat.add_zero] at h
          rw [e] at h
          exact ⟨1, by omega, by go_num, hid h, grown_trans hg (grown_set wr 0 g _ _)⟩
        case measure => simp [intOf]
      · have d1 : (1 : Int) < m := by omega
        have e : isB (byteD v 1) = .int .u8 ((v : Int) / 65536 % 256) := by
          unfold isB
          rw [HE.out]
          congr 1 <;> omega
        go_wp2
        go_roundw
        case rel =>
          have h := HS.out
          change Blk _ _ _ (putC cs o v 2) at h
          rw [e] at h
          exact ⟨2, by omega, by go_num, hid h, grown_trans hg (grown_set wr 0 g _ _)⟩
        case measure => simp [intOf]
      · have d1 : (2 : Int) < m := by omega
        have e : isB (byteD v 2) = .int .u8 ((v : Int) / 256 % 256) := by
          unfold isB
          rw [HE.out]
          congr 1 <;> omega
        go_wp2
        go_roundw
        case rel =>
          have h := HS.out
          change Blk _ _ _ (putC cs o v 3) at h
          rw [e] at h
          exact ⟨3, by omega, by go_num, hid h, grown_trans hg (grown_set wr 0 g _ _)⟩
        case measure => simp [intOf]
      · have d1 : (3 : Int) < m := by omega
        have e : isB (byteD v 3) = .int .u8 ((v : Int) % 256) := by
          unfold isB
          rw [HE.out]
          congr 1 <;> omega
        go_wp2
        go_roundw
        case rel =>
          have h := HS.out
          change Blk _ _ _ (putC cs o v 4) at h
          rw [e] at h
          exact ⟨4, by omega, by go_num, hid h, grown_trans hg (grown_set wr 0 g _ _)⟩
        case measure => simp [intOf]
    · obtain rfl : k = 4 := by omega
      go_wp2
      go_end0
      exact ⟨rfl, HG.out, hg⟩

theorem get_any {w : World} {A : Option Addr} {n c : Nat} {l : List UInt8} (hR : RdB w A n l) (h4 : 4 ≤ n) (hn : n ≤ 9223372036854775807) :
    Calls Try.prog 49 #[.slice A n c] w fun e w' => e = .returned (.int .u32 ((getN l : Nat) : Int)) ∧ w = w' := by
  have hlen := hid hR.1
  obtain ⟨b, o, rfl, hb, hc⟩ := hR.2 (by omega)
  have HC := hid hc
  clear hc hR
  go_enter Try.func49, Try.ntmps49
  go_wp2
  go_loop [3, 5] (fun v i => ∃ k : Nat, k ≤ 4 ∧ i = .int .i64 k ∧ v = .int .u32 ((getK l k : Nat) : Int)) (fun _ i => 4 - (intOf i).toNat)
  case atStart => exact ⟨0, by omega, rfl, rfl⟩
  case round =>
    obtain ⟨k, hk, rfl, rfl⟩ := hrel
    by_cases hlt : k < 4
    · have hck := HC.out k (by rw [hlen.out]; omega)
      have hby := (l[k]'(by rw [hlen.out]; omega)).toNat_lt
      have hg := getK_lt l k (by omega)
      have HS := hid (getK_succ l k (by rw [hlen.out]; omega))
      have hkn : k < n := by omega
      generalize (l[k]'(by rw [hlen.out]; omega)).toNat = x at *
      have hor := or_add (getK l k) x hg hby
      have HL := hid (getK_lt l k (by omega))
      generalize getK l k = y at *
      go_wp2
      go_round
      case rel => exact ⟨k + 1, by omega, by go_num, by rw [HS.out]; go_num⟩
      case measure => simp [intOf]; omega
    · obtain rfl : k = 4 := by omega
      have HE := hid (getK_all l)
      go_wp2
      go_ret
      exact ⟨by rw [HE.out]; rfl, rfl⟩
end Go.Proofs.Ytmbbjhlpfgpibaa
