/- The walk of the law CrcTurns. -/
import Derived.Test.YtmbbjhlpfgpibaaChk
import Derived.StillTailTactics
namespace Go.Proofs.Ytmbbjhlpfgpibaa
open Go.RowKit

/-- Three rows of bytes together, bit by bit without carry. -/
def x3 : List UInt8 → List UInt8 → List UInt8 → List UInt8
  | x :: a, y :: b, z :: c => (x ^^^ y ^^^ z) :: x3 a b c
  | _, _, _ => []
theorem x3_len (a b c : List UInt8) (h1 : a.length = b.length) (h2 : b.length = c.length) : (x3 a b c).length = a.length := by
  induction a generalizing b c with
  | nil => simp [x3]
  | cons x a ih =>
    match b, c, h1, h2 with
    | y :: b, z :: c, h1, h2 => simp only [x3, List.length_cons] at *; rw [ih b c (by omega) (by omega)]
theorem x3_opt (a b c : List UInt8) (i : Nat) (x y z : UInt8) (hx : a[i]? = some x) (hy : b[i]? = some y) (hz : c[i]? = some z) : (x3 a b c)[i]? = some (x ^^^ y ^^^ z) := by
  induction a generalizing b c i with
  | nil => simp at hx
  | cons x' a ih =>
    cases b with
    | nil => simp at hy
    | cons y' b =>
      cases c with
      | nil => simp at hz
      | cons z' c =>
        cases i with
        | zero => simp at hx hy hz; simp [x3, hx, hy, hz]
        | succ i =>
          simp only [List.getElem?_cons_succ] at hx hy hz
          simp only [x3, List.getElem?_cons_succ]
          exact ih b c i hx hy hz
theorem x3_get (a b c : List UInt8) (h1 : a.length = b.length) (h2 : b.length = c.length) (i : Nat) (hi : i < a.length) :
    (x3 a b c)[i]'(by rw [x3_len a b c h1 h2]; exact hi) = a[i] ^^^ b[i] ^^^ c[i] := by
  have h := x3_opt a b c i _ _ _ (List.getElem?_eq_getElem hi) (List.getElem?_eq_getElem (show i < b.length by omega)) (List.getElem?_eq_getElem (show i < c.length by omega))
  rw [List.getElem?_eq_getElem (by rw [x3_len a b c h1 h2]; exact hi)] at h
  injection h
theorem xor_six (r1 r2 r3 x y z : Nat) : (r1 ^^^ r2 ^^^ r3) ^^^ (x ^^^ y ^^^ z) = (r1 ^^^ x) ^^^ (r2 ^^^ y) ^^^ (r3 ^^^ z) := by
  apply Nat.eq_of_testBit_eq
  intro i
  simp only [Nat.testBit_xor]
  cases r1.testBit i <;> cases r2.testBit i <;> cases r3.testBit i <;> cases x.testBit i <;> cases y.testBit i <;> cases z.testBit i <;> rfl
theorem crcF_x3 (a b c : List UInt8) (r1 r2 r3 : Nat) (h1 : a.length = b.length) (h2 : b.length = c.length) :
    crcF (r1 ^^^ r2 ^^^ r3) (x3 a b c) = crcF r1 a ^^^ crcF r2 b ^^^ crcF r3 c := by
  induction a generalizing b c r1 r2 r3 with
  | nil =>
    match b, c, h1, h2 with
    | [], [], _, _ => simp [x3, crcF]
  | cons x a ih =>
    match b, c, h1, h2 with
    | y :: b, z :: c, h1, h2 =>
      simp only [List.length_cons] at *
      show crcF (upd (r1 ^^^ r2 ^^^ r3) (x ^^^ y ^^^ z).toNat) (x3 a b c) = crcF (upd r1 x.toNat) a ^^^ crcF (upd r2 y.toNat) b ^^^ crcF (upd r3 z.toNat) c
      rw [← ih b c _ _ _ (by omega) (by omega)]
      congr 1
      rw [upd_eq, upd_eq, upd_eq, upd_eq, UInt8.toNat_xor, UInt8.toNat_xor, xor_six, behindN_xor, behindN_xor]
theorem crcN_x3 (a b c : List UInt8) (h1 : a.length = b.length) (h2 : b.length = c.length) : crcN a ^^^ crcN b ^^^ crcN c = crcN (x3 a b c) := by
  have h := crcF_x3 a b c ones ones ones h1 h2
  rw [show ones ^^^ ones ^^^ ones = ones by rw [Nat.xor_self, Nat.zero_xor]] at h
  unfold crcN more
  rw [Nat.zero_xor, h]
  apply Nat.eq_of_testBit_eq
  intro i
  simp only [Nat.testBit_xor]
  cases (crcF ones a).testBit i <;> cases (crcF ones b).testBit i <;> cases (crcF ones c).testBit i <;> cases ones.testBit i <;> rfl

/-- The fourth row, so many bytes made. -/
def dRow (a b c : List UInt8) (n k : Nat) : List UInt8 := (x3 a b c).take k ++ List.replicate (n - k) 0
theorem dRow_zero (a b c : List UInt8) (n : Nat) : dRow a b c n 0 = List.replicate n 0 := by simp [dRow]
theorem dRow_set (a b c : List UInt8) (n k : Nat) (h1 : a.length = b.length) (h2 : b.length = c.length) (hn : a.length = n) (hk : k < n) :
    (dRow a b c n k).set k (a[k] ^^^ b[k] ^^^ c[k]) = dRow a b c n (k + 1) := by
  have hl := x3_len a b c h1 h2
  unfold dRow
  rw [List.set_append_right _ _ (by simp; omega), List.take_succ_eq_append_getElem (by omega), List.append_assoc, x3_get a b c h1 h2 k (by omega)]
  congr 1
  rw [show k - ((x3 a b c).take k).length = 0 by simp; omega, show n - k = (n - (k + 1)) + 1 by omega, List.replicate_succ, List.set_cons_zero]
  rfl
theorem dRow_len (a b c : List UInt8) (n k : Nat) (h1 : a.length = b.length) (h2 : b.length = c.length) (hn : a.length = n) (hk : k ≤ n) : (dRow a b c n k).length = n := by
  have hl := x3_len a b c h1 h2
  simp [dRow]; omega
theorem dRow_all (a b c : List UInt8) (n : Nat) (h1 : a.length = b.length) (h2 : b.length = c.length) (hn : a.length = n) : dRow a b c n n = x3 a b c := by
  have hl := x3_len a b c h1 h2
  simp [dRow, List.take_of_length_le (show (x3 a b c).length ≤ n by omega)]
theorem isB_xor3 (x y z : UInt8) : isB (x ^^^ y ^^^ z) = .int .u8 (bits .xor .u8 (bits .xor .u8 (x.toNat : Int) (y.toNat : Int)) (z.toNat : Int)) := by
  have hx := x.toNat_lt
  have hy := y.toNat_lt
  have hz := z.toNat_lt
  rw [u8_xor_nat _ _ hx hy, u8_xor_nat _ _ (Nat.xor_lt_two_pow (n := 8) hx hy) hz]
  unfold isB
  rw [UInt8.toNat_xor, UInt8.toNat_xor]

set_option maxRecDepth 8000 in
theorem turns_skip {w : World} {A B C : Option Addr} {n c n2 c2 n3 c3 : Nat} (h : n ≠ n2 ∨ n2 ≠ n3 ∨ 1000 < n) :
    Calls Try.prog 6 #[.slice A n c, .slice B n2 c2, .slice C n3 c3] w fun e w' => e = .returned (.bool true) ∧ Below w.heap.size w w' := by
  by_cases h1 : n = n2
  · subst h1
    by_cases h2 : n = n3
    · subst h2
      have d0 : decide ((1000 : Int) < n) = true := by simp; omega
      go_enter Try.func6, Try.ntmps6
      go_wp2_with (go_at_call 15; refine (checks_any _).mono ?_; rintro e w1 ⟨rfl, hb1⟩)
      go_ret
      exact ⟨rfl, hb1⟩
    · have d0 : ((n : Int) == (n3 : Int)) = false := by simp; omega
      have d1 : ((n : Int) != (n3 : Int)) = true := by simp; omega
      go_enter Try.func6, Try.ntmps6
      go_wp2_with (go_at_call 15; refine (checks_any _).mono ?_; rintro e w1 ⟨rfl, hb1⟩)
      go_ret
      exact ⟨rfl, hb1⟩
  · have d0 : ((n : Int) == (n2 : Int)) = false := by simp; omega
    have d1 : ((n : Int) != (n2 : Int)) = true := by simp; omega
    go_enter Try.func6, Try.ntmps6
    go_wp2_with (go_at_call 15; refine (checks_any _).mono ?_; rintro e w1 ⟨rfl, hb1⟩)
    go_ret
    exact ⟨rfl, hb1⟩

set_option maxRecDepth 8000 in
set_option maxHeartbeats 2000000 in
theorem turns_go {w : World} {A B C : Option Addr} {n c c2 c3 : Nat} {a b d : List UInt8} (hA : RdB w A n a) (hB : RdB w B n b) (hC : RdB w C n d) (hn : n ≤ 1000) :
    Calls Try.prog 6 #[.slice A n c, .slice B n c2, .slice C n c3] w fun e w' => e = .returned (.bool true) ∧ Below w.heap.size w w' := by
  have d0 : decide ((1000 : Int) < n) = false := by simp; omega
  have hmk := run_makeB n (by omega)
  have HA := hid hA
  have HB := hid hB
  have HC := hid hC
  have h1 := hid (show a.length = b.length by rw [hA.1, hB.1])
  have h2 := hid (show b.length = d.length by rw [hB.1, hC.1])
  have hal := hid hA.1
  clear hA hB hC
  go_enter Try.func6, Try.ntmps6
  go_wp2_with (go_at_call 15; refine (checks_any _).mono ?_; rintro e w1 ⟨rfl, hb1⟩)
  have hT := hid ((tab_new w1).alloc (.cells (zeros n) 5))
  have hP : Blk ((w1.alloc (.cells Try.zeroCells45 45)).alloc (.cells (zeros n) 5)) (w1.heap.size + 1) 5 ((dRow a b d n 0).map isB) := by
    have := Blk.zeros_ (w1.alloc (.cells Try.zeroCells45 45)) n
    rw [dRow_zero]
    simpa [zeros] using this
  have HP := hid hP
  have hb2 := (hb1.alloc hb1.size (.cells Try.zeroCells45 45)).alloc (by have := hb1.size; simp; omega) (.cells (zeros n) 5)
  have hs1 := hb1.size
  clear hb1 hmk hP
  generalize (w1.alloc (.cells Try.zeroCells45 45)).alloc (.cells (zeros n) 5) = w2 at *
  have hgp : w1.heap.size ≠ w1.heap.size + 1 := by omega
  have hpw : w.heap.size ≤ w1.heap.size + 1 := by omega
  generalize w1.heap.size + 1 = p at *
  generalize w1.heap.size = g at *
  go_loopw [35] (fun i wr => ∃ k : Nat, k ≤ n ∧ i = .int .i64 k ∧ Hid (Tab wr g false 0) ∧ Hid (Blk wr p 5 ((dRow a b d n k).map isB)) ∧ Below w.heap.size w wr) (fun i _ => n - (intOf i).toNat)
  case atStart => exact ⟨0, by omega, rfl, hT, HP, hb2⟩
  case round =>
    obtain ⟨k, hk, rfl, hT3, HP3, hb3⟩ := hrel
    by_cases hlt : k < n
    · obtain ⟨ba, oa, rfl, _, hca⟩ := (HA.out.below hb3).2 (by omega)
      obtain ⟨bb, ob, rfl, _, hcb⟩ := (HB.out.below hb3).2 (by omega)
      obtain ⟨bc, oc, rfl, _, hcc⟩ := (HC.out.below hb3).2 (by omega)
      have c1 := hca k (by rw [hal.out]; exact hlt)
      have c2' := hcb k (by rw [← h1.out, hal.out]; exact hlt)
      have c3' := hcc k (by rw [← h2.out, ← h1.out, hal.out]; exact hlt)
      have hck : ∃ u, wr.cell? ⟨p, k, none⟩ = some u := ⟨_, (HP3.out.at k).trans (List.getElem?_eq_getElem (by rw [List.length_map, dRow_len a b d n k h1.out h2.out hal.out hk]; exact hlt))⟩
      obtain ⟨u, hu⟩ := hck
      have hfr := HP3.out.free k
      have hS := (HP3.out.drew).put k (isB (a[k]'(by rw [hal.out]; exact hlt) ^^^ b[k]'(by rw [← h1.out, hal.out]; exact hlt) ^^^ d[k]'(by rw [← h2.out, ← h1.out, hal.out]; exact hlt)))
      rw [← List.map_set, dRow_set a b d n k h1.out h2.out hal.out hlt, isB_xor3] at hS
      have HS := hid hS
      have HT4 := hid (hT3.out.chg (Chg.of_grown (grown_set wr 1 p k (.int .u8 (bits .xor .u8 (bits .xor .u8 ((a[k]'(by rw [hal.out]; exact hlt)).toNat : Int) ((b[k]'(by rw [← h1.out, hal.out]; exact hlt)).toNat : Int)) ((d[k]'(by rw [← h2.out, ← h1.out, hal.out]; exact hlt)).toNat : Int))))) (fun h => hgp (by injection h with h; exact h.symm)))
      clear hca hcb hcc hS
      generalize (a[k]'(by rw [hal.out]; exact hlt)).toNat = x at *
      generalize (b[k]'(by rw [← h1.out, hal.out]; exact hlt)).toNat = y at *
      generalize (d[k]'(by rw [← h2.out, ← h1.out, hal.out]; exact hlt)).toNat = z at *
      go_wp2_with fail
      refine wp_region_still_tail 17 (by kernel_rfl) (by kernel_rfl) ?_
      simp only [List.take_succ_cons, List.take_zero, List.drop_succ_cons, List.drop_zero]
      iterate 17 still_step
      refine wpStill_nil ?_
      change wpList _ _ _ _ _ wr.drew
      go_wp2
      go_roundw
      case rel => exact ⟨k + 1, by omega, by go_num, HT4, HS, (below_drewN hb3 1).setCell hpw _⟩
      case measure => simp [intOf]; omega
    · obtain rfl : k = n := by omega
      rw [dRow_all a b d k h1.out h2.out hal.out] at HP3
      have hD := hid (RdB.of_blk HP3.out)
      rw [show (x3 a b d).length = k by rw [x3_len a b d h1.out h2.out, hal.out]] at hD
      have hA3 := hid (HA.out.below hb3)
      have hB3 := hid (HB.out.below hb3)
      have hC3 := hid (HC.out.below hb3)
      have HX := hid (crcN_x3 a b d h1.out h2.out)
      have e1 := u32_xor_nat (crcN a) (crcN b) (crcN_lt a) (crcN_lt b)
      have e2 := u32_xor_nat (crcN a ^^^ crcN b) (crcN d) (xor_lt32 (crcN_lt a) (crcN_lt b)) (crcN_lt d)
      rw [HX.out] at e2
      have hb0 := hid hb3
      clear hb3 hT HP hb2 HA HB HC HP3
      go_wp2_with fail
      refine (of_any hT3.out hA3.out (by omega) (by omega)).mono ?_
      rintro e wa ⟨rfl, hTa, hCa⟩
      have hba := hid (Chg.below hb0.out hCa hb0.out.size (fun j hj => by omega))
      have hB4 := hid (hB3.out.chg hCa (fun h0 x hx e => hT3.out.ne hB3.out h0 x hx e))
      have hC4 := hid (hC3.out.chg hCa (fun h0 x hx e => hT3.out.ne hC3.out h0 x hx e))
      have hD4 := hid (hD.out.chg hCa (fun h0 x hx e => hT3.out.ne hD.out h0 x hx e))
      have HTa := hid hTa
      clear hCa hTa hT3 hA3 hB3 hC3 hD hb0
      go_wp2_with fail
      refine (of_any HTa.out hB4.out (by omega) (by omega)).mono ?_
      rintro e wb ⟨rfl, hTb, hCb⟩
      have hbb := hid (Chg.below hba.out hCb hba.out.size (fun j hj => by omega))
      have hC5 := hid (hC4.out.chg hCb (fun h0 x hx e => HTa.out.ne hC4.out h0 x hx e))
      have hD5 := hid (hD4.out.chg hCb (fun h0 x hx e => HTa.out.ne hD4.out h0 x hx e))
      have HTb := hid hTb
      clear hCb hTb HTa hB4 hC4 hD4 hba
      go_wp2_with fail
      refine (of_any HTb.out hC5.out (by omega) (by omega)).mono ?_
      rintro e wc ⟨rfl, hTc, hCc⟩
      have hbc := hid (Chg.below hbb.out hCc hbb.out.size (fun j hj => by omega))
      have hD6 := hid (hD5.out.chg hCc (fun h0 x hx e => HTb.out.ne hD5.out h0 x hx e))
      have HTc := hid hTc
      clear hCc hTc HTb hC5 hD5 hbb
      go_wp2_with fail
      refine (of_any HTc.out hD6.out (by omega) (by omega)).mono ?_
      rintro e wd ⟨rfl, hTd, hCd⟩
      have hbd := hid (Chg.below hbc.out hCd hbc.out.size (fun j hj => by omega))
      clear hCd hTd HTc hD6 hbc
      go_wp2
      go_ret
      exact ⟨rfl, hbd.out⟩

theorem crcTurns_law {w : World} {A B C : Option Addr} {n c n2 c2 n3 c3 : Nat} {a b d : List UInt8} (hA : RdB w A n a) (hB : RdB w B n2 b) (hC : RdB w C n3 d) :
    Calls Try.prog 6 #[.slice A n c, .slice B n2 c2, .slice C n3 c3] w fun e w' => e = .returned (.bool true) ∧ Below w.heap.size w w' := by
  by_cases h : n ≠ n2 ∨ n2 ≠ n3 ∨ 1000 < n
  · exact turns_skip h
  · obtain rfl : n = n2 := by omega
    obtain rfl : n = n3 := by omega
    exact turns_go hA hB hC (by omega)
end Go.Proofs.Ytmbbjhlpfgpibaa
