/- The walk of the law CrcOpens. -/
import Derived.Test.YtmbbjhlpfgpibaaOpen
import Derived.Test.YtmbbjhlpfgpibaaRSum
import Derived.Deep.RegionHeld
namespace Go.Proofs.Ytmbbjhlpfgpibaa
set_option linter.unusedVariables false
open Go.RowKit

theorem getN_cut (l : List UInt8) (m : Nat) (_h : l.length = m + 4) :
    getN (l.drop m) = (l.getD m 0).toNat * 16777216 + (l.getD (m + 1) 0).toNat * 65536 + (l.getD (m + 2) 0).toNat * 256 + (l.getD (m + 3) 0).toNat := by
  unfold getN
  simp [List.getD, List.getElem?_drop]
theorem cell_getD {w : World} {b o : Nat} {l : List UInt8} (hc : ∀ j (h : j < l.length), w.cell? ⟨b, o + j, none⟩ = some (.int .u8 (l[j].toNat : Int))) (j : Nat) (h : j < l.length) : w.cell? ⟨b, o + j, none⟩ = some (.int .u8 ((l.getD j 0).toNat : Int)) := by
  rw [hc j h]
  simp [List.getD, h]

set_option maxRecDepth 8000 in
theorem opens_long {w : World} {A : Option Addr} {n c : Nat} (h300 : 300 < n) :
    Calls Try.prog 7 #[.slice A n c] w fun e w' => e = .returned (.bool true) ∧ Below w.heap.size w w' := by
  have d0 : decide ((300 : Int) < n) = true := by simp; omega
  go_enter Try.func7, Try.ntmps7
  go_wp2_with (go_at_call 15; refine (checks_any _).mono ?_; rintro e w1 ⟨rfl, hb1⟩)
  go_ret
  exact ⟨rfl, hb1⟩

set_option maxRecDepth 8000 in
theorem opens_short {w : World} {A : Option Addr} {n c : Nat} (h4 : n < 4) :
    Calls Try.prog 7 #[.slice A n c] w fun e w' => e = .returned (.bool true) ∧ Below w.heap.size w w' := by
  have d0 : decide ((300 : Int) < n) = false := by simp; omega
  have d1 : decide ((n : Int) - 4 < 0) = true := by simp; omega
  go_enter Try.func7, Try.ntmps7
  go_wp2_with (go_at_call 15; refine (checks_any _).mono ?_; rintro e w1 ⟨rfl, hb1⟩)
  refine (open_short h4).mono ?_
  rintro e w2 ⟨rfl, rfl⟩
  go_wp2
  go_ret
  exact ⟨rfl, hb1.alloc hb1.size _⟩

set_option maxRecDepth 8000 in
set_option maxHeartbeats 1000000 in
theorem opens_yes {w : World} {A : Option Addr} {m c v : Nat} {l : List UInt8} (hR : RdB w A (m + 4) l) (hc : m + 4 ≤ c) (hm : m ≤ 296) (hv : crcN (l.take m) = v) (heq : v = getN (l.drop m)) (x0 x1 x2 x3 : Nat) (hx0 : Hid ((l.getD m 0).toNat = x0)) (hx1 : Hid ((l.getD (m + 1) 0).toNat = x1)) (hx2 : Hid ((l.getD (m + 2) 0).toNat = x2)) (hx3 : Hid ((l.getD (m + 3) 0).toNat = x3)) (e0 : (((x0 : Nat) : Int) == (v : Int) / 16777216) = true) (e1 : (((x1 : Nat) : Int) == (v : Int) / 65536 % 256) = true) (e2 : (((x2 : Nat) : Int) == (v : Int) / 256 % 256) = true) (e3 : (((x3 : Nat) : Int) == (v : Int) % 256) = true) :
    Calls Try.prog 7 #[.slice A (m + 4) c] w fun e w' => e = .returned (.bool true) ∧ Below w.heap.size w w' := by
  have hvl : v < 4294967296 := by rw [← hv]; exact crcN_lt _
  have HV := hid hv
  have HE := hid heq
  clear hv heq
  have d0 : decide ((300 : Int) < ((m + 4 : Nat) : Int)) = false := by simp; omega
  have d1 : decide (((m : Int)) < 0) = false := by simp
  have hsl := run_sliceB_to A (m + 4) c m (by omega)
  have HR := hid hR
  clear hR
  go_enter Try.func7, Try.ntmps7
  go_wp2_with (go_at_call 15; refine (checks_any _).mono ?_; rintro e w1 ⟨rfl, hb1⟩)
  have hT := hid (tab_new w1)
  have hb2 := hid (hb1.alloc hb1.size (.cells Try.zeroCells45 45))
  have hs1 := hb1.size
  clear hb1
  generalize w1.alloc (.cells Try.zeroCells45 45) = w2 at *
  refine (open_yes hT.out (HR.out.below hb2.out) hc (by omega) (by omega) (by rw [HV.out, HE.out])).mono ?_
  rintro e w3 ⟨p, rfl, hB3, hp, hT3, hC3⟩
  have hb3 := hid (Chg.below hb2.out hC3 hb2.out.size (fun j hj => by omega))
  have HB3 := hid hB3
  have HTl := hid (show (l.take m).length = m by have := HR.out.1; simp; omega)
  clear hT hb2 hT3 hC3 hB3
  have hR3 := hid (HR.out.below hb3.out)
  have hF3 := hid (hR3.out.front m (by omega))
  go_wp2_with fail
  refine (refsum_any hF3.out (by omega)).mono ?_
  rintro e w4 ⟨rfl, hb4⟩
  have hb4' := hid (hb3.out.trans (hb4.mono hb3.out.size))
  obtain ⟨bb, o, hA, hbb, hc⟩ := (HR.out.below hb4'.out).2 (by omega)
  subst hA
  have c0 := cell_getD hc m (by have := HR.out.1; omega)
  have c1 := cell_getD hc (m + 1) (by have := HR.out.1; omega)
  have c2 := cell_getD hc (m + 2) (by have := HR.out.1; omega)
  have c3 := cell_getD hc (m + 3) (by have := HR.out.1; omega)
  rw [hx0.out] at c0
  rw [hx1.out] at c1
  rw [hx2.out] at c2
  rw [hx3.out] at c3
  clear hc hbb
  have hst := run_strN (RdB.of_blk (HB3.out.keep hb4)) m
  rw [HTl.out] at hst
  have hst2 := run_strN ((HR.out.below hb4'.out).front m (by omega)) c
  rw [HV.out]
  clear hb4
  go_wp2
  go_quiet (fail)
  go_wp2
  go_ret
  exact ⟨rfl, below_drewN hb4'.out _⟩

set_option maxRecDepth 8000 in
set_option maxHeartbeats 1000000 in
theorem opens_no0 {w : World} {A : Option Addr} {m c v : Nat} {l : List UInt8} (hR : RdB w A (m + 4) l) (hc : m + 4 ≤ c) (hm : m ≤ 296) (hv : crcN (l.take m) = v) (hne : v ≠ getN (l.drop m)) (x0 x1 x2 x3 : Nat) (hx0 : Hid ((l.getD m 0).toNat = x0)) (hx1 : Hid ((l.getD (m + 1) 0).toNat = x1)) (hx2 : Hid ((l.getD (m + 2) 0).toNat = x2)) (hx3 : Hid ((l.getD (m + 3) 0).toNat = x3)) (e0 : (((x0 : Nat) : Int) == (v : Int) / 16777216) = false) :
    Calls Try.prog 7 #[.slice A (m + 4) c] w fun e w' => e = .returned (.bool true) ∧ Below w.heap.size w w' := by
  have hvl : v < 4294967296 := by rw [← hv]; exact crcN_lt _
  have HV := hid hv
  have HE := hid hne
  clear hv hne
  have d0 : decide ((300 : Int) < ((m + 4 : Nat) : Int)) = false := by simp; omega
  have d1 : decide (((m : Int)) < 0) = false := by simp
  have hsl := run_sliceB_to A (m + 4) c m (by omega)
  have HR := hid hR
  clear hR
  go_enter Try.func7, Try.ntmps7
  go_wp2_with (go_at_call 15; refine (checks_any _).mono ?_; rintro e w1 ⟨rfl, hb1⟩)
  have hT := hid (tab_new w1)
  have hb2 := hid (hb1.alloc hb1.size (.cells Try.zeroCells45 45))
  have hs1 := hb1.size
  clear hb1
  generalize w1.alloc (.cells Try.zeroCells45 45) = w2 at *
  refine (open_no hT.out (HR.out.below hb2.out) hc (by omega) (by omega) (by rw [HV.out]; exact HE.out)).mono ?_
  rintro e w3 ⟨rfl, hT3, hC3⟩
  have hb3 := hid (Chg.below hb2.out hC3 hb2.out.size (fun j hj => by omega))
  clear hT hb2 hT3 hC3
  have hR3 := hid (HR.out.below hb3.out)
  have hF3 := hid (hR3.out.front m (by omega))
  go_wp2_with fail
  refine (refsum_any hF3.out (by omega)).mono ?_
  rintro e w4 ⟨rfl, hb4⟩
  have hb4' := hid (hb3.out.trans (hb4.mono hb3.out.size))
  obtain ⟨bb, o, hA, hbb, hc⟩ := (HR.out.below hb4'.out).2 (by omega)
  subst hA
  have c0 := cell_getD hc m (by have := HR.out.1; omega)
  have c1 := cell_getD hc (m + 1) (by have := HR.out.1; omega)
  have c2 := cell_getD hc (m + 2) (by have := HR.out.1; omega)
  have c3 := cell_getD hc (m + 3) (by have := HR.out.1; omega)
  rw [hx0.out] at c0
  rw [hx1.out] at c1
  rw [hx2.out] at c2
  rw [hx3.out] at c3
  clear hc hbb
  rw [HV.out]
  clear hb4
  go_wp2
  go_quiet (fail)
  go_wp2
  go_ret
  exact ⟨rfl, below_drewN hb4'.out _⟩

set_option maxRecDepth 8000 in
set_option maxHeartbeats 1000000 in
theorem opens_no1 {w : World} {A : Option Addr} {m c v : Nat} {l : List UInt8} (hR : RdB w A (m + 4) l) (hc : m + 4 ≤ c) (hm : m ≤ 296) (hv : crcN (l.take m) = v) (hne : v ≠ getN (l.drop m)) (x0 x1 x2 x3 : Nat) (hx0 : Hid ((l.getD m 0).toNat = x0)) (hx1 : Hid ((l.getD (m + 1) 0).toNat = x1)) (hx2 : Hid ((l.getD (m + 2) 0).toNat = x2)) (hx3 : Hid ((l.getD (m + 3) 0).toNat = x3)) (e0 : (((x0 : Nat) : Int) == (v : Int) / 16777216) = true) (e1 : (((x1 : Nat) : Int) == (v : Int) / 65536 % 256) = false) :
    Calls Try.prog 7 #[.slice A (m + 4) c] w fun e w' => e = .returned (.bool true) ∧ Below w.heap.size w w' := by
  have hvl : v < 4294967296 := by rw [← hv]; exact crcN_lt _
  have HV := hid hv
  have HE := hid hne
  clear hv hne
  have d0 : decide ((300 : Int) < ((m + 4 : Nat) : Int)) = false := by simp; omega
  have d1 : decide (((m : Int)) < 0) = false := by simp
  have hsl := run_sliceB_to A (m + 4) c m (by omega)
  have HR := hid hR
  clear hR
  go_enter Try.func7, Try.ntmps7
  go_wp2_with (go_at_call 15; refine (checks_any _).mono ?_; rintro e w1 ⟨rfl, hb1⟩)
  have hT := hid (tab_new w1)
  have hb2 := hid (hb1.alloc hb1.size (.cells Try.zeroCells45 45))
  have hs1 := hb1.size
  clear hb1
  generalize w1.alloc (.cells Try.zeroCells45 45) = w2 at *
  refine (open_no hT.out (HR.out.below hb2.out) hc (by omega) (by omega) (by rw [HV.out]; exact HE.out)).mono ?_
  rintro e w3 ⟨rfl, hT3, hC3⟩
  have hb3 := hid (Chg.below hb2.out hC3 hb2.out.size (fun j hj => by omega))
  clear hT hb2 hT3 hC3
  have hR3 := hid (HR.out.below hb3.out)
  have hF3 := hid (hR3.out.front m (by omega))
  go_wp2_with fail
  refine (refsum_any hF3.out (by omega)).mono ?_
  rintro e w4 ⟨rfl, hb4⟩
  have hb4' := hid (hb3.out.trans (hb4.mono hb3.out.size))
  obtain ⟨bb, o, hA, hbb, hc⟩ := (HR.out.below hb4'.out).2 (by omega)
  subst hA
  have c0 := cell_getD hc m (by have := HR.out.1; omega)
  have c1 := cell_getD hc (m + 1) (by have := HR.out.1; omega)
  have c2 := cell_getD hc (m + 2) (by have := HR.out.1; omega)
  have c3 := cell_getD hc (m + 3) (by have := HR.out.1; omega)
  rw [hx0.out] at c0
  rw [hx1.out] at c1
  rw [hx2.out] at c2
  rw [hx3.out] at c3
  clear hc hbb
  rw [HV.out]
  clear hb4
  go_wp2
  go_quiet (fail)
  go_wp2
  go_ret
  exact ⟨rfl, below_drewN hb4'.out _⟩

set_option maxRecDepth 8000 in
set_option maxHeartbeats 1000000 in
theorem opens_no2 {w : World} {A : Option Addr} {m c v : Nat} {l : List UInt8} (hR : RdB w A (m + 4) l) (hc : m + 4 ≤ c) (hm : m ≤ 296) (hv : crcN (l.take m) = v) (hne : v ≠ getN (l.drop m)) (x0 x1 x2 x3 : Nat) (hx0 : Hid ((l.getD m 0).toNat = x0)) (hx1 : Hid ((l.getD (m + 1) 0).toNat = x1)) (hx2 : Hid ((l.getD (m + 2) 0).toNat = x2)) (hx3 : Hid ((l.getD (m + 3) 0).toNat = x3)) (e0 : (((x0 : Nat) : Int) == (v : Int) / 16777216) = true) (e1 : (((x1 : Nat) : Int) == (v : Int) / 65536 % 256) = true) (e2 : (((x2 : Nat) : Int) == (v : Int) / 256 % 256) = false) :
    Calls Try.prog 7 #[.slice A (m + 4) c] w fun e w' => e = .returned (.bool true) ∧ Below w.heap.size w w' := by
  have hvl : v < 4294967296 := by rw [← hv]; exact crcN_lt _
  have HV := hid hv
  have HE := hid hne
  clear hv hne
  have d0 : decide ((300 : Int) < ((m + 4 : Nat) : Int)) = false := by simp; omega
  have d1 : decide (((m : Int)) < 0) = false := by simp
  have hsl := run_sliceB_to A (m + 4) c m (by omega)
  have HR := hid hR
  clear hR
  go_enter Try.func7, Try.ntmps7
  go_wp2_with (go_at_call 15; refine (checks_any _).mono ?_; rintro e w1 ⟨rfl, hb1⟩)
  have hT := hid (tab_new w1)
  have hb2 := hid (hb1.alloc hb1.size (.cells Try.zeroCells45 45))
  have hs1 := hb1.size
  clear hb1
  generalize w1.alloc (.cells Try.zeroCells45 45) = w2 at *
  refine (open_no hT.out (HR.out.below hb2.out) hc (by omega) (by omega) (by rw [HV.out]; exact HE.out)).mono ?_
  rintro e w3 ⟨rfl, hT3, hC3⟩
  have hb3 := hid (Chg.below hb2.out hC3 hb2.out.size (fun j hj => by omega))
  clear hT hb2 hT3 hC3
  have hR3 := hid (HR.out.below hb3.out)
  have hF3 := hid (hR3.out.front m (by omega))
  go_wp2_with fail
  refine (refsum_any hF3.out (by omega)).mono ?_
  rintro e w4 ⟨rfl, hb4⟩
  have hb4' := hid (hb3.out.trans (hb4.mono hb3.out.size))
  obtain ⟨bb, o, hA, hbb, hc⟩ := (HR.out.below hb4'.out).2 (by omega)
  subst hA
  have c0 := cell_getD hc m (by have := HR.out.1; omega)
  have c1 := cell_getD hc (m + 1) (by have := HR.out.1; omega)
  have c2 := cell_getD hc (m + 2) (by have := HR.out.1; omega)
  have c3 := cell_getD hc (m + 3) (by have := HR.out.1; omega)
  rw [hx0.out] at c0
  rw [hx1.out] at c1
  rw [hx2.out] at c2
  rw [hx3.out] at c3
  clear hc hbb
  rw [HV.out]
  clear hb4
  go_wp2
  go_quiet (fail)
  go_wp2
  go_ret
  exact ⟨rfl, below_drewN hb4'.out _⟩

set_option maxRecDepth 8000 in
set_option maxHeartbeats 1000000 in
theorem opens_no3 {w : World} {A : Option Addr} {m c v : Nat} {l : List UInt8} (hR : RdB w A (m + 4) l) (hc : m + 4 ≤ c) (hm : m ≤ 296) (hv : crcN (l.take m) = v) (hne : v ≠ getN (l.drop m)) (x0 x1 x2 x3 : Nat) (hx0 : Hid ((l.getD m 0).toNat = x0)) (hx1 : Hid ((l.getD (m + 1) 0).toNat = x1)) (hx2 : Hid ((l.getD (m + 2) 0).toNat = x2)) (hx3 : Hid ((l.getD (m + 3) 0).toNat = x3)) (e0 : (((x0 : Nat) : Int) == (v : Int) / 16777216) = true) (e1 : (((x1 : Nat) : Int) == (v : Int) / 65536 % 256) = true) (e2 : (((x2 : Nat) : Int) == (v : Int) / 256 % 256) = true) (e3 : (((x3 : Nat) : Int) == (v : Int) % 256) = false) :
    Calls Try.prog 7 #[.slice A (m + 4) c] w fun e w' => e = .returned (.bool true) ∧ Below w.heap.size w w' := by
  have hvl : v < 4294967296 := by rw [← hv]; exact crcN_lt _
  have HV := hid hv
  have HE := hid hne
  clear hv hne
  have d0 : decide ((300 : Int) < ((m + 4 : Nat) : Int)) = false := by simp; omega
  have d1 : decide (((m : Int)) < 0) = false := by simp
  have hsl := run_sliceB_to A (m + 4) c m (by omega)
  have HR := hid hR
  clear hR
  go_enter Try.func7, Try.ntmps7
  go_wp2_with (go_at_call 15; refine (checks_any _).mono ?_; rintro e w1 ⟨rfl, hb1⟩)
  have hT := hid (tab_new w1)
  have hb2 := hid (hb1.alloc hb1.size (.cells Try.zeroCells45 45))
  have hs1 := hb1.size
  clear hb1
  generalize w1.alloc (.cells Try.zeroCells45 45) = w2 at *
  refine (open_no hT.out (HR.out.below hb2.out) hc (by omega) (by omega) (by rw [HV.out]; exact HE.out)).mono ?_
  rintro e w3 ⟨rfl, hT3, hC3⟩
  have hb3 := hid (Chg.below hb2.out hC3 hb2.out.size (fun j hj => by omega))
  clear hT hb2 hT3 hC3
  have hR3 := hid (HR.out.below hb3.out)
  have hF3 := hid (hR3.out.front m (by omega))
  go_wp2_with fail
  refine (refsum_any hF3.out (by omega)).mono ?_
  rintro e w4 ⟨rfl, hb4⟩
  have hb4' := hid (hb3.out.trans (hb4.mono hb3.out.size))
  obtain ⟨bb, o, hA, hbb, hc⟩ := (HR.out.below hb4'.out).2 (by omega)
  subst hA
  have c0 := cell_getD hc m (by have := HR.out.1; omega)
  have c1 := cell_getD hc (m + 1) (by have := HR.out.1; omega)
  have c2 := cell_getD hc (m + 2) (by have := HR.out.1; omega)
  have c3 := cell_getD hc (m + 3) (by have := HR.out.1; omega)
  rw [hx0.out] at c0
  rw [hx1.out] at c1
  rw [hx2.out] at c2
  rw [hx3.out] at c3
  clear hc hbb
  rw [HV.out]
  clear hb4
  go_wp2
  go_quiet (fail)
  go_wp2
  go_ret
  exact ⟨rfl, below_drewN hb4'.out _⟩

theorem crcOpens_law {w : World} {A : Option Addr} {n c : Nat} {l : List UInt8} (hR : RdB w A n l) (hc : n ≤ c) :
    Calls Try.prog 7 #[.slice A n c] w fun e w' => e = .returned (.bool true) ∧ Below w.heap.size w w' := by
  by_cases h300 : 300 < n
  · exact opens_long h300
  · by_cases h4 : n < 4
    · exact opens_short h4
    · obtain ⟨m, rfl⟩ : ∃ m, n = m + 4 := ⟨n - 4, by omega⟩
      have hg := getN_cut l m hR.1
      have hv := crcN_lt (l.take m)
      have b0 := (l.getD m 0).toNat_lt
      have b1 := (l.getD (m + 1) 0).toNat_lt
      have b2 := (l.getD (m + 2) 0).toNat_lt
      have b3 := (l.getD (m + 3) 0).toNat_lt
      generalize hx0 : (l.getD m 0).toNat = x0 at *
      generalize hx1 : (l.getD (m + 1) 0).toNat = x1 at *
      generalize hx2 : (l.getD (m + 2) 0).toNat = x2 at *
      generalize hx3 : (l.getD (m + 3) 0).toNat = x3 at *
      generalize hcv : crcN (l.take m) = v at *
      have hm : m ≤ 296 := by omega
      by_cases e0 : x0 = v / 16777216
      · by_cases e1 : x1 = v / 65536 % 256
        · by_cases e2 : x2 = v / 256 % 256
          · by_cases e3 : x3 = v % 256
            · exact opens_yes hR hc hm hcv (by omega) x0 x1 x2 x3 (hid hx0) (hid hx1) (hid hx2) (hid hx3) (by simp; omega) (by simp; omega) (by simp; omega) (by simp; omega)
            · exact opens_no3 hR hc hm hcv (by omega) x0 x1 x2 x3 (hid hx0) (hid hx1) (hid hx2) (hid hx3) (by simp; omega) (by simp; omega) (by simp; omega) (by simp; omega)
          · exact opens_no2 hR hc hm hcv (by omega) x0 x1 x2 x3 (hid hx0) (hid hx1) (hid hx2) (hid hx3) (by simp; omega) (by simp; omega) (by simp; omega)
        · exact opens_no1 hR hc hm hcv (by omega) x0 x1 x2 x3 (hid hx0) (hid hx1) (hid hx2) (hid hx3) (by simp; omega) (by simp; omega)
      · exact opens_no0 hR hc hm hcv (by omega) x0 x1 x2 x3 (hid hx0) (hid hx1) (hid hx2) (hid hx3) (by simp; omega)
end Go.Proofs.Ytmbbjhlpfgpibaa
