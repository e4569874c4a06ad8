/- regex: the reference: Has, Put, All. -/
import Derived.Test.YtplldfbjbekdlaaDoorOfR
import Derived.Test.YtplldfbjbekdlaaDoorRqD
import Derived.Deep.QuietTactic
import Derived.BigQuiet
import Derived.Deep.Cut
import Derived.Deep.LoopGhost
namespace Go.Proofs.YtplldfbjbekdlaaDoor
open Go.RowKit
set_option linter.unusedVariables false
set_option linter.unusedSimpArgs false

theorem rset_info (f : Nat → Nat) : (Tryd.prog.info? 24).map (·.size) = some (four f).toArray.size := by
  have h : (Tryd.prog.info? 24).map (·.size) = some 4 := by kernel_rfl
  rw [h]; rfl
theorem rhas_bits (a : BS) (c : Nat) : ((((wd a (c / 64) : Nat) : Int) / 2 ^ (c % 64)).tmod 2 == 1) = has a c := by
  have h1 : ((wd a (c / 64) : Nat) : Int) / 2 ^ (c % 64) = ((wd a (c / 64) / 2 ^ (c % 64) : Nat) : Int) := by simp
  rw [h1, has_wd, Nat.testBit_eq_decide_div_mod_eq]
  generalize wd a (c / 64) / 2 ^ (c % 64) = x
  have h : ((x : Nat) : Int).tmod 2 = ((x % 2 : Nat) : Int) := by simp [Int.tmod_eq_emod_of_nonneg]
  rw [h, Bool.eq_iff_iff]
  simp only [beq_iff_eq, decide_eq_true_eq]
  omega
set_option maxRecDepth 8000 in
theorem rHas_any (a : BS) (c : Nat) (hc : c < 256) (w : World) :
    Calls Tryd.prog 53 #[setV a, .int .u8 (c : Int)] w fun e w' => e = .returned (.bool (has a c)) ∧ Below w.heap.size w w' := by
  rw [setV_eq]
  have hb := ((Below.refl w.heap.size w).alloc (Nat.le_refl _) (.cells (setL a).toArray 24))
  have hca := ((Blk.fresh w 24 (setL a)).at (c / 64)).trans (four_get (wd a) (c / 64) (by omega))
  have hfr := (Blk.fresh w 24 (setL a)).free (c / 64)
  unfold u64V at hca
  go_enter Tryd.func53, Tryd.ntmps53
  generalize (setL a).toArray = Va at *
  go_wp2
  go_ret
  exact ⟨ret_bool (rhas_bits a c), hb⟩
theorem or_pow (x i : Nat) (hx : x < 18446744073709551616) (hi : i < 64) (h : x.testBit i = false) : x + 2 ^ i = x ||| 2 ^ i := by
  have hp : 2 ^ i < 18446744073709551616 := Nat.pow_lt_pow_right (n := 64) (by decide) hi
  have ha : BitVec.ofNat 64 x &&& BitVec.ofNat 64 (2 ^ i) = 0#64 := by
    apply BitVec.eq_of_toNat_eq
    rw [BitVec.toNat_and, BitVec.toNat_ofNat, BitVec.toNat_ofNat, Nat.mod_eq_of_lt hx, Nat.mod_eq_of_lt hp]
    apply Nat.eq_of_testBit_eq
    intro j
    rw [Nat.testBit_and, Nat.testBit_two_pow]
    by_cases e : i = j
    · subst e; rw [h]; simp
    · simp [e]
  have h2 := BitVec.add_eq_or_of_and_eq_zero _ _ ha
  have h3 : x ||| 2 ^ i < 18446744073709551616 := Nat.or_lt_two_pow (n := 64) hx hp
  have h4 : x + 2 ^ i < 18446744073709551616 := by
    rcases Nat.lt_or_ge (x + 2 ^ i) 18446744073709551616 with q | q
    · exact q
    · exfalso
      have h5 := congrArg BitVec.toNat h2
      rw [BitVec.toNat_add, BitVec.toNat_or, BitVec.toNat_ofNat, BitVec.toNat_ofNat, Nat.mod_eq_of_lt hx, Nat.mod_eq_of_lt hp] at h5
      have h6 : x ≤ x ||| 2 ^ i := Nat.left_le_or
      omega
  have h5 := congrArg BitVec.toNat h2
  rw [BitVec.toNat_add, BitVec.toNat_or, BitVec.toNat_ofNat, BitVec.toNat_ofNat, Nat.mod_eq_of_lt hx, Nat.mod_eq_of_lt hp, Nat.mod_eq_of_lt h4] at h5
  exact h5
theorem has_or_self (a : BS) (c : Nat) (hc : c < 256) (h : has a c = true) : a ||| bit c = a := by
  refine bs_has_ext fun i hi => ?_
  rw [has_or, has_bit _ _ hc]
  by_cases e : i = c
  · subst e; rw [h]; rfl
  · simp [e]
theorem put_add (a : BS) (c : Nat) (hc : c < 256) (h : has a c = false) : IntKind.u64.wrap (((wd a (c / 64) : Nat) : Int) + IntKind.u64.wrap (2 ^ (c % 64))) = ((wd (a ||| bit c) (c / 64) : Nat) : Int) := by
  have hp : 2 ^ (c % 64) < 18446744073709551616 := Nat.pow_lt_pow_right (n := 64) (by decide) (Nat.mod_lt _ (by decide))
  have e : ((2 : Int) ^ (c % 64)) = ((2 ^ (c % 64) : Nat) : Int) := by simp
  rw [has_wd] at h
  have h2 := or_pow _ _ (wd_lt a (c / 64)) (Nat.mod_lt c (by decide)) h
  have h3 : wd a (c / 64) ||| 2 ^ (c % 64) < 18446744073709551616 := Nat.or_lt_two_pow (n := 64) (wd_lt a (c / 64)) hp
  rw [e, wrap_u64_nat _ hp, wd_or_bit _ _ _ hc, if_pos rfl, ← h2, ← Int.natCast_add, wrap_u64_nat _ (by rw [h2]; exact h3)]
set_option maxRecDepth 8000 in
theorem rPut_any (a : BS) (c : Nat) (hc : c < 256) (w : World) :
    Calls Tryd.prog 37 #[setV a, .int .u8 (c : Int)] w fun e w' => e = .returned (setV (a ||| bit c)) ∧ Below w.heap.size w w' := by
  have HH := hid (fun W => rHas_any a c hc W)
  have hb := @below_alloc2 w (.cells (setL a).toArray 24) (.cells (four (fun _ => 0)).toArray 24)
  have hA := (Blk.fresh w 24 (setL a)).alloc (.cells (four (fun _ => 0)).toArray 24)
  have hC := Blk.fresh (w.alloc (.cells (setL a).toArray 24)) 24 (four (fun _ => 0))
  rw [show (w.alloc (.cells (setL a).toArray 24)).heap.size = w.heap.size + 1 by simp] at hC
  have HA := hid hA
  have HC := hid hC
  have HB := hid hb
  have hga : ((w.alloc (.cells (setL a).toArray 24)).alloc (.cells (four (fun _ => 0)).toArray 24)).heap[w.heap.size]? = some (.cells (setL a).toArray 24) := hA
  clear hA hC hb
  rw [setV_eq] at HH
  rw [setV_eq, setV_eq]
  have hi := rset_info (wd a)
  change _ = some (setL a).toArray.size at hi
  have hone := four_one (wd a)
  cases hh : has a c with
  | true =>
    rw [hh] at HH
    rw [has_or_self a c hc hh]
    go_enter Tryd.func37, Tryd.ntmps37
    generalize hVa : (setL a).toArray = Va at *
    go_wp2_with (refine wpList_load_row rfl 24 _ rfl w.heap.size rfl 24 _ (0, 0) _ hga Tryd.underlying24 rfl hi ?_)
    refine (HH.out _).mono ?_
    rintro e w1 ⟨rfl, hb1⟩
    have HA1 := hid (HA.out.keep hb1)
    have HC1 := hid (HC.out.keep hb1)
    have HB1 := hid (HB.out.trans (hb1.mono HB.out.size))
    clear hb1 HA HC HB hga HH
    have hg : w1.heap[w.heap.size]? = some (.cells Va 24) := by rw [← hVa]; exact HA1.out
    have hz : w1.heap[w.heap.size + 1]? = some (.cells (four (fun _ => 0)).toArray 24) := HC1.out
    have HR := hid (show (w1.setRow (w.heap.size + 1) Va).heap[w.heap.size + 1]? = some (.cells Va 24) by rw [← hVa]; exact blk_row HC1.out (setL a))
    have hB := hid (below_row HB1.out (show w.heap.size ≤ w.heap.size + 1 by omega) Va)
    go_wp2_with (first
        | refine wpList_load_row rfl 24 _ rfl w.heap.size rfl 24 _ (0, 0) _ hg Tryd.underlying24 rfl hi ?_
        | refine wpList_store_row rfl 24 _ _ rfl (w.heap.size + 1) Va rfl rfl 24 _ hz hi (by rw [← hVa]; rfl) (by rw [← hVa]; exact four_one _) ?_)
    exact bodyPost_ret (v := .agg Va) (results_cell_row (P := Tryd.prog) (fn := Tryd.f37) rfl _ _ (w.heap.size + 1) 24 _ (0, 0) _ rfl HR.out Tryd.underlying24 rfl hi) rfl ⟨rfl, hB.out⟩
  | false =>
    rw [hh] at HH
    have hho := put_add a c hc hh
    go_enter Tryd.func37, Tryd.ntmps37
    have hi2 := rset_info (wd (a ||| bit c))
    change _ = some (setL (a ||| bit c)).toArray.size at hi2
    generalize hVa : (setL a).toArray = Va at *
    generalize hVb : (setL (a ||| bit c)).toArray = Vb at *
    go_wp2_with (refine wpList_load_row rfl 24 _ rfl w.heap.size rfl 24 _ (0, 0) _ hga Tryd.underlying24 rfl hi ?_)
    refine (HH.out _).mono ?_
    rintro e w1 ⟨rfl, hb1⟩
    have HA1 := hid (HA.out.keep hb1)
    have HC1 := hid (HC.out.keep hb1)
    have HB1 := hid (HB.out.trans (hb1.mono HB.out.size))
    clear hb1 HA HC HB hga HH
    have hca := (HA1.out.at (c / 64)).trans (four_get (wd a) (c / 64) (by omega))
    have hfr := HA1.out.free (c / 64)
    have hS := HA1.out.put (c / 64) (u64V (wd (a ||| bit c) (c / 64)))
    rw [setL_or_bit a c hc] at hS
    have HS := hid hS
    have HC2 := hid (HC1.out.other (p := ⟨w.heap.size, c / 64, none⟩) (show w.heap.size + 1 ≠ w.heap.size by omega) (u64V (wd (a ||| bit c) (c / 64))))
    have HB2 := hid (HB1.out.setCell (p := ⟨w.heap.size, c / 64, none⟩) (Nat.le_refl _) (u64V (wd (a ||| bit c) (c / 64))))
    unfold u64V at hca HS HC2 HB2
    generalize wd (a ||| bit c) (c / 64) = y at *
    clear hS HA1 HC1 HB1
    have hg : (w1.setCell ⟨w.heap.size, c / 64, none⟩ (.int .u64 (y : Int))).heap[w.heap.size]? = some (.cells Vb 24) := by rw [← hVb]; exact HS.out
    have hz : (w1.setCell ⟨w.heap.size, c / 64, none⟩ (.int .u64 (y : Int))).heap[w.heap.size + 1]? = some (.cells (four (fun _ => 0)).toArray 24) := HC2.out
    have HR := hid (show ((w1.setCell ⟨w.heap.size, c / 64, none⟩ (.int .u64 (y : Int))).setRow (w.heap.size + 1) Vb).heap[w.heap.size + 1]? = some (.cells Vb 24) by rw [← hVb]; exact blk_row HC2.out (setL (a ||| bit c)))
    have hB := hid (below_row HB2.out (show w.heap.size ≤ w.heap.size + 1 by omega) Vb)
    go_wp2_with (first
        | refine wpList_load_row rfl 24 _ rfl w.heap.size rfl 24 _ (0, 0) _ hg Tryd.underlying24 rfl hi2 ?_
        | refine wpList_store_row rfl 24 _ _ rfl (w.heap.size + 1) Vb rfl rfl 24 _ hz hi2 (by rw [← hVb]; rfl) (by rw [← hVb]; exact four_one _) ?_)
    exact bodyPost_ret (v := .agg Vb) (results_cell_row (P := Tryd.prog) (fn := Tryd.f37) rfl _ _ (w.heap.size + 1) 24 _ (0, 0) _ rfl HR.out Tryd.underlying24 rfl hi2) rfl ⟨rfl, hB.out⟩
theorem rngN_all : rngN 0 256 = ~~~(0#256) := by
  refine bs_has_ext fun i hi => ?_
  rw [has_rngN _ _ _ (by omega)]
  have h : has (~~~(0#256)) i = true := by
    unfold has
    rw [BitVec.getLsbD_not]
    simp [hi]
  rw [h]
  simp
  omega
theorem wrap_u8_nat (k : Nat) (h : k < 256) : IntKind.u8.wrap (k : Int) = (k : Int) := by rw [IntKind.wrap_u8]; omega
set_option maxRecDepth 8000 in
theorem rAll_any (w : World) : Calls Tryd.prog 35 #[] w fun e w' => e = .returned (setV (~~~(0#256))) ∧ Below w.heap.size w w' := by
  have HP := hid (fun (W : World) (s : BS) (c : Nat) (hc : c < 256) => rPut_any s c hc W)
  have hb := @below_alloc2 w (.cells (four (fun _ => 0)).toArray 24) (.cells (four (fun _ => 0)).toArray 24)
  have hC := (Blk.fresh w 24 (four (fun _ => 0))).alloc (.cells (four (fun _ => 0)).toArray 24)
  have hA := Blk.fresh (w.alloc (.cells (four (fun _ => 0)).toArray 24)) 24 (four (fun _ => 0))
  rw [show (w.alloc (.cells (four (fun _ => 0)).toArray 24)).heap.size = w.heap.size + 1 by simp] at hA
  have hs0 : four (fun _ => 0) = setL (rngN 0 0) := by simp [rngN, setL, four, wd_zero]
  have hA := Blk_cs hA hs0
  have HA := hid hA
  have HC := hid hC
  have HE := hid rngN_all
  clear hA hC hs0
  rw [setV_eq]
  go_enter Tryd.func35, Tryd.ntmps35
  go_wp2
  change Code.wp _ _ _ _ ((w.alloc (.cells (four (fun _ => 0)).toArray 24)).alloc (.cells (four (fun _ => 0)).toArray 24))
  generalize (w.alloc (.cells (four (fun _ => 0)).toArray 24)).alloc (.cells (four (fun _ => 0)).toArray 24) = w3 at *
  go_loopw [2] (fun i wr => ∃ k : Nat, k ≤ 256 ∧ i = .int .i64 (k : Int) ∧ Hid (Blk wr (w.heap.size + 1) 24 (setL (rngN 0 k))) ∧ Hid (Blk wr w.heap.size 24 (four (fun _ => 0))) ∧ Hid (Below w.heap.size w wr)) (fun i _ => 256 - (intOf i).toNat)
  case atStart => exact ⟨0, by omega, rfl, HA, HC, hid hb⟩
  case round =>
    obtain ⟨k, hk, rfl, HA, HC, HB⟩ := hrel
    by_cases hlt : k < 256
    · have HT := hid (show rngN 0 (k + 1) = rngN 0 k ||| bit (0 + k) from rfl)
      rw [Nat.zero_add] at HT
      have HPk := hid (fun W => HP.out W (rngN 0 k) k hlt)
      have hg : wr.heap[w.heap.size + 1]? = some (.cells (setL (rngN 0 k)).toArray 24) := HA.out
      have hi := rset_info (wd (rngN 0 k))
      change _ = some (setL (rngN 0 k)).toArray.size at hi
      have hi2 := rset_info (wd (rngN 0 (k + 1)))
      change _ = some (setL (rngN 0 (k + 1))).toArray.size at hi2
      rw [← HT.out, setV_eq, setV_eq] at HPk
      have hw8 := wrap_u8_nat k hlt
      generalize rngN 0 k = s at *
      generalize hs2 : rngN 0 (k + 1) = s2 at *
      have HS2 := hid hs2
      clear HT hs2
      generalize hVa : (setL s).toArray = Va at *
      generalize hVb : (setL s2).toArray = Vb at *
      go_wp2_with (refine wpList_load_row rfl 24 _ rfl (w.heap.size + 1) rfl 24 _ (0, 0) _ hg Tryd.underlying24 rfl hi ?_)
      refine (HPk.out _).mono ?_
      rintro e w4 ⟨rfl, hb4⟩
      have HA4 := hid (HA.out.keep hb4)
      have HC4 := hid (HC.out.keep hb4)
      have HB4 := hid (HB.out.trans (hb4.mono HB.out.size))
      clear hb4 HA HC HB hg HPk
      have hz : w4.heap[w.heap.size + 1]? = some (.cells Va 24) := by rw [← hVa]; exact HA4.out
      have HA5 := hid (show Blk (w4.setRow (w.heap.size + 1) Vb) (w.heap.size + 1) 24 (setL s2) by rw [← hVb]; exact blk_row HA4.out (setL s2))
      have HB5 := hid (below_row HB4.out (show w.heap.size ≤ w.heap.size + 1 by omega) Vb)
      have HC5 := hid (show Blk (w4.setRow (w.heap.size + 1) Vb) w.heap.size 24 (four (fun _ => 0)) from (setRow_other w4 (w.heap.size + 1) w.heap.size Vb (by omega)).trans HC4.out)
      go_wp2_with (refine wpList_store_row rfl 24 _ _ rfl (w.heap.size + 1) Vb rfl rfl 24 _ hz hi2 (by rw [← hVb, ← hVa]; rfl) (by rw [← hVb]; exact four_one _) ?_)
      go_roundw
      case rel => exact ⟨k + 1, by omega, by go_num, by rw [HS2.out]; exact HA5, HC5, HB5⟩
      case measure => simp [intOf]; omega
    · obtain rfl : k = 256 := by omega
      have hA := HA.out
      rw [HE.out] at hA
      have hg : wr.heap[w.heap.size + 1]? = some (.cells (setL (~~~(0#256))).toArray 24) := hA
      have hz : wr.heap[w.heap.size]? = some (.cells (four (fun _ => 0)).toArray 24) := HC.out
      have HRR := hid (blk_row HC.out (setL (~~~(0#256))))
      have hB := hid (below_row HB.out (Nat.le_refl w.heap.size) (setL (~~~(0#256))).toArray)
      generalize hres : (~~~(0#256) : BS) = res at *
      go_wp2_with (first
        | refine wpList_load_row rfl 24 _ rfl (w.heap.size + 1) rfl 24 _ (0, 0) _ hg Tryd.underlying24 rfl (rset_info _) ?_
        | refine wpList_store_row rfl 24 _ _ rfl w.heap.size (setL res).toArray rfl rfl 24 _ hz (rset_info _) rfl (four_one _) ?_)
      exact bodyPost_ret (v := .agg (setL res).toArray) (results_cell_row (P := Tryd.prog) (fn := Tryd.f35) rfl _ _ w.heap.size 24 _ (0, 0) _ rfl HRR.out Tryd.underlying24 rfl (rset_info _)) rfl ⟨by rw [← hres], hB.out⟩
end Go.Proofs.YtplldfbjbekdlaaDoor

/- regex: the reference: digit, Name, counted. -/
namespace Go.Proofs.YtplldfbjbekdlaaDoor
open Go.RowKit
set_option linter.unusedVariables false
set_option linter.unusedSimpArgs false

theorem rDig_any (c : Nat) (hc : c < 256) (w : World) : Calls Tryd.prog 54 #[.int .u8 (c : Int)] w fun e w' => e = .returned (.int .u8 (nmP.hdP c : Nat)) ∧ w' = w := by
  unfold nmP.hdP
  by_cases h : c ≤ 57
  · have h1 : (c : Int) ≤ 57 := by omega
    have e : IntKind.u8.wrap ((c : Int) - 48) = (((c + 256 - 48) % 256 : Nat) : Int) := by rw [IntKind.wrap_u8]; omega
    rw [if_pos h]
    generalize (c + 256 - 48) % 256 = y at *
    go_enter Tryd.func54, Tryd.ntmps54
    go_wp2
    go_ret
    exact ⟨by simp [e], rfl⟩
  · have h1 : ¬ (c : Int) ≤ 57 := by omega
    have e : ((c : Int) - 97 + 10) % 256 = (((c + 256 - 97 + 10) % 256 : Nat) : Int) := by omega
    rw [if_neg h]
    generalize (c + 256 - 97 + 10) % 256 = y at *
    go_enter Tryd.func54, Tryd.ntmps54
    go_wp2
    go_ret
    exact ⟨by simp [e], rfl⟩
set_option maxRecDepth 100000 in
set_option maxHeartbeats 4000000 in
theorem rName_any (s : ByteArray) (c : Nat) (h : nmP s.data.toList = some c) (w : World) : Calls Tryd.prog 38 #[.string s] w fun e w' => e = .returned (.int .u8 (c : Int)) ∧ (w' = w ∨ ∃ n, w' = w.drewN n) := by
  have hsz : s.data.toList.length = s.size := rfl
  have hb : ∀ i, nx s.data.toList i < 256 := fun i => nx_byte _ _
  unfold nmP at h
  rw [hsz] at h
  split at h
  · cases h
  · rename_i h0
    have p0 : 0 < s.size := by omega
    have e0 := nx_str p0
    split at h
    · rename_i h1
      injection h with h
      rw [h] at e0
      have n1 : ¬ (c : Int) = 92 := by rw [← h]; omega
      clear h1 h hb
      go_enter Tryd.func38, Tryd.ntmps38
      go_wp2
      go_ret
      exact ⟨rfl, .inl rfl⟩
    · rename_i h1
      have h1' : nx s.data.toList 0 = 92 := by omega
      rw [h1'] at e0
      split at h
      · cases h
      · rename_i h2
        have p1 : 1 < s.size := by omega
        have e1 := nx_str p1
        by_cases q1 : nx s.data.toList 1 = 110
        · rw [if_pos q1] at h
          injection h with h
          rw [q1] at e1
          subst h
          clear h1 h1' hb q1
          go_enter Tryd.func38, Tryd.ntmps38
          go_wp2
          go_ret
          exact ⟨rfl, .inl rfl⟩
        rw [if_neg q1] at h
        by_cases q2 : nx s.data.toList 1 = 114
        · rw [if_pos q2] at h
          injection h with h
          rw [q2] at e1
          subst h
          clear h1 h1' hb q1 q2
          go_enter Tryd.func38, Tryd.ntmps38
          go_wp2
          go_ret
          exact ⟨rfl, .inl rfl⟩
        rw [if_neg q2] at h
        by_cases q3 : nx s.data.toList 1 = 116
        · rw [if_pos q3] at h
          injection h with h
          rw [q3] at e1
          subst h
          clear h1 h1' hb q1 q2 q3
          go_enter Tryd.func38, Tryd.ntmps38
          go_wp2
          go_ret
          exact ⟨rfl, .inl rfl⟩
        rw [if_neg q3] at h
        by_cases q4 : nx s.data.toList 1 = 48
        · rw [if_pos q4] at h
          injection h with h
          rw [q4] at e1
          subst h
          clear h1 h1' hb q1 q2 q3 q4
          go_enter Tryd.func38, Tryd.ntmps38
          go_wp2
          go_ret
          exact ⟨rfl, .inl rfl⟩
        rw [if_neg q4] at h
        by_cases q5 : nx s.data.toList 1 = 120
        · rw [if_pos q5] at h
          split at h
          · cases h
          rename_i h4
          injection h with h
          rw [q5] at e1
          have p2 : 2 < s.size := by omega
          have p3 : 3 < s.size := by omega
          have e2 := nx_str p2
          have e3 := nx_str p3
          have HD := hid (fun (W : World) (i : Nat) => rDig_any (nx s.data.toList i) (hb i) W)
          have b2 : (2 : Int) < (s.size : Int) := by omega
          have b3 : (3 : Int) < (s.size : Int) := by omega
          have hc : (((nmP.hdP (nx s.data.toList 2) : Nat) : Int) * 16 % 256 + ((nmP.hdP (nx s.data.toList 3) : Nat) : Int)) % 256 = (c : Int) := by
            rw [← h]
            omega
          have HD2 := hid (fun W => HD.out W 2)
          have HD3 := hid (fun W => HD.out W 3)
          generalize nmP.hdP (nx s.data.toList 2) = y2 at *
          generalize nmP.hdP (nx s.data.toList 3) = y3 at *
          generalize nx s.data.toList 2 = x2 at *
          generalize nx s.data.toList 3 = x3 at *
          clear h1 h1' hb q1 q2 q3 q4 q5 h HD
          go_enter Tryd.func38, Tryd.ntmps38
          go_upto_region 13 with (fail)
          go_quiet (first | (go_at_call 54; refine Calls.quiet_of_same (HD2.out _)) | (go_at_call 54; refine Calls.quiet_of_same (HD3.out _)))
          go_wp2
          go_ret
          exact ⟨by simp [hc], .inr ⟨_, rfl⟩⟩
        rw [if_neg q5] at h
        injection h with h
        rw [h] at e1 q1 q2 q3 q4 q5
        have n1 : ¬ (c : Int) = 110 := by omega
        have n2 : ¬ (c : Int) = 114 := by omega
        have n3 : ¬ (c : Int) = 116 := by omega
        have n4 : ¬ (c : Int) = 48 := by omega
        have n5 : ¬ (c : Int) = 120 := by omega
        clear h1 h1' hb q1 q2 q3 q4 q5 h
        go_enter Tryd.func38, Tryd.ntmps38
        go_wp2
        go_ret
        exact ⟨rfl, .inl rfl⟩
end Go.Proofs.YtplldfbjbekdlaaDoor
