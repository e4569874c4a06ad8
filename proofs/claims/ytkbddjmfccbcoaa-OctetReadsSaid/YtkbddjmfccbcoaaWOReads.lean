/- The walk of OctetReads. -/
import Derived.Test.YtkbddjmfccbcoaaReads
import Derived.Test.YtkbddjmfccbcoaaRow
namespace Go.Proofs.Ytkbddjmfccbcoaa
open Go.RowKit

theorem run_sliceB_mid (A : Option Addr) (n c i j : Nat) (h : i ≤ j) (h2 : j ≤ c) (w : World) :
    (Instr.slice 24 (.slice A n c) (some (.int .i64 (i : Int))) (some (.int .i64 (j : Int))) none).run Try.prog w = .ok (.slice (if c = i then A else A.map (·.add i)) (j - i) (c - i)) w := by
  have hs : (sizeOf 5).run Try.prog w = .ok 1 w := by kernel_rfl
  simp [Instr.slice, run_underlying Try.underlying24, Instr.sliceBounds, Instr.sliceBound, asIntOf, hs, h, h2]

set_option maxRecDepth 4000 in
set_option maxHeartbeats 2000000 in
theorem octetReads_law {w : World} {A B : Option Addr} {n c m d : Nat} {l : List UInt8} {V : List Int} (hR : RdB w A n l) (hV : RdI .i64 w B m V) (hVw : ∀ x ∈ V, (Lit.int .i64 x).wf = true) (hn : n ≤ c) (hc : c ≤ 9223372036854775807) :
    Calls Try.prog 4 #[.slice A n c, .slice B m d] w fun e w' => e = .returned (.bool true) ∧ Below w.heap.size w w' := by
  have hVn := hid hV.1
  have hln := hid hR.1
  have HVw := hid hVw
  clear hVw
  by_cases hbad : 2000 < n ∨ 100 < m
  · rcases (show 2000 < n ∨ decide (2000 < (n : Int)) = false ∧ 100 < m by simp; omega) with h1 | ⟨h1, h2⟩
    all_goals
      go_enter Try.func4, Try.ntmps4
      go_wp2_with (go_at_call 15; refine (reads_any _).mono ?_; rintro e w1 ⟨rfl, hb1⟩)
      go_ret
      exact ⟨rfl, hb1⟩
  · have hn2 : n ≤ 2000 := by omega
    have hm2 : m ≤ 100 := by omega
    clear hbad
    go_enter Try.func4, Try.ntmps4
    go_wp2_with (go_at_call 15; refine (reads_any _).mono ?_; rintro e w1 ⟨rfl, hb1⟩)
    go_wp2_with fail
    refine (new_rd (hR.below hb1) hn hc).mono ?_
    rintro e w2 ⟨p, rfl, hR2, hb, hp⟩
    have hb2 := hb1.trans (hb.mono hb1.size)
    have hpw : w.heap.size ≤ p := by have := hb1.size; omega
    clear hb1 hb hp
    go_wp2_with fail
    go_loopw [6, 30] (fun x i wr => ∃ k rd : Nat, k ≤ m ∧ i = .int .i64 k ∧ x = .int .i64 rd ∧ Rdr wr p A n c rd l ∧ Below w.heap.size w wr) (fun _ i _ => m - (intOf i).toNat)
    case atStart => exact ⟨0, 0, Nat.zero_le _, rfl, rfl, hR2, hb2⟩
    case round =>
      obtain ⟨k, rd, hk, rfl, rfl, hR3, hb3⟩ := hrel
      have hrd := hR3.le
      by_cases hlt : k < m
      · obtain ⟨b', o', rfl, hb', hc2⟩ := (hV.below hb3).2 (by omega)
        have hcv := hc2 k (by rw [hVn.out]; exact hlt)
        have hkV : k < V.length := by rw [hVn.out]; exact hlt
        obtain ⟨v, hv⟩ : ∃ v : Int, v = V[k]'hkV := ⟨_, rfl⟩
        have hvb := wf_i64_bounds (HVw.out _ (List.getElem_mem hkV))
        rw [← hv] at hcv hvb
        clear hc2 hb' hkV hv
        by_cases hneg : v < 0
        · go_wp2_with fail
          refine (take_neg v hneg).mono ?_
          rintro e w4 ⟨rfl, rfl⟩
          have hR4 := hR3
          have hb4 := hb3
          go_wp2_with fail
          refine (at_any hR4).mono ?_
          rintro e w5 ⟨rfl, rfl⟩
          go_wp2_with fail
          refine (left_any hR4).mono ?_
          rintro e w5 ⟨rfl, k5, rfl⟩
          have hR5 := hR4.drewN k5
          have hb5 := below_drewN hb4 k5
          by_cases hend : rd < n
          · have hlt' : rd < l.length := by rw [hln.out]; exact hend
            obtain ⟨b, o, rfl, hbA, hc1⟩ := hR5.rdb.2 (by omega)
            have hcb := hc1 (rd) hlt'
            have hpk := peek_yes hR5 hlt'
            obtain ⟨x, hx⟩ : ∃ x : Int, x = ((l[rd]'hlt').toNat : Int) := ⟨_, rfl⟩
            rw [← hx] at hcb hpk
            have HPK := hid hpk
            have HCB := hid hcb
            clear hc1 hx hpk hbA hcb hlt'
            go_wp2_with fail
            refine HPK.out.mono ?_
            rintro e w6 ⟨rfl, k6, rfl⟩
            have hR6 := hR4.drewN (k5 + k6)
            have hb6 := below_drewN hb4 (k5 + k6)
            have hcb : (wr.drewN (k5 + k6)).cell? ⟨b, o + (rd), none⟩ = some (.int .u8 x) := HCB.out
            clear hR4 hb4 hR5 hb5 HPK
            go_wp2_with fail
            go_roundw
            case rel => exact ⟨k + 1, rd, by omega, by go_num, by go_num, hR6, hb6⟩
            case measure => simp [intOf]; omega
          · have hend' : rd = n := by omega
            go_wp2_with fail
            refine (peek_no hR5 hend').mono ?_
            rintro e w6 ⟨rfl, k6, rfl⟩
            have hR6 := hR4.drewN (k5 + k6)
            have hb6 := below_drewN hb4 (k5 + k6)
            clear hR4 hb4 hR5 hb5
            go_wp2_with fail
            go_roundw
            case rel => exact ⟨k + 1, rd, by omega, by go_num, by go_num, hR6, hb6⟩
            case measure => simp [intOf]; omega
        · have hneg' : 0 ≤ v := by omega
          by_cases hbig : (n : Int) - rd < v
          · go_wp2_with fail
            refine (take_end hR3 v hbig).mono ?_
            rintro e w4 ⟨rfl, k3, rfl⟩
            go_wp2_with fail
            refine (skip_end (hR3.drewN k3) v hbig).mono ?_
            rintro e w4 ⟨rfl, k4, rfl⟩
            have hR4 := hR3.drewN (k3 + k4)
            have hb4 := below_drewN hb3 (k3 + k4)
            go_wp2_with fail
            generalize wr.drewN (k3 + k4) = W4 at hR4 hb4 ⊢
            refine (at_any hR4).mono ?_
            rintro e w5 ⟨rfl, rfl⟩
            go_wp2_with fail
            refine (left_any hR4).mono ?_
            rintro e w5 ⟨rfl, k5, rfl⟩
            have hR5 := hR4.drewN k5
            have hb5 := below_drewN hb4 k5
            by_cases hend : rd < n
            · have hlt' : rd < l.length := by rw [hln.out]; exact hend
              obtain ⟨b, o, rfl, hbA, hc1⟩ := hR5.rdb.2 (by omega)
              have hcb := hc1 (rd) hlt'
              have hpk := peek_yes hR5 hlt'
              obtain ⟨x, hx⟩ : ∃ x : Int, x = ((l[rd]'hlt').toNat : Int) := ⟨_, rfl⟩
              rw [← hx] at hcb hpk
              have HPK := hid hpk
              have HCB := hid hcb
              clear hc1 hx hpk hbA hcb hlt'
              go_wp2_with fail
              refine HPK.out.mono ?_
              rintro e w6 ⟨rfl, k6, rfl⟩
              have hR6 := hR4.drewN (k5 + k6)
              have hb6 := below_drewN hb4 (k5 + k6)
              have hcb : (W4.drewN (k5 + k6)).cell? ⟨b, o + (rd), none⟩ = some (.int .u8 x) := HCB.out
              clear hR4 hb4 hR5 hb5 HPK
              go_wp2_with fail
              go_roundw
              case rel => exact ⟨k + 1, rd, by omega, by go_num, by go_num, hR6, hb6⟩
              case measure => simp [intOf]; omega
            · have hend' : rd = n := by omega
              go_wp2_with fail
              refine (peek_no hR5 hend').mono ?_
              rintro e w6 ⟨rfl, k6, rfl⟩
              have hR6 := hR4.drewN (k5 + k6)
              have hb6 := below_drewN hb4 (k5 + k6)
              clear hR4 hb4 hR5 hb5
              go_wp2_with fail
              go_roundw
              case rel => exact ⟨k + 1, rd, by omega, by go_num, by go_num, hR6, hb6⟩
              case measure => simp [intOf]; omega
          · obtain ⟨j, rfl⟩ := Int.eq_ofNat_of_zero_le hneg'
            have hj : rd + j ≤ n := by omega
            go_wp2_with fail
            refine (take_ok hR3 hj (by omega)).mono ?_
            rintro e w4 ⟨g, rfl, hG, hg, hR4, hg4⟩
            have hb4 := below_grown hb3 hg4 hb3.size hpw
            have hXl : ((l.drop rd).take j).length = j := by have := hln.out; simp; omega
            have hD := RdB.of_blk hG
            rw [hXl] at hD
            have hs1 := run_strN hD j
            have hs2 := run_strN (hR4.rdb.cut rd j c hj hn) (c - rd)
            have hsl := run_sliceB_mid A n c rd (rd + j) (by omega) (by omega)
            rw [Nat.add_sub_cancel_left, Int.natCast_add] at hsl
            generalize (if c = rd then A else A.map (·.add rd)) = X at hs2 hsl
            generalize (⟨((l.drop rd).take j).toArray⟩ : ByteArray) = S at hs1 hs2
            clear hD
            go_wp2_with fail
            go_quiet (fail)
            go_wp2_with fail
            have hRW := hR4.drewN nq
            have hGW := hG.drewN nq
            have hbW := below_drewN hb4 nq
            have hgA : 0 < n → ∀ a, A = some a → a.block ≠ g := by
              intro h0 a ha e
              obtain ⟨b0, o0, e0, hb0, _⟩ := hR3.rdb.2 h0
              rw [ha] at e0
              injection e0 with e0
              subst e0
              simp at e
              omega
            have hpg : p ≠ g := by have := hR3.blk.lt; omega
            have hgw : w.heap.size ≤ g := by have := hb3.size; omega
            generalize w4.drewN nq = W4 at hRW hGW hbW ⊢
            clear hs1 hs2 hsl hG hR4 hg4 hb4 hXl hg
            obtain ⟨zs, hz⟩ : ∃ zs : List Int, (((l.drop rd).take j).map isB) = zs.map (Value.int .u8) := ⟨((l.drop rd).take j).map (fun c => (c.toNat : Int)), by rw [List.map_map]; rfl⟩
            have hzl : zs.length = j := by have h := congrArg List.length hz; have := hln.out; simp at h; omega
            rw [hz] at hGW
            clear hz
            go_loopw [56] (fun i wx => ∃ q : Nat, ∃ zs : List Int, q ≤ j ∧ i = .int .i64 q ∧ zs.length = j ∧ Blk wx g 5 (zs.map (Value.int .u8)) ∧ Rdr wx p A n c (rd + j) l ∧ Below w.heap.size w wx) (fun i _ => j - (intOf i).toNat)
            case atStart => exact ⟨0, zs, Nat.zero_le _, rfl, hzl, hGW, hRW, hbW⟩
            case round =>
              obtain ⟨q, zs, hq, rfl, hzl, hGx, hRx, hbx⟩ := hrel
              by_cases hqj : q < j
              · have hck := hGx.at q
                have hfz := hGx.free q
                rw [List.getElem?_map, List.getElem?_eq_getElem (by omega), Option.map_some] at hck
                generalize zs[q]'(by omega) = z at hck
                have hGp := hGx.put q (.int .u8 ((z + 1) % 256))
                rw [← List.map_set] at hGp
                have hRp : Rdr (wr.setCell ⟨g, q, none⟩ (.int .u8 ((z + 1) % 256))) p A n c (rd + j) l := hRx.grown (grown_set wr 0 g q _) (fun e => hpg (by injection e)) (fun h0 a ha e => hgA h0 a ha (by injection e))
                have hbp : Below w.heap.size w (wr.setCell ⟨g, q, none⟩ (.int .u8 ((z + 1) % 256))) := hbx.setCell hgw _
                have HP := hid (And.intro hGp (And.intro hRp hbp))
                clear hGp hRp hbp
                go_wp2_with fail
                go_roundw
                case rel => exact ⟨q + 1, zs.set q ((z + 1) % 256), by omega, by go_num, by rw [List.length_set]; exact hzl, HP.out⟩
                case measure => simp [intOf]; omega
              · obtain rfl : q = j := by omega
                have hR4 := hRx
                have hb4 := hbx
                clear hGx hRx hbx hRW hbW hGW hR3 hb3
                go_wp2_with fail
                refine (at_any hR4).mono ?_
                rintro e w5 ⟨rfl, rfl⟩
                go_wp2_with fail
                refine (left_any hR4).mono ?_
                rintro e w5 ⟨rfl, k5, rfl⟩
                have hR5 := hR4.drewN k5
                have hb5 := below_drewN hb4 k5
                by_cases hend : rd + q < n
                · have hlt' : rd + q < l.length := by rw [hln.out]; exact hend
                  obtain ⟨b, o, rfl, hbA, hc1⟩ := hR5.rdb.2 (by omega)
                  have hcb := hc1 (rd + q) hlt'
                  have hpk := peek_yes hR5 hlt'
                  obtain ⟨x, hx⟩ : ∃ x : Int, x = ((l[rd + q]'hlt').toNat : Int) := ⟨_, rfl⟩
                  rw [← hx] at hcb hpk
                  have HPK := hid hpk
                  have HCB := hid hcb
                  clear hc1 hx hpk hbA hcb hlt'
                  go_wp2_with fail
                  refine HPK.out.mono ?_
                  rintro e w6 ⟨rfl, k6, rfl⟩
                  have hR6 := hR4.drewN (k5 + k6)
                  have hb6 := below_drewN hb4 (k5 + k6)
                  have hcb : (wr.drewN (k5 + k6)).cell? ⟨b, o + (rd + q), none⟩ = some (.int .u8 x) := HCB.out
                  clear hR4 hb4 hR5 hb5 HPK
                  go_wp2_with fail
                  go_roundw
                  case rel => exact ⟨k + 1, rd + q, by omega, by go_num, by go_num, hR6, hb6⟩
                  case measure => simp [intOf]; omega
                · have hend' : rd + q = n := by omega
                  go_wp2_with fail
                  refine (peek_no hR5 hend').mono ?_
                  rintro e w6 ⟨rfl, k6, rfl⟩
                  have hR6 := hR4.drewN (k5 + k6)
                  have hb6 := below_drewN hb4 (k5 + k6)
                  clear hR4 hb4 hR5 hb5
                  go_wp2_with fail
                  go_roundw
                  case rel => exact ⟨k + 1, rd + q, by omega, by go_num, by go_num, hR6, hb6⟩
                  case measure => simp [intOf]; omega
      · obtain rfl : k = m := by omega
        clear hR2 hb2
        by_cases hend : rd < n
        · have hlt' : rd < l.length := by rw [hln.out]; exact hend
          obtain ⟨b, o, rfl, hbA, hc1⟩ := hR3.rdb.2 (by omega)
          have hbt := byte_yes hR3 hlt'
          obtain ⟨x, hx⟩ : ∃ x : Int, x = ((l[rd]'hlt').toNat : Int) := ⟨_, rfl⟩
          have HX := hid hx
          rw [← hx] at hbt
          have HBT := hid hbt
          clear hc1 hx hbt hbA
          go_wp2_with fail
          refine HBT.out.mono ?_
          rintro e w5 ⟨rfl, hR5, hg5⟩
          have hb5 := below_grown hb3 hg5 hb3.size hpw
          obtain ⟨b2, o2, e2, _, hc5⟩ := hR5.rdb.2 (by omega)
          injection e2 with e2
          injection e2 with e2 e3
          subst e2 e3
          have hcb := hc5 rd hlt'
          rw [← HX.out] at hcb
          clear hc5 HX hlt' HBT hg5 hb3 hR3
          go_wp2_with (go_at_call 25; refine (at_any hR5).mono ?_; rintro e w6 ⟨rfl, rfl⟩)
          go_ret
          exact ⟨rfl, hb5⟩
        · have hend' : rd = n := by omega
          go_wp2_with fail
          refine (byte_no hR3 hend').mono ?_
          rintro e w5 ⟨rfl, k5, rfl⟩
          have hb5 := below_drewN hb3 k5
          subst hend'
          go_wp2_with fail
          go_ret
          exact ⟨rfl, hb5⟩
end Go.Proofs.Ytkbddjmfccbcoaa
