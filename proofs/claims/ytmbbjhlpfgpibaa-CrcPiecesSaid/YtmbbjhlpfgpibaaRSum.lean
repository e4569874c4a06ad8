/- The reference: the checksum by a long division. -/
import Derived.Test.YtmbbjhlpfgpibaaRInv
import Derived.StillTailTactics
import Derived.Deep.Cut
namespace Go.Proofs.Ytmbbjhlpfgpibaa
open Go.RowKit

theorem info_i : (Try.prog.info? 3).map (fun i => (i.zero, i.size, i.bytes)) = some (some (.int .i64 0), 1, 8) := by kernel_rfl

theorem wpList_appI {w : World} {ops : Array Oper} {rest : List Oper} {o : Oper} {a : Act} {Q : Exit → Act → World → Prop} (hgd : o.guard = none) (s x : Operand)
    (ho : o.op = .call { callee := .builtin .append, args := #[s, x], argTypes := #[89, 89] })
    (base : Nat) (v : Value) (n : Nat) (xs : List Value) (hs : a.eval s = v) (hown : w.ownsRow base 3 1 v n xs)
    (p c : Nat) (u : Int) (hx : a.eval x = .slice (some ⟨p, 0, none⟩) 1 c) (hX : w.cell? ⟨p, 0, none⟩ = some (.int .i64 u)) (hb : n + 1 ≤ 4294967296) (hbase : base ≤ w.heap.size)
    (h : ∀ A' c' w', Hid (w'.ownsRow base 3 1 (.slice A' (n + 1) c') (n + 1) (xs ++ [.int .i64 u])) → w.grownBy w' v.ownBlock → Hid ((Value.slice A' (n + 1) c').ownBlock = v.ownBlock ∨ (Value.slice A' (n + 1) c').ownBlock = some w.heap.size) →
      wpList Try.prog ops Q rest (a.put o.dst (.slice A' (n + 1) c')) w') :
    wpList Try.prog ops Q (o :: rest) a w := by
  refine wpList_plain hgd fun K hK => ?_
  obtain ⟨i0, hi, hz0, hz1, hz2⟩ := info_parts info_i
  obtain ⟨v', w', hrun, h2, h3, _, h5⟩ := run_append_own_at (P := Try.prog) w base 89 o.type 3 i0 _ 1 8 Try.underlying89 hi hz0 hz1 hz2 rfl (by omega) v n xs hown ⟨p, 0, none⟩ 1 c [.int .i64 u] (by simp)
    (by
      intro j y hy
      cases j with
      | zero => simp at hy; subst hy; rw [addr_add]; exact hX
      | succ j => simp at hy)
    (by intro y hy; simp at hy; subst hy; rfl) (by simp only [maxLen]; omega) (by omega) hbase
  obtain ⟨A', c', rfl⟩ := own_shape h2
  unfold Oper.wp execOp
  simp only [ho, resolve, invoke, builtin, Sem.run_bind, Sem.run_pure, Result.andThen_ok, List.map_toArray, List.map_cons, List.map_nil, hs, hx, hrun]
  exact hK _ _ (h A' c' w' h2 h3 h5)

/-- The bits, as they are laid. -/
def bitL (l : List UInt8) (m : Nat) : List Nat := (List.range m).map (mb l)
theorem bitL_succ (l : List UInt8) (m : Nat) : bitL l (m + 1) = bitL l m ++ [mb l m] := by simp [bitL, List.range_succ]

set_option maxRecDepth 8000 in
set_option maxHeartbeats 2000000 in
theorem refsum_any {w : World} {A : Option Addr} {n c : Nat} {l : List UInt8} (hR : RdB w A n l) (hn : n ≤ 300) :
    Calls Try.prog 17 #[.slice A n c] w fun e w' => e = .returned (.int .u32 ((crcN l : Nat) : Int)) ∧ Below w.heap.size w w' := by
  have hlen := hid hR.1
  have HR := hid hR
  clear hR
  go_enter Try.func17, Try.ntmps17
  go_wp2
  go_loopw [3, 4] (fun s i wr => ∃ i' : Nat, i' ≤ n ∧ i = .int .i64 i' ∧ ∃ A' c', s = .slice A' (8 * i') c' ∧ Hid (wr.ownsRow w.heap.size 3 1 (.slice A' (8 * i') c') (8 * i') ((bitL l (8 * i')).map iV)) ∧ Below w.heap.size w wr) (fun _ i _ => n - (intOf i).toNat)
  case atStart => exact ⟨0, by omega, rfl, _, _, rfl, hid (World.ownsRow_nil _ _ _ _), Below.refl _ _⟩
  case round =>
    obtain ⟨i', hi', rfl, A', c', rfl, hO, hB⟩ := hrel
    by_cases hlt : i' < n
    · obtain ⟨bb, oo, rfl, hbb, hc⟩ := HR.out.2 (by omega)
      have hck := hc i' (by rw [hlen.out]; exact hlt)
      have hbit := hid (fun k hk => mb_at l i' k (by rw [hlen.out]; exact hlt) hk)
      have hcB := hid hck
      have hby := (l[i']'(by rw [hlen.out]; exact hlt)).toNat_lt
      clear hc hck
      generalize (l[i']'(by rw [hlen.out]; exact hlt)).toNat = x at *
      go_wp2
      generalize hwi : wr = wi at *
      clear hwi
      go_loopw [3, 5] (fun s k wr => ∃ k' : Nat, k' ≤ 8 ∧ k = .int .i64 k' ∧ ∃ A' c', s = .slice A' (8 * i' + k') c' ∧ Hid (wr.ownsRow w.heap.size 3 1 (.slice A' (8 * i' + k') c') (8 * i' + k') ((bitL l (8 * i' + k')).map iV)) ∧ Below w.heap.size w wr) (fun _ k _ => 8 - (intOf k).toNat)
      case atStart => exact ⟨0, by omega, rfl, _, _, rfl, hO, hB⟩
      case round =>
        obtain ⟨k', hk', rfl, A2, c2, rfl, hO2, hB2⟩ := hrel
        by_cases hlt2 : k' < 8
        · have hcell := World.cell?_of_block (w := w) (w' := wr) (a := ⟨bb, oo + i', none⟩) (hB2.block bb hbb)
          have hcB2 := hcell.trans hcB.out
          clear hcell
          have hq : (x : Int) / 2 ^ k' = ((x / 2 ^ k' : Nat) : Int) := by simp
          have hq0 : 0 ≤ (x : Int) / 2 ^ k' := by rw [hq]; exact Int.natCast_nonneg _
          have hq1 : (x : Int) / 2 ^ k' ≤ 255 := by rw [hq]; have h5 := Nat.div_le_self x (2 ^ k'); exact Int.ofNat_le.2 (show x / 2 ^ k' ≤ 255 from Nat.le_trans h5 (show x ≤ 255 by omega))
          have HE := hid (show (x : Int) / 2 ^ k' % 2 = (mb l (8 * i' + k') : Int) by rw [hbit.out k' hlt2, hq]; simp)
          clear hq
          have hbl : w.heap.size ≤ (wr.alloc (.cells #[.int .i64 ((x : Int) / 2 ^ k' % 2)] 3)).heap.size := by simp; have := hB2.size; omega
          have hsrc : (wr.alloc (.cells #[.int .i64 ((x : Int) / 2 ^ k' % 2)] 3)).cell? ⟨wr.heap.size, 0, none⟩ = some (.int .i64 ((x : Int) / 2 ^ k' % 2)) := (Blk.fresh wr 3 [.int .i64 ((x : Int) / 2 ^ k' % 2)]).at 0
          go_wp2_with (at_builtin; refine wpList_appI rfl (.tmp 23) (.tmp 32) rfl w.heap.size (.slice A2 (8 * i' + k') c2) (8 * i' + k') ((bitL l (8 * i' + k')).map iV) rfl (hO2.out.alloc _) wr.heap.size 1 _ rfl hsrc (by omega) hbl ?_; intro A3 c3 w3 HO hg HV)
          go_roundw
          case rel =>
            have h1 := HO.out
            rw [HE.out] at h1
            have e : (bitL l (8 * i' + k')).map iV ++ [.int .i64 ((mb l (8 * i' + k') : Nat) : Int)] = (bitL l (8 * i' + (k' + 1))).map iV := by
              rw [← Nat.add_assoc, bitL_succ, List.map_append]; rfl
            rw [e] at h1
            exact ⟨k' + 1, by omega, by go_num, A3, c3, rfl, hid h1, (hB2.alloc hB2.size _).grown hg hbl (fun j hj => (hO2.out.lt j hj).1)⟩
          case measure => simp [intOf]; omega
        · obtain rfl : k' = 8 := by omega
          go_wp2
          go_roundw
          case rel => exact ⟨i' + 1, by omega, by go_num, A2, c2, rfl, hO2, hB2⟩
          case measure => simp [intOf]; omega
    · obtain rfl : i' = n := by omega
      go_wp2
      generalize hwi : wr = wi at *
      clear hwi
      go_loopw [3, 6] (fun s k wr => ∃ k' : Nat, k' ≤ 32 ∧ k = .int .i64 k' ∧ ∃ A' c', s = .slice A' (8 * i' + k') c' ∧ Hid (wr.ownsRow w.heap.size 3 1 (.slice A' (8 * i' + k') c') (8 * i' + k') ((bitL l (8 * i' + k')).map iV)) ∧ Below w.heap.size w wr) (fun _ k _ => 32 - (intOf k).toNat)
      case atStart => exact ⟨0, by omega, rfl, _, _, rfl, hO, hB⟩
      case round =>
        obtain ⟨k', hk', rfl, A2, c2, rfl, hO2, hB2⟩ := hrel
        by_cases hlt2 : k' < 32
        · have HE := hid (mb_far l (8 * i' + k') (by rw [hlen.out]; omega))
          have hbl : w.heap.size ≤ (wr.alloc (.cells #[.int .i64 0] 3)).heap.size := by simp; have := hB2.size; omega
          have hsrc : (wr.alloc (.cells #[.int .i64 0] 3)).cell? ⟨wr.heap.size, 0, none⟩ = some (.int .i64 0) := (Blk.fresh wr 3 [.int .i64 0]).at 0
          go_wp2_with (at_builtin; refine wpList_appI rfl (.tmp 38) (.tmp 39) rfl w.heap.size (.slice A2 (8 * i' + k') c2) (8 * i' + k') ((bitL l (8 * i' + k')).map iV) rfl (hO2.out.alloc _) wr.heap.size 1 _ rfl hsrc (by omega) hbl ?_; intro A3 c3 w3 HO hg HV)
          go_roundw
          case rel =>
            have h1 := HO.out
            have e : (bitL l (8 * i' + k')).map iV ++ [.int .i64 0] = (bitL l (8 * i' + (k' + 1))).map iV := by
              rw [← Nat.add_assoc, bitL_succ, List.map_append, HE.out]; rfl
            rw [e] at h1
            exact ⟨k' + 1, by omega, by go_num, A3, c3, rfl, hid h1, (hB2.alloc hB2.size _).grown hg hbl (fun j hj => (hO2.out.lt j hj).1)⟩
          case measure => simp [intOf]; omega
        · obtain rfl : k' = 32 := by omega
          clear hO hB
          obtain ⟨g, cap, hv, hgb, _⟩ := hO2.out.form (by omega)
          injection hv with hA2 _ hc2
          subst hA2 hc2
          have hN : i' = l.length := by rw [hlen.out]
          have HG0 := hid (show RowI wr w.heap.size g c2 (8 * i' + 32) (flipL l (8 * i' + 32) 0) from ⟨flipL_len _ _ _, by rw [flipL_zero]; exact hO2.out⟩)
          have HN := hid hN
          clear hO2 hN hlt2 hlt hi' hk'
          go_wp2
          generalize hwi2 : wr = wi2 at *
          clear hwi2
          go_loopw [7] (fun k wr => ∃ k' : Nat, k' ≤ 32 ∧ k = .int .i64 k' ∧ Hid (RowI wr w.heap.size g c2 (8 * i' + 32) (flipL l (8 * i' + 32) k')) ∧ Below w.heap.size w wr) (fun k _ => 32 - (intOf k).toNat)
          case atStart => exact ⟨0, by omega, rfl, HG0, hB2⟩
          case round =>
            obtain ⟨k', hk', rfl, HG, hB3⟩ := hrel
            by_cases hlt2 : k' < 32
            · have hck := HG.out.cell k' (by omega)
              rw [flipL_get _ _ _ _ (by omega), if_neg (by omega)] at hck
              have hfr := HG.out.free k'
              have hm1 := mb_le l k'
              have HS := hid (HG.out.set k' (1 - mb l k'))
              rw [flipL_set] at HS
              have HE := hid (show (1 : Int) - ((mb l k' : Nat) : Int) = ((1 - mb l k' : Nat) : Int) by omega)
              generalize hm : mb l k' = m at *
              clear hm
              go_wp2
              go_roundw
              case rel =>
                rw [HE.out]
                exact ⟨k' + 1, by omega, by go_num, HS, hB3.setCell hgb _⟩
              case measure => simp [intOf]; omega
            · obtain rfl : k' = 32 := by omega
              clear HG0 hB2 hlt2 hk'
              have hgp : g < wr.heap.size := (HG.out.2.lt g rfl).2
              have hpb : w.heap.size ≤ wr.heap.size := hB3.size
              have HP := hid (Blk.fresh wr 3 (polyL.map iV))
              have HG5 := hid (HG.out.alloc (.cells (polyL.map iV).toArray 3))
              have hB5 := hB3.alloc hB3.size (.cells (polyL.map iV).toArray 3)
              go_wp2
              have H1 : wr.alloc (.cells (polyL.map iV).toArray 3) = wr.alloc (.cells (polyL.map iV).toArray 3) := rfl
              change Code.wp _ _ _ _ (wr.alloc (.cells (polyL.map iV).toArray 3))
              generalize wr.alloc (.cells (polyL.map iV).toArray 3) = w5 at *
              generalize wr.heap.size = p at *
              clear H1 HG hB3
              have hkl : 8 * i' = 8 * l.length := by rw [HN.out]
              have HKL := hid hkl
              clear hkl
              rw [show ((32 : Nat) : Int) = 32 from rfl]
              go_loopw [9] (fun i wr => ∃ (j : Nat) (M : List Nat), j ≤ 8 * i' ∧ i = .int .i64 j ∧ Hid (RowI wr w.heap.size g c2 (8 * i' + 32) M) ∧ Hid (Inv l (8 * i' + 32) j M) ∧ Hid (Blk wr p 3 (polyL.map iV)) ∧ Below w.heap.size w wr) (fun i _ => 8 * i' - (intOf i).toNat)
              case atStart => exact ⟨0, _, by omega, rfl, HG5, hid (inv_start _ _), HP, hB5⟩
              case round =>
                obtain ⟨j, M, hj, rfl, HG6, HI, HP6, hB6⟩ := hrel
                by_cases hlt : j < 8 * i'
                · have hd58 : decide ((j : Int) < 8 * (i' : Int)) = true := by simp; omega
                  have hck := HG6.out.cell j (by omega)
                  rw [HI.out.2 j (by omega) (by omega)] at hck
                  have hdl := dvv_le l j j
                  rcases (show dvv l j j = 0 ∨ dvv l j j = 1 by omega) with h0 | h1
                  · rw [h0] at hck
                    have HI' := hid (inv_stay HI.out (by omega))
                    clear hdl h0
                    go_wp2
                    go_roundw
                    case rel => exact ⟨j + 1, M, by omega, by go_num, HG6, HI', HP6, hB6⟩
                    case measure => simp [intOf]; omega
                  · rw [h1] at hck
                    have HD1 := hid h1
                    clear hdl h1
                    go_wp2
                    generalize hwi6 : wr = wi6 at *
                    clear hwi6
                    go_loopw [10] (fun k wr => ∃ (k' : Nat) (M' : List Nat), k' ≤ 32 ∧ k = .int .i64 k' ∧ Hid (RowI wr w.heap.size g c2 (8 * i' + 32) M') ∧ Hid (Inv6 l (8 * i' + 32) j k' M') ∧ Hid (Blk wr p 3 (polyL.map iV)) ∧ Below w.heap.size w wr) (fun k _ => 32 - (intOf k).toNat)
                    case atStart => exact ⟨0, M, by omega, rfl, HG6, hid (inv6_start HI.out), HP6, hB6⟩
                    case round =>
                      obtain ⟨k', M', hk', rfl, HG7, HI7, HP7, hB7⟩ := hrel
                      by_cases hlt2 : k' < 32
                      · have c1 := HG7.out.cell (j + 1 + k') (by omega)
                        have c2' := HP7.out.at k'
                        rw [poly_cell k' hlt2] at c2'
                        have hfr := HG7.out.free (j + 1 + k')
                        have h2 := poly_le k'
                        have h3 : M'.getD (j + 1 + k') 0 ≤ 1 := by rw [inv6_get HI7.out (by omega)]; exact dvv_le _ _ _
                        have HS := hid ((HG7.out.drew).set (j + 1 + k') ((M'.getD (j + 1 + k') 0 + polyL.getD k' 0) % 2))
                        have HI8 := hid (inv6_step HI7.out (by omega) hlt2 HD1.out)
                        have HP8 := hid ((HP7.out.drew).other (show p ≠ g by omega) (p := ⟨g, j + 1 + k', none⟩) (.int .i64 (((M'.getD (j + 1 + k') 0 + polyL.getD k' 0) % 2 : Nat) : Int)))
                        generalize M'.getD (j + 1 + k') 0 = x at *
                        generalize polyL.getD k' 0 = y at *
                        have HE := hid (show ((x : Int) + y) % 2 = (((x + y) % 2 : Nat) : Int) by omega)
                        have w1 : IntKind.i64.wrap ((j : Int) + 1) = (j : Int) + 1 := by rw [IntKind.wrap_i64]; omega
                        have w2 : IntKind.i64.wrap ((j : Int) + 1 + (k' : Int)) = (j : Int) + 1 + (k' : Int) := by rw [IntKind.wrap_i64]; omega
                        have w3 : IntKind.i64.wrap ((x : Int) + (y : Int)) = (x : Int) + (y : Int) := by rw [IntKind.wrap_i64]; omega
                        have t3 : ((j : Int) + 1 + (k' : Int)).toNat = j + 1 + k' := by omega
                        have b0 : (j : Int) + 1 + (k' : Int) < 8 * (i' : Int) + 32 := by omega
                        have b1 : (k' : Int) < 32 := by omega
                        have b2 : 0 ≤ (j : Int) + 1 + (k' : Int) := by omega
                        go_wp2_with fail
                        refine wp_region_still_tail 19 (by kernel_rfl) (by kernel_rfl) ?_
                        simp only [List.take_succ_cons, List.take_zero, List.drop_succ_cons, List.drop_zero]
                        iterate 19 still_step
                        refine wpStill_nil ?_
                        change wpList _ _ _ _ _ wr.drew
                        clear w1 w2 w3
                        go_wp2
                        go_roundw
                        case rel =>
                          rw [HE.out]
                          exact ⟨k' + 1, _, by omega, by go_num, HS, HI8, HP8, (below_drewN hB7 1).setCell hgb _⟩
                        case measure => simp [intOf]; omega
                      · obtain rfl : k' = 32 := by omega
                        go_wp2
                        go_roundw
                        case rel => exact ⟨j + 1, M', by omega, by go_num, HG7, hid (inv6_end HI7.out), HP7, hB7⟩
                        case measure => simp [intOf]; omega
                · obtain rfl : j = 8 * i' := by omega
                  clear hj hlt
                  go_wp2
                  have HNL := hid (show 8 * i' + 32 = 8 * l.length + 32 by rw [HKL.out])
                  have HI9 := hid (show Inv l (8 * i' + 32) (8 * l.length) M by rw [← HKL.out]; exact HI.out)
                  clear HI HP6 HG5 HP hB5 HKL
                  go_loopw [11, 12] (fun v k wr => ∃ k' : Nat, k' ≤ 32 ∧ k = .int .i64 k' ∧ v = .int .u32 ((outN l k' : Nat) : Int) ∧ Hid (RowI wr w.heap.size g c2 (8 * i' + 32) M) ∧ Below w.heap.size w wr) (fun _ k _ => 32 - (intOf k).toNat)
                  case atStart => exact ⟨0, by omega, rfl, by rw [outN_zero]; rfl, HG6, hB6⟩
                  case round =>
                    obtain ⟨k', hk', rfl, rfl, HG7, hB7⟩ := hrel
                    by_cases hlt2 : k' < 32
                    · obtain ⟨hm, ho⟩ := outN_step HI9.out HNL.out hlt2
                      have hol := outN_lt l (k' + 1)
                      rw [show 8 * i' + 32 - 1 - k' = 8 * i' + 31 - k' by omega] at hm ho
                      have hck := HG7.out.cell (8 * i' + 31 - k') (by omega)
                      have HO := hid ho
                      have HX := hid (show 2 * outN l k' + (1 - M.getD (8 * i' + 31 - k') 0) < 4294967296 by rw [← ho]; exact hol)
                      clear ho hol
                      generalize M.getD (8 * i' + 31 - k') 0 = m at *
                      generalize hok : outN l k' = o at *
                      clear hok
                      have ho1 : o ≤ 2147483647 := by have := HX.out; omega
                      have ho2 : (o : Int) * 2 + (1 - (m : Int)) ≤ 4294967295 := by have := HX.out; omega
                      have HE := hid (show (o : Int) * 2 + (1 - (m : Int)) = ((outN l (k' + 1) : Nat) : Int) by rw [HO.out]; omega)
                      go_wp2
                      go_roundw
                      case rel => exact ⟨k' + 1, by omega, by go_num, by rw [HE.out], HG7, hB7⟩
                      case measure => simp [intOf]; omega
                    · obtain rfl : k' = 32 := by omega
                      go_wp2
                      go_ret
                      exact ⟨by rw [outN_all]; rfl, hB7⟩
end Go.Proofs.Ytmbbjhlpfgpibaa
