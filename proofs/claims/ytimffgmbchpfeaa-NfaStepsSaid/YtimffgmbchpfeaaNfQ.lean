/- nfa: Reach's walk. -/
import Derived.Test.YtimffgmbchpfeaaNfP
import Derived.Deep.LoopGhost
namespace Go.Proofs.Ytimffgmbchpfeaa
set_option linter.unusedSimpArgs false
set_option linter.unusedVariables false
open Go.RowKit
variable {w0 w w' W W' : World} {A : Option Addr} {c B bS : Nat} {E : EG} {en : Int} {k : WK}

theorem ed_size (e : Ed) : (Try.prog.info? 67).map (·.size) = some e.cells.toArray.size := by kernel_rfl
theorem ed_one (e : Ed) : e.cells.toArray.all (·.oneCell') = true := by simp [Ed.cells, Value.oneCell']
theorem own_base {b1 b2 : Nat} {e : TypeId} {size : Nat} {v : Value} {n : Nat} {xs : List Value} (h : w.ownsRow b1 e size v n xs) (hb : b2 ≤ b1) : w.ownsRow b2 e size v n xs := by
  refine ⟨h.1, ?_⟩
  rcases h.2 with hn | ⟨g, cap, cur, rfl, h1, r⟩
  · exact .inl hn
  · exact .inr ⟨g, cap, cur, rfl, Nat.le_trans hb h1, r⟩
theorem wkP_stop {E : EG} {m : Nat} {k : WK} (h : k.todo = []) : wkP E m k = k := by
  cases m with
  | zero => rfl
  | succ m => unfold wkP; rw [if_pos h]
theorem wkP_go {E : EG} {m : Nat} {k : WK} (h : k.todo ≠ []) : wkP E (m + 1) k = wkP E m (feL (E.getD (k.todo.getLastD 0) []) ⟨k.seen, k.many, k.todo.dropLast⟩) := by
  conv => lhs; unfold wkP
  rw [if_neg h]
theorem WkR.start {w1 w2 : World} (hb : Below w1.heap.size w1 w2) (hB : w1.heap.size ≤ B) (hS : w1.heap.size ≤ bS) (k1 : Blk w2 bS 4 (List.replicate E.length (Value.bool false))) (k2 : Blk w2 B 62 [.slice A E.length c, .int .i64 en, .slice (some ⟨bS, 0, none⟩) E.length E.length, .int .i64 0, .slice none 0 0]) : WkR w1 A c E en B bS (wk0 E.length) w2 := by
  refine ⟨hb, hB, hS, ?_, wk0_I _, ?_, none, 0, k2, ⟨rfl, .inl ⟨rfl, rfl⟩⟩⟩
  · have e : (wk0 E.length).seen.map Value.bool = List.replicate E.length (Value.bool false) := by simp [wk0]
    rw [e]
    exact k1
  · have := (wk0_I E.length).sum
    have e1 : (wk0 E.length).many = 0 := rfl
    have e2 : (wk0 E.length).todo.length = 0 := rfl
    omega
theorem lsL_succ (l : List Int) (k : WK) {j : Nat} (h : j < l.length) : lsL (l.take (j + 1)) k = meetP (lsL (l.take j) k) l[j] := by
  unfold lsL
  rw [List.take_succ_eq_append_getElem h, List.foldl_append]
  rfl
theorem feL_succ (l : List Ed) (k : WK) {j : Nat} (h : j < l.length) : feL (l.take (j + 1)) k = if (l[j]).fr then meetP (feL (l.take j) k) ((l[j]).to : Int) else feL (l.take j) k := by
  unfold feL
  rw [List.take_succ_eq_append_getElem h, List.foldl_append]
  rfl
set_option maxRecDepth 100000 in
set_option maxHeartbeats 4000000 in
theorem reach_any (h : AuV w A c E) (hE : E.length ≤ 5000) (hE2 : ∀ s, (E.getD s []).length ≤ 1000000) (LA : Option Addr) (lc : Nat) (l : List Int) (hl : IL w LA l) (hln : l.length ≤ 1000000000) : Calls Try.prog 13 #[.agg #[.slice A E.length c, .int .i64 en], .slice LA l.length lc] w fun e w' => ∃ u, e = .returned u ∧ w'.ownsRow w.heap.size 3 1 u (reachP E l).length (intsN (reachP E l)) ∧ Below w.heap.size w w' := by
  have hal := al_belowN w (.cells #[.slice A E.length c, .int .i64 en] 33)
  have HB0 := hid (show Blk (w.alloc (.cells #[.slice A E.length c, .int .i64 en] 33)) w.heap.size 33 [.slice A E.length c, .int .i64 en] from Blk.fresh w _ _)
  have HA := hid hal
  have HV := hid (fun (W : World) (hb : Below (w.alloc (.cells #[.slice A E.length c, .int .i64 en] 33)).heap.size (w.alloc (.cells #[.slice A E.length c, .int .i64 en] 33)) W) => (h.keep hal).keep hb)
  have HI := hid (fun (W : World) (hb : Below (w.alloc (.cells #[.slice A E.length c, .int .i64 en] 33)).heap.size (w.alloc (.cells #[.slice A E.length c, .int .i64 en] 33)) W) => (hl.keep hal).keep hb)
  have HE2 := hid hE2
  have HV0 := hid (fun hp => au_row (E := E) h hp)
  clear hal h hl hE2
  go_enter Try.func13, Try.ntmps13
  go_upto_region 1 with fail
  change Code.wp _ _ _ _ (w.alloc (.cells #[.slice A E.length c, .int .i64 en] 33))
  generalize hw1 : w.alloc (.cells #[.slice A E.length c, .int .i64 en] 33) = w1 at *
  clear hw1
  have hdr : Below w1.heap.size w1 w1.drew := ⟨rfl, rfl, rfl, Nat.le_refl _, fun _ _ => rfl⟩
  have hsz1 : w1.drew.heap.size = w1.heap.size := rfl
  refine rc1_reg (b2 := w.heap.size) (A := A) (n := E.length) (c := c) (en := en) rfl (by simp) (by omega) (HB0.out.keep hdr) ?_
  intro f w2 B bS q1 q2 q3 q4 q5 q6
  have HW := hid (WkR.start (hdr.trans q1) q3 q4 q5 q6)
  clear q1 q3 q4 q5 q6 HB0 hdr hsz1
  simp only [rc1Us, List.foldl_cons, List.foldl_nil, List.setIfInBounds_toArray, List.set_cons_zero, List.set_cons_succ]
  rw [q2]
  clear q2
  go_wp2
  go_loopw [18] (fun i wr => ∃ j : Nat, j ≤ l.length ∧ i = .int .i64 (j : Int) ∧ Hid (WkR w1 A c E en B bS (lsL (l.take j) (wk0 E.length)) wr)) (fun i _ => l.length - (intOf i).toNat)
  case atStart => exact ⟨0, Nat.zero_le _, rfl, HW⟩
  case round =>
    clear HW
    obtain ⟨j, hj, rfl, HW⟩ := hrel
    by_cases hlt : j < l.length
    · obtain ⟨b, o, hLA, hbl, hcs⟩ := HI.out _ HW.out.bel (by omega)
      have hc := hcs j hlt
      have p3 : (j : Int) < (l.length : Int) := by omega
      have HM := hid (meet_any HW.out hE l[j])
      rw [← lsL_succ l _ hlt] at HM
      subst hLA
      clear hcs HI HW HA HE2 HV HV0
      go_wp2_with (go_at_call 24; refine HM.out.mono ?_; rintro e w9 ⟨rfl, HW9⟩)
      go_roundw
      case rel => exact ⟨j + 1, by omega, by go_num, hid HW9⟩
      case measure => simp [intOf]; omega
    · obtain rfl : j = l.length := by omega
      rw [List.take_length] at HW
      obtain ⟨KK, hKK⟩ : ∃ KK, KK = wkP E (E.length + 1) (lsL l (wk0 E.length)) := ⟨_, rfl⟩
      have HKK := hid hKK
      clear hKK HI
      go_wp2
      go_loopg [] (E.length + 1) (fun m wr => ∃ k : WK, unseen k.seen + k.todo.length < m ∧ Hid (wkP E m k = KK) ∧ Hid (WkR w1 A c E en B bS k wr))
      case atStart => exact ⟨_, Nat.lt_succ_of_le HW.out.tl, hid HKK.out.symm, HW⟩
      case round =>
        clear HW
        obtain ⟨k, hm, HK, HW⟩ := hrel
        obtain ⟨m, rfl⟩ : ∃ m, gk = m + 1 := ⟨gk - 1, by omega⟩
        by_cases ht : k.todo = []
        · have HKe := hid (show k = KK from (wkP_stop ht).symm.trans HK.out)
          obtain ⟨tA, tc, h3⟩ := HW.out.three
          obtain ⟨d0, d1, d2, d3, d4, d5, d6⟩ := walk_cells h3.b
          have e0 : k.todo.length = 0 := by rw [ht]; rfl
          rw [e0] at d4
          have HAll := hid (wall_any HW.out hE)
          clear d0 d1 d2 d3 d5 d6 h3 ht e0 hm HK HV HE2 HV0
          go_wp2_with (go_at_call 25; refine HAll.out.mono ?_; rintro e w9 ⟨u, rfl, ho, hb⟩)
          go_ret
          have hsz := HA.out.size
          have hsz2 := HW.out.bel.size
          refine ⟨_, rfl, ?_, (HA.out.trans (HW.out.bel.mono hsz)).trans (hb.mono (by omega))⟩
          have er : reachP E l = allP k.seen := by rw [HKe.out, HKK.out]; rfl
          rw [er]
          exact own_base ho (by omega)
        · obtain ⟨hs, gT, tc, h3, hcl, hlast⟩ := HW.out.last ht
          have HK1 := hid ((wkP_go ht).symm.trans HK.out)
          have HP := hid (HW.out.pop ht h3)
          obtain ⟨gA, rfl⟩ := HV0.out (by omega)
          obtain ⟨d0, d1, d2, d3, d4, d5, d6⟩ := walk_cells h3.b
          obtain ⟨r, hr⟩ : ∃ r, k.todo.length = r + 1 := ⟨k.todo.length - 1, by have := List.length_pos_iff.2 ht; omega⟩
          have hr9 : r ≤ 5000 := by have := HW.out.tl; omega
          rw [hr] at d4 hlast hcl HP
          have e9 : r + 1 - 1 = r := rfl
          rw [e9] at hlast HP
          have HR := hid hr
          have HM0 := hid hm
          clear hm ht hr h3 HK e9 HV0
          generalize k.todo.getLastD 0 = s at *
          go_upto_region 9 with fail
          go_upto_region 10 with fail
          clear d0 d1 d2 d3 d4 d5 d6 hlast HW
          generalize wr.setCell ⟨B, 4, none⟩ (.slice (some ⟨gT, 0, none⟩) r tc) = w5 at *
          have HV5 := hid (HV.out w5 HP.out.bel)
          obtain ⟨kA, kc, hlat⟩ := au_later (HV.out w1 (Below.refl _ _)) rfl hs
          obtain ⟨hrow, _⟩ := hlat w5 HP.out.bel
          obtain ⟨tA, tc', h3⟩ := HP.out.three
          obtain ⟨d0, d1, d2, d3, d4, d5, d6⟩ := walk_cells h3.b
          have hed := HE2.out s
          have HES := hid (fun W hb => (hlat W hb).2)
          clear h3 hlat HE2 HV5 HV
          generalize hk1 : (⟨k.seen, k.many, k.todo.dropLast⟩ : WK) = k1 at *
          have HK1e := hid hk1
          clear hk1
          generalize E.getD s [] = es at *
          go_wp2
          go_loopw [52] (fun i wr => ∃ j : Nat, j ≤ es.length ∧ i = .int .i64 (j : Int) ∧ Hid (WkR w1 (some ⟨gA, 0, none⟩) c E en B bS (feL (es.take j) k1) wr)) (fun i _ => es.length - (intOf i).toNat)
          case atStart => exact ⟨0, Nat.zero_le _, rfl, HP⟩
          case round =>
            have HI1 := hid HP.out.inv
            clear HP d0 d1 d2 d3 d4 d5 d6 hrow
            obtain ⟨j, hj, rfl, HW⟩ := hrel
            by_cases hlt : j < es.length
            · obtain ⟨kb, rfl, hc⟩ := HES.out _ HW.out.bel j hlt
              obtain ⟨y0, y1, y2, y3, y4, y5⟩ := ed_cells hc
              have p3 : (j : Int) < (es.length : Int) := by omega
              have HT := hid (feL_succ es k1 hlt)
              have hbx := row_new wr 67 #[.int .i64 0, .int .u64 0, .int .u64 0, .int .u64 0, .int .u64 0, .bool false] (es[j]).cells.toArray
              have HX := hid (show Blk ((wr.alloc (.cells #[.int .i64 0, .int .u64 0, .int .u64 0, .int .u64 0, .int .u64 0, .bool false] 67)).setRow wr.heap.size (es[j]).cells.toArray) wr.heap.size 67 (es[j]).cells from setRow_heap _ _ _ _ _ (0, 0) (heap_alloc_new wr _))
              have HW6 := hid (HW.out.keep hbx)
              have HSz := hid (ed_size es[j])
              have HOn := hid (ed_one es[j])
              clear hbx hc HES
              generalize es[j] = e at *
              cases hfr : e.fr with
              | false =>
                rw [hfr, if_neg (by decide)] at HT
                rw [hfr] at y5
                go_wp2_with (refine wpList_store_row rfl 67 _ _ rfl wr.heap.size e.cells.toArray ?_ ?_ 67 #[.int .i64 0, .int .u64 0, .int .u64 0, .int .u64 0, .int .u64 0, .bool false] (heap_alloc_new wr _) HSz.out ?_ HOn.out ?_; exact rfl; (show _ = Value.agg _; rw [← hfr]; exact rfl); exact rfl; generalize (wr.alloc (.cells #[.int .i64 0, .int .u64 0, .int .u64 0, .int .u64 0, .int .u64 0, .bool false] 67)).setRow wr.heap.size e.cells.toArray = w6 at *; (have z5 : w6.cell? ⟨wr.heap.size, 5, none⟩ = some (.bool e.fr) := HX.out.at 5); rw [hfr] at z5)
                go_roundw
                case rel => exact ⟨j + 1, by omega, by go_num, by rw [HT.out]; exact HW6⟩
                case measure => simp [intOf]; omega
              | true =>
                rw [hfr, if_pos rfl] at HT
                rw [hfr] at y5
                have HMt := hid (fun (W : World) (hW : WkR w1 (some ⟨gA, 0, none⟩) c E en B bS (feL (es.take j) k1) W) => meet_any hW hE (e.to : Int))
                rw [← HT.out] at HMt
                go_wp2_with (first
                  | (refine wpList_store_row rfl 67 _ _ rfl wr.heap.size e.cells.toArray ?_ ?_ 67 #[.int .i64 0, .int .u64 0, .int .u64 0, .int .u64 0, .int .u64 0, .bool false] (heap_alloc_new wr _) HSz.out ?_ HOn.out ?_; exact rfl; (show _ = Value.agg _; rw [← hfr]; exact rfl); exact rfl; generalize (wr.alloc (.cells #[.int .i64 0, .int .u64 0, .int .u64 0, .int .u64 0, .int .u64 0, .bool false] 67)).setRow wr.heap.size e.cells.toArray = w6 at *; (have z5 : w6.cell? ⟨wr.heap.size, 5, none⟩ = some (.bool e.fr) := HX.out.at 5); rw [hfr] at z5; (have z0 : w6.cell? ⟨wr.heap.size, 0, none⟩ = some (.int .i64 (e.to : Int)) := HX.out.at 0))
                  | (go_at_call 24; refine (HMt.out _ HW6.out).mono ?_; rintro q w9 ⟨rfl, HW9⟩))
                go_roundw
                case rel => exact ⟨j + 1, by omega, by go_num, hid HW9⟩
                case measure => simp [intOf]; omega
            · obtain rfl : j = es.length := by omega
              rw [List.take_length] at HW
              have hmt : unseen (feL es k1).seen + (feL es k1).todo.length < m := by
                rw [feL_ls, (lsL_met _ k1 (Met.refl HI1.out)).1.mes, ← HK1e.out]
                have e1 : k.todo.dropLast.length = k.todo.length - 1 := List.length_dropLast
                have e2 := HM0.out
                have e3 := HR.out
                simp only [e1]
                omega
              go_wp2
              go_roundg m
              case measure => omega
              case rel => exact ⟨_, hmt, HK1, HW⟩
end Go.Proofs.Ytimffgmbchpfeaa
