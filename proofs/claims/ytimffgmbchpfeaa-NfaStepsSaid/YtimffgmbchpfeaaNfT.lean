/- nfa: Step. -/
import Derived.Test.YtimffgmbchpfeaaNfS
import Derived.Test.YtimffgmbchpfeaaCls2
namespace Go.Proofs.Ytimffgmbchpfeaa
set_option linter.unusedSimpArgs false
set_option linter.unusedVariables false
open Go.RowKit
variable {w0 w w' W W' : World} {A : Option Addr} {c B bS : Nat} {E : EG} {en : Int} {k : WK}

theorem behP_succ (l : List Ed) (x : Nat) {j : Nat} (h : j < l.length) : behP (l.take (j + 1)) x = behP (l.take j) x ++ (if !(l[j]).fr && has (l[j]).set x then [((l[j]).to : Int)] else []) := by
  unfold behP
  rw [List.take_succ_eq_append_getElem h, List.filter_append, List.map_append]
  refine congrArg _ ?_
  simp only [List.filter_cons, List.filter_nil]
  split <;> rfl
theorem behL_succ (E : EG) (x : Nat) (l : List Int) {j : Nat} (h : j < l.length) : behL E x (l.take (j + 1)) = behL E x (l.take j) ++ (if 0 ≤ l[j] ∧ l[j] < (E.length : Int) then behP (E.getD (l[j]).toNat []) x else []) := by
  unfold behL
  rw [List.take_succ_eq_append_getElem h, List.flatMap_append]
  simp
theorem behP_le (l : List Ed) (x : Nat) : (behP l x).length ≤ l.length := by
  unfold behP
  rw [List.length_map]
  exact List.length_filter_le _ _
theorem behL_le (hE2 : ∀ s, (E.getD s []).length ≤ 100000) (x : Nat) : ∀ (l : List Int), (behL E x l).length ≤ l.length * 100000 := by
  intro l
  induction l with
  | nil => simp [behL]
  | cons a l ih =>
    have e : behL E x (a :: l) = (if 0 ≤ a ∧ a < (E.length : Int) then behP (E.getD a.toNat []) x else []) ++ behL E x l := rfl
    rw [e, List.length_append, List.length_cons]
    have h1 := behP_le (E.getD a.toNat []) x
    have h2 := hE2 a.toNat
    split
    · omega
    · simp only [List.length_nil]; omega
theorem ed_cells6 {W : World} {b : Nat} {e : Ed} (h : Blk W b 67 e.cells) : W.cell? ⟨b, 0, none⟩ = some (.int .i64 (e.to : Int)) ∧ W.cell? ⟨b, 1, none⟩ = some (.int .u64 ((wd e.set 0 : Nat) : Int)) ∧ W.cell? ⟨b, 2, none⟩ = some (.int .u64 ((wd e.set 1 : Nat) : Int)) ∧ W.cell? ⟨b, 3, none⟩ = some (.int .u64 ((wd e.set 2 : Nat) : Int)) ∧ W.cell? ⟨b, 4, none⟩ = some (.int .u64 ((wd e.set 3 : Nat) : Int)) ∧ W.cell? ⟨b, 5, none⟩ = some (.bool e.fr) :=
  ⟨h.at 0, h.at 1, h.at 2, h.at 3, h.at 4, h.at 5⟩
structure BhR (w1 : World) (L : List Int) (u : Value) (wr : World) : Prop where
  bel : Below w1.heap.size w1 wr
  row : wr.ownsRow w1.heap.size 3 1 u L.length (intsI L)
theorem BhR.grown {L L' : List Int} {u u' : Value} {wr wr' : World} (h : BhR W L u wr) (hgr : wr.grownBy wr' u.ownBlock) (ho : wr'.ownsRow W.heap.size 3 1 u' L'.length (intsI L')) : BhR W L' u' wr' :=
  ⟨Chg.below h.bel (Chg.of_grown hgr) h.bel.size (fun q hq => (own_blockN h.row q hq).1), ho⟩
theorem BhR.keep {L : List Int} {u : Value} {wr wr' : World} (h : BhR W L u wr) (hb : Below wr.heap.size wr wr') : BhR W L u wr' :=
  ⟨h.bel.trans (hb.mono h.bel.size), owns_chg h.row (Chg.of_below hb (fun _ => False)) (fun _ _ h => h)⟩
theorem BhR.shape {L : List Int} {u : Value} {wr : World} (h : BhR W L u wr) : ∃ A c, u = .slice A L.length c := own_shapeN h.row
set_option maxRecDepth 100000 in
set_option maxHeartbeats 4000000 in
theorem step_any (h : AuV w A c E) (hE : E.length ≤ 5000) (hE2 : ∀ s, (E.getD s []).length ≤ 100000) (LA : Option Addr) (lc : Nat) (l : List Int) (hl : IL w LA l) (hln : l.length ≤ 5000) (x : Nat) (hx : x < 256) : Calls Try.prog 15 #[.agg #[.slice A E.length c, .int .i64 en], .slice LA l.length lc, .int .u8 (x : Int)] w (RowN w (stepP E l x)) := by
  unfold stepP
  have hal := al_belowN w (.cells #[.slice A E.length c, .int .i64 en] 33)
  have hb0 : Blk (w.alloc (.cells #[.slice A E.length c, .int .i64 en] 33)) w.heap.size 33 [.slice A E.length c, .int .i64 en] := Blk.fresh w _ _
  have HB0 := hid hb0
  have HB := hid hal
  have HV := hid (h.keep hal)
  have HI := hid (hl.keep hal)
  have HE2 := hid hE2
  have HV0 := hid (fun hp => au_row (E := E) h hp)
  clear h hb0 hal hE2 hl
  go_enter Try.func15, Try.ntmps15
  go_upto_region 1 with fail
  change Code.wp _ _ _ _ (w.alloc (.cells #[.slice A E.length c, .int .i64 en] 33))
  generalize w.alloc (.cells #[.slice A E.length c, .int .i64 en] 33) = w1 at *
  go_wp2
  go_loopw [7, 14] (fun u i wr => ∃ j : Nat, j ≤ l.length ∧ i = .int .i64 (j : Int) ∧ Hid (BhR w1 (behL E x (l.take j)) u wr)) (fun _ i _ => l.length - (intOf i).toNat)
  case atStart => exact ⟨0, Nat.zero_le _, rfl, hid ⟨Below.refl _ _, ⟨rfl, .inl ⟨rfl, rfl⟩⟩⟩⟩
  case round =>
    obtain ⟨j, hj, rfl, HW⟩ := hrel
    have hbd := behL_le HE2.out x (l.take j)
    have htk : (l.take j).length ≤ j := by rw [List.length_take]; omega
    by_cases hlt : j < l.length
    · obtain ⟨b, o, rfl, hbl, hcs⟩ := HI.out (by omega)
      have hc := (HW.out.bel.cell (p := ⟨b, o + j, none⟩) hbl).trans (hcs j hlt)
      have p3 : (j : Int) < (l.length : Int) := by omega
      have HT := hid (behL_succ E x l hlt)
      have hq0 := (HB0.out.keep HW.out.bel).at 0
      have hq1 := (HB0.out.keep HW.out.bel).at 1
      simp only [List.getElem?_cons_zero, List.getElem?_cons_succ] at hq0 hq1
      have HHas := hid (fun (W : World) => has_anyA A E.length c en l[j] W)
      clear hcs
      generalize l[j] = sx at *
      by_cases hr : 0 ≤ sx ∧ sx < (E.length : Int)
      · rw [if_pos hr] at HT
        rw [decide_eq_true hr] at HHas
        obtain ⟨s, rfl⟩ : ∃ s : Nat, sx = (s : Int) := ⟨sx.toNat, by omega⟩
        rw [Int.toNat_natCast] at HT
        have hs : s < E.length := by omega
        obtain ⟨gA, rfl⟩ := HV0.out (by omega)
        obtain ⟨kA, kc, hlat⟩ := au_later HV.out rfl hs
        have HES := hid hlat
        have HBc := hid (fun (W : World) (hb : Below w1.heap.size w1 W) => (HB0.out.keep hb).at 0)
        have hed := HE2.out s
        have hLb : (behL E x (l.take j)).length ≤ 500000000 := by omega
        clear hr HI HB HV HV0 hbd htk hlat HB0 HE2
        generalize E.getD s [] = es at *
        generalize behL E x (l.take j) = L at *
        go_upto_region 6 with (go_at_call 26; refine (HHas.out _).mono ?_; rintro e w3 ⟨rfl, hb3⟩)
        have HW3 := hid (HW.out.keep hb3)
        clear HW hb3 hc hq0 hq1 HHas
        obtain ⟨hrow, _⟩ := HES.out w3 HW3.out.bel
        have q0 := HBc.out w3 HW3.out.bel
        simp only [List.getElem?_cons_zero] at q0
        go_wp2
        go_loopw [7, 28] (fun u i wr => ∃ jj : Nat, jj ≤ es.length ∧ i = .int .i64 (jj : Int) ∧ Hid (BhR w1 (L ++ behP (es.take jj) x) u wr)) (fun _ i _ => es.length - (intOf i).toNat)
        case atStart => exact ⟨0, Nat.zero_le _, rfl, by rw [List.take_zero, show behP [] x = [] from rfl, List.append_nil]; exact HW3⟩
        case round =>
          clear HW3 hrow q0 HBc
          obtain ⟨jj, hjj, rfl, HW⟩ := hrel
          by_cases hlt2 : jj < es.length
          · obtain ⟨kb, rfl, hcc⟩ := (HES.out _ HW.out.bel).2 jj hlt2
            obtain ⟨y0, y1, y2, y3, y4, y5⟩ := ed_cells hcc
            have p4 : (jj : Int) < (es.length : Int) := by omega
            have HT2 := hid (behP_succ es x hlt2)
            have hbl2 : (L ++ behP (es.take jj) x).length ≤ 600000000 := by
              have := behP_le (es.take jj) x
              rw [List.length_take] at this
              rw [List.length_append]
              omega
            have hbx := row_new wr 67 #[.int .i64 0, .int .u64 0, .int .u64 0, .int .u64 0, .int .u64 0, .bool false] (es[jj]).cells.toArray
            have HX := hid (show Blk ((wr.alloc (.cells #[.int .i64 0, .int .u64 0, .int .u64 0, .int .u64 0, .int .u64 0, .bool false] 67)).setRow wr.heap.size (es[jj]).cells.toArray) wr.heap.size 67 (es[jj]).cells from setRow_heap _ _ _ _ _ (0, 0) (heap_alloc_new wr _))
            have HW6 := hid (HW.out.keep hbx)
            have HSz := hid (ed_size es[jj])
            have HOn := hid (ed_one es[jj])
            clear hbx hcc HES HW
            generalize es[jj] = e at *
            generalize behP (es.take jj) x = Q at *
            have HCl := hid (fun (W : World) => has_any e.set x hx W)
            cases hfr : e.fr with
            | true =>
              rw [hfr, show (!true && has e.set x) = false from rfl, if_neg (by decide), List.append_nil] at HT2
              rw [hfr] at y5
              clear HCl
              go_wp2_with (refine wpList_store_row rfl 67 _ _ rfl wr.heap.size e.cells.toArray ?_ ?_ 67 #[.int .i64 0, .int .u64 0, .int .u64 0, .int .u64 0, .int .u64 0, .bool false] (heap_alloc_new wr _) HSz.out ?_ HOn.out ?_; exact rfl; (show _ = Value.agg _; rw [← hfr]; exact rfl); exact rfl; generalize (wr.alloc (.cells #[.int .i64 0, .int .u64 0, .int .u64 0, .int .u64 0, .int .u64 0, .bool false] 67)).setRow wr.heap.size e.cells.toArray = w6 at *; obtain ⟨z0, z1, z2, z3, z4, z5⟩ := ed_cells6 HX.out; rw [hfr] at z5; clear y0 y1 y2 y3 y4 y5)
              go_roundw
              case rel => exact ⟨jj + 1, by omega, by go_num, by rw [HT2.out]; exact HW6⟩
              case measure => simp [intOf]; omega
            | false =>
              rw [hfr, show (!false && has e.set x) = has e.set x from rfl] at HT2
              rw [hfr] at y5
              rw [setV_eq] at HCl
              cases hh : has e.set x with
              | false =>
                rw [hh, if_neg (by decide), List.append_nil] at HT2
                rw [hh] at HCl
                go_wp2_with (first
                  | (refine wpList_store_row rfl 67 _ _ rfl wr.heap.size e.cells.toArray ?_ ?_ 67 #[.int .i64 0, .int .u64 0, .int .u64 0, .int .u64 0, .int .u64 0, .bool false] (heap_alloc_new wr _) HSz.out ?_ HOn.out ?_; exact rfl; (show _ = Value.agg _; rw [← hfr]; exact rfl); exact rfl; generalize (wr.alloc (.cells #[.int .i64 0, .int .u64 0, .int .u64 0, .int .u64 0, .int .u64 0, .bool false] 67)).setRow wr.heap.size e.cells.toArray = w6 at *; obtain ⟨z0, z1, z2, z3, z4, z5⟩ := ed_cells6 HX.out; rw [hfr] at z5; clear y0 y1 y2 y3 y4 y5)
                  | (go_at_call 27; refine (HCl.out _).mono ?_; rintro q w9 ⟨rfl, hb9⟩))
                go_roundw
                case rel => exact ⟨jj + 1, by omega, by go_num, by rw [HT2.out]; exact hid (HW6.out.keep hb9)⟩
                case measure => simp [intOf]; omega
              | true =>
                rw [hh, if_pos rfl] at HT2
                rw [hh] at HCl
                have HX0 := hid (fun (W : World) (hb : Below ((wr.alloc (.cells #[.int .i64 0, .int .u64 0, .int .u64 0, .int .u64 0, .int .u64 0, .bool false] 67)).setRow wr.heap.size e.cells.toArray).heap.size ((wr.alloc (.cells #[.int .i64 0, .int .u64 0, .int .u64 0, .int .u64 0, .int .u64 0, .bool false] 67)).setRow wr.heap.size e.cells.toArray) W) => (HX.out.keep hb).at 0)
                go_upto_region 10 with (first
                  | (refine wpList_store_row rfl 67 _ _ rfl wr.heap.size e.cells.toArray ?_ ?_ 67 #[.int .i64 0, .int .u64 0, .int .u64 0, .int .u64 0, .int .u64 0, .bool false] (heap_alloc_new wr _) HSz.out ?_ HOn.out ?_; exact rfl; (show _ = Value.agg _; rw [← hfr]; exact rfl); exact rfl; generalize (wr.alloc (.cells #[.int .i64 0, .int .u64 0, .int .u64 0, .int .u64 0, .int .u64 0, .bool false] 67)).setRow wr.heap.size e.cells.toArray = w6 at *; obtain ⟨z0, z1, z2, z3, z4, z5⟩ := ed_cells6 HX.out; rw [hfr] at z5; clear y0 y1 y2 y3 y4 y5)
                  | (go_at_call 27; refine (HCl.out _).mono ?_; rintro q w9 ⟨rfl, hb9⟩))
                have HW9 := hid (HW6.out.keep hb9)
                have z0 := HX0.out w9 hb9
                simp only [Ed.cells, List.getElem?_cons_zero] at z0
                clear z1 z2 z3 z4 z5 HX HX0 HW6 HCl hb9 HSz HOn
                obtain ⟨A7, c7, rfl⟩ := HW9.out.shape
                have HWa := hid (HW9.out.keep (al_belowN w9 (.cells #[.int .i64 (e.to : Int)] 3)))
                have HO4 := hid HWa.out.row
                have HN := hid (int_cell w9 (e.to : Int))
                have hsz := HW9.out.bel.size
                obtain ⟨i0, hi0, hz0, hz1, hz2⟩ := info_parts info_intN
                clear HW9
                generalize hm : (L ++ Q).length = m at *
                go_wp2_with (refine wpList_append_own_at _ rfl _ _ 37 rfl w1.heap.size 3 i0 (.int .i64 0) 1 8 Try.underlying37 hi0 hz0 hz1 hz2 rfl (by decide) _ _ _ rfl HO4.out ⟨w9.heap.size, 0, none⟩ 1 1 [.int .i64 (e.to : Int)] rfl rfl HN.out (by intro u hu; simp at hu; subst hu; rfl) (by unfold maxLen; omega) (by omega) (by simp; omega) ?_; intro u7 w7 hown7 hgrow7 _ _)
                go_roundw
                case rel =>
                  refine ⟨jj + 1, by omega, by go_num, hid (HWa.out.grown hgrow7 ?_)⟩
                  have e1 : (L ++ behP (es.take (jj + 1)) x).length = m + 1 := by rw [HT2.out, ← List.append_assoc, List.length_append, hm]; rfl
                  have e2 : intsI (L ++ behP (es.take (jj + 1)) x) = intsI (L ++ Q) ++ [.int .i64 (e.to : Int)] := by rw [HT2.out, ← List.append_assoc]; simp [intsI]
                  rw [e1, e2]
                  exact hown7
                case measure => simp [intOf]; omega
          · obtain rfl : jj = es.length := by omega
            rw [List.take_length] at HW
            go_wp2
            go_roundw
            case rel => exact ⟨j + 1, by omega, by go_num, by rw [HT.out]; exact HW⟩
            case measure => simp [intOf]; omega
      · rw [if_neg hr, List.append_nil] at HT
        rw [decide_eq_false hr] at HHas
        clear hr HI HB HV HV0 hbd htk
        go_wp2_with (go_at_call 26; refine (HHas.out _).mono ?_; rintro e w3 ⟨rfl, hb3⟩)
        go_roundw
        case rel => exact ⟨j + 1, by omega, by go_num, by rw [HT.out]; exact hid (HW.out.keep hb3)⟩
        case measure => simp [intOf]; omega
    · obtain rfl : j = l.length := by omega
      rw [List.take_length] at HW hbd
      have q0 := (HB0.out.keep HW.out.bel).at 0
      have q1 := (HB0.out.keep HW.out.bel).at 1
      simp only [List.getElem?_cons_zero, List.getElem?_cons_succ] at q0 q1
      obtain ⟨A7, c7, rfl⟩ := HW.out.shape
      have HR := hid (reach_row (en := en) (HV.out.keep HW.out.bel) hE HE2.out A7 c7 (behL E x l) (il_of_own HW.out.row) (by omega))
      have HB2 := hid (HB.out.trans (HW.out.bel.mono HB.out.size))
      clear HI HB HV HV0 hbd htk HB0 HE2
      generalize reachP E (behL E x l) = R at *
      generalize (behL E x l).length = bl at *
      go_wp2_with (go_at_call 13; refine HR.out.mono ?_; rintro e w9 ⟨A9, c9, rfl, ho, hb⟩)
      go_ret
      exact ⟨A9, c9, rfl, own_base ho HB2.out.size, HB2.out.trans (hb.mono HB2.out.size)⟩
end Go.Proofs.Ytimffgmbchpfeaa
