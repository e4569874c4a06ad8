/- nfa: Step. -/
import Derived.Test.YtoiegkejkahfgaaDoorNfS
import Derived.Test.YtoiegkejkahfgaaDoorCls2
namespace Go.Proofs.YtoiegkejkahfgaaDoor
set_option linter.unusedSimpArgs false
set_option linter.unusedVariables false
open Go.RowKit
variable {w0 w w' W W' : World} {A : Option Addr} {c B bS : Nat} {E : EG} {en : Int} {k : WK}

theorem behP_succ (l : List Ed) (x : Nat) {j : Nat} (h : j < l.length) : behP (l.take (j + 1)) x = behP (l.take j) x ++ (if !(l[j]).fr && has (l[j]).set x then [((l[j]).to : Int)] else []) := by
  unfold behP
  rw [List.take_succ_eq_append_getElem h, List.filter_append, List.map_append]
  refine congrArg _ ?_
  simp only [List.filter_cons, List.filter_nil]
  split <;> rfl
theorem behL_succ (E : EG) (x : Nat) (l : List Int) {j : Nat} (h : j < l.length) : behL E x (l.take (j + 1)) = behL E x (l.take j) ++ (if 0 ≤ l[j] ∧ l[j] < (E.length : Int) then behP (E.getD (l[j]).toNat []) x else []) := by
  unfold behL
  rw [List.take_succ_eq_append_getElem h, List.flatMap_append]
  simp
theorem behP_le (l : List Ed) (x : Nat) : (behP l x).length ≤ l.length := by
  unfold behP
  rw [List.length_map]
  exact List.length_filter_le _ _
theorem behL_le (hE2 : ∀ s, (E.getD s []).length ≤ 100000) (x : Nat) : ∀ (l : List Int), (behL E x l).length ≤ l.length * 100000 := by
  intro l
  induction l with
  | nil => simp [behL]
  | cons a l ih =>
    have e : behL E x (a :: l) = (if 0 ≤ a ∧ a < (E.length : Int) then behP (E.getD a.toNat []) x else []) ++ behL E x l := rfl
    rw [e, List.length_append, List.length_cons]
    have h1 := behP_le (E.getD a.toNat []) x
    have h2 := hE2 a.toNat
    split
    · omega
    · simp only [List.length_nil]; omega
theorem ed_cells6 {W : World} {b : Nat} {e : Ed} (h : Blk W b 63 e.cells) : W.cell? ⟨b, 0, none⟩ = some (.int .i64 (e.to : Int)) ∧ W.cell? ⟨b, 1, none⟩ = some (.int .u64 ((wd e.set 0 : Nat) : Int)) ∧ W.cell? ⟨b, 2, none⟩ = some (.int .u64 ((wd e.set 1 : Nat) : Int)) ∧ W.cell? ⟨b, 3, none⟩ = some (.int .u64 ((wd e.set 2 : Nat) : Int)) ∧ W.cell? ⟨b, 4, none⟩ = some (.int .u64 ((wd e.set 3 : Nat) : Int)) ∧ W.cell? ⟨b, 5, none⟩ = some (.bool e.fr) :=
  ⟨h.at 0, h.at 1, h.at 2, h.at 3, h.at 4, h.at 5⟩
structure BhR (w1 : World) (L : List Int) (u : Value) (wr : World) : Prop where
  bel : Below w1.heap.size w1 wr
  row : wr.ownsRow w1.heap.size 3 1 u L.length (intsI L)
theorem BhR.grown {L L' : List Int} {u u' : Value} {wr wr' : World} (h : BhR W L u wr) (hgr : wr.grownBy wr' u.ownBlock) (ho : wr'.ownsRow W.heap.size 3 1 u' L'.length (intsI L')) : BhR W L' u' wr' :=
  ⟨Chg.below h.bel (Chg.of_grown hgr) h.bel.size (fun q hq => (own_blockN h.row q hq).1), ho⟩
theorem BhR.keep {L : List Int} {u : Value} {wr wr' : World} (h : BhR W L u wr) (hb : Below wr.heap.size wr wr') : BhR W L u wr' :=
  ⟨h.bel.trans (hb.mono h.bel.size), owns_chg h.row (Chg.of_below hb (fun _ => False)) (fun _ _ h => h)⟩
theorem BhR.shape {L : List Int} {u : Value} {wr : World} (h : BhR W L u wr) : ∃ A c, u = .slice A L.length c := own_shapeN h.row
set_option maxRecDepth 100000 in
set_option maxHeartbeats 4000000 in
theorem step_any (h : AuV w A c E) (hE : E.length ≤ 5000) (hE2 : ∀ s, (E.getD s []).length ≤ 100000) (LA : Option Addr) (lc : Nat) (l : List Int) (hl : IL w LA l) (hln : l.length ≤ 5000) (x : Nat) (hx : x < 256) : Calls Tryd.prog 8 #[.agg #[.slice A E.length c, .int .i64 en], .slice LA l.length lc, .int .u8 (x : Int)] w (RowN w (stepP E l x)) := by
  unfold stepP
  have hal := al_belowN w (.cells #[.slice A E.length c, .int .i64 en] 33)
  have hb0 : Blk (w.alloc (.cells #[.slice A E.length c, .int .i64 en] 33)) w.heap.size 33 [.slice A E.length c, .int .i64 en] := Blk.fresh w _ _
  have HB0 := hid hb0
  have HB := hid hal
  have HV := hid (h.keep hal)
  have HI := hid (hl.keep hal)
  have HE2 := hid hE2
  have HV0 := hid (fun hp => au_row (E := E) h hp)
  clear h hb0 hal hE2 hl
  go_enter Tryd.func8, Tryd.ntmps8
  go_upto_region 1 with fail
  change Code.wp _ _ _ _ (w.alloc (.cells #[.slice A E.length c, .int .i64 en] 33))
  generalize w.alloc (.cells #[.slice A E.length c, .int .i64 en] 33) = w1 at *
  go_wp2
  go_loopw [7, 14] (fun u i wr => ∃ j : Nat, j ≤ l.length ∧ i = .int .i64 (j : Int) ∧ Hid (BhR w1 (behL E x (l.take j)) u wr)) (fun _ i _ => l.length - (intOf i).toNat)
  case atStart => exact ⟨0, Nat.zero_le _, rfl, hid ⟨Below.refl _ _, ⟨rfl, .inl ⟨rfl, rfl⟩⟩⟩⟩
  case round =>
    obtain ⟨j, hj, rfl, HW⟩ := hrel
    have hbd := behL_le HE2.out x (l.take j)
    have htk : (l.take j).length ≤ j := by rw [List.length_take]; omega
    by_cases hlt : j < l.length
    · obtain ⟨b, o, rfl, hbl, hcs⟩ := HI.out (by omega)
      have hc := (HW.out.bel.cell (p := ⟨b, o + j, none⟩) hbl).trans (hcs j hlt)
      have p3 : (j : Int) < (l.length : Int) := by omega
      have HT := hid (behL_succ E x l hlt)
      have hq0 := (HB0.out.keep HW.out.bel).at 0
      have hq1 := (HB0.out.keep HW.out.bel).at 1
      simp only [List.getElem?_cons_zero, List.getElem?_cons_succ] at hq0 hq1
      have HHas := hid (fun (W : World) => has_anyA A E.length c en l[j] W)
      clear hcs
      generalize l[j] = sx at *
      by_cases hr : 0 ≤ sx ∧ sx < (E.length : Int)
      · rw [if_pos hr] at HT
        rw [decide_eq_true hr] at HHas
        obtain ⟨s, rfl⟩ : ∃ s : Nat, sx = (s : Int) := ⟨sx.toNat, by omega⟩
        rw [Int.toNat_natCast] at HT
        have hs : s < E.length := by omega
        obtain ⟨gA, rfl⟩ := HV0.out (by omega)
        obtain ⟨kA, kc, hlat⟩ := au_later HV.out rfl hs
        have HES := hid hlat
        have HBc := hid (fun (W : World) (hb : Below w1.heap.size w1 W) => (HB0.out.keep hb).at 0)
        have hed := HE2.out s
        have hLb : (behL E x (l.take j)).length ≤ 500000000 := by omega
        clear hr HI HB HV HV0 hbd htk hlat HB0 HE2
        generalize E.getD s [] = es at *
        generalize behL E x (l.take j) = L at *
        go_upto_region 6 with (go_at_call 22; refine (HHas.out _).mono ?_; rintro e w3 ⟨rfl, hb3⟩)
        have HW3 := hid (HW.out.keep hb3)
        clear HW hb3 hc hq0 hq1 HHas
        obtain ⟨hrow, _⟩ := HES.out w3 HW3.out.bel
        have q0 := HBc.out w3 HW3.out.bel
        simp only [List.getElem?_cons_zero] at q0
        go_wp2
        go_loopw [7, 28] (fun u i wr => ∃ jj : Nat, jj ≤ es.length ∧ i = .int .i64 (jj : Int) ∧ Hid (BhR w1 (L ++ behP (es.take jj) x) u wr)) (fun _ i _ => es.length - (intOf i).toNat)
        case atStart => exact ⟨0, Nat.zero_le _, rfl, by rw [List.take_zero, show behP [] x = [] from rfl, List.append_nil]; exact HW3⟩
        case round =>
          clear HW3 hrow q0 HBc
          obtain ⟨jj, hjj, rfl, HW⟩ := hrel
          by_cases hlt2 : jj < es.length
          · obtain ⟨kb, rfl, hcc⟩ := (HES.out _ HW.out.bel).2 jj hlt2
            obtain ⟨y0, y1, y2, y3, y4, y5⟩ := ed_cells hcc
            have p4 : (jj : Int) < (es.length : Int) := by omega
            have HT2 := hid (behP_succ es x hlt2)
            have hbl2 : (L ++ behP (es.take jj) x).length ≤ 600000000 := by
              have := behP_le (es.take jj) x
              rw [List.length_take] at this
              rw [List.length_append]
              omega
            have hbx := row_new wr 63 #[.int .i64 0, .int .u64 0, .int .u64 0, .int .u64 0, .int .u64 0, .bool false] (es[jj]).cells.toArray
            have HX := hid (show Blk ((wr.alloc (.cells #[.int .i64 0, .int .u64 0, .int .u64 0, .int .u64 0, .int .u64 0, .bool false] 63)).setRow wr.heap.size (es[jj]).cells.toArray) wr.heap.size 63 (es[jj]).cells from setRow_heap _ _ _ _ _ (0, 0) (heap_alloc_new wr _))
            have HW6 := hid (HW.out.keep hbx)
            have HSz := hid (ed_size es[jj])
            have HOn := hid (ed_one es[jj])
            clear hbx hcc HES HW
            generalize es[jj] = e at *
            generalize behP (es.take jj) x = Q at *
            have HCl := hid (fun (W : World) => has_any e.set x hx W)
            cases hfr : e.fr with
            | true =>
              rw [hfr, show (!true && has e.set x) = false from rfl, if_neg (by decide), List.append_nil] at HT2
              rw [hfr] at y5
              clear HCl
              go_wp2_with (refine wpList_store_row rfl 63 _ _ rfl wr.heap.size e.cells.toArray ?_ ?_ 63 #[.int .i64 0, .int .u64 0, .int .u64 0, .int .u64 0, .int .u64 0, .bool false] (heap_alloc_new wr _) HSz.out ?_ HOn.out ?_; exact rfl; (show _ = Value.agg _; rw [← hfr]; exact rfl); exact rfl; generalize (wr.alloc (.cells #[.int .i64 0, .int .u64 0, .int .u64 0, .int .u64 0, .int .u64 0, .bool false] 63)).setRow wr.heap.size e.cells.toArray = w6 at *; obtain ⟨z0, z1, z2, z3, z4, z5⟩ := ed_cells6 HX.out; rw [hfr] at z5; clear y0 y1 y2 y3 y4 y5)
              go_roundw
              case rel => exact ⟨jj + 1, by omega, by go_num, by rw [HT2.out]; exact HW6⟩
              case measure => simp [intOf]; omega
            | false =>
              rw [hfr, show (!false && has e.set x) = has e.set x from rfl] at HT2
              rw [hfr] at y5
              rw [setV_eq] at HCl
              cases hh : has e.set x with
              | false =>
                rw [hh, if_neg (by decide), List.append_nil] at HT2
                rw [hh] at HCl
                go_wp2_with (first
                  | (refine wpList_store_row rfl 63 _ _ rfl wr.heap.size e.cells.toArray ?_ ?_ 63 #[.int .i64 0, .int .u64 0, .int .u64 0, .int .u64 0, .int .u64 0, .bool false] (heap_alloc_new wr _) HSz.out ?_ HOn.out ?_; exact rfl; (show _ = Value.agg _; rw [← hfr]; exact rfl); exact rfl; generalize (wr.alloc (.cells #[.int .i64 0, .int .u64 0, .int .u64 0, .int .u64 0, .int .u64 0, .bool false] 63)).setRow wr.heap.size e.cells.toArray = w6 at *; obtain ⟨z0, z1, z2, z3, z4, z5⟩ := ed_cells6 HX.out; rw [hfr] at z5; clear y0 y1 y2 y3 y4 y5)
                  | (go_at_call 11; refine (HCl.out _).mono ?_; rintro q w9 ⟨rfl, hb9⟩))
                go_roundw
                case rel => exact ⟨jj + 1, by omega, by go_num, by rw [HT2.out]; exact hid (HW6.out.keep hb9)⟩
                case measure => simp [intOf]; omega
              | true =>
                rw [hh, if_pos rfl] at HT2
                rw [hh] at HCl
                have HX0 := hid (fun (W : World) (hb : Below ((wr.alloc (.cells #[.int .i64 0, .int .u64 0, .int .u64 0, .int .u64 0, .int .u64 0, .bool false] 63)).setRow wr.heap.size e.cells.toArray).heap.size ((wr.alloc (.cells #[.int .i64 0, .int .u64 0, .int .u64 0, .int .u64 0, .int .u64 0, .bool false] 63)).setRow wr.heap.size e.cells.toArray) W) => (HX.out.keep hb).at 0)
                go_upto_region 10 with (first
                  | (refine wpList_store_row rfl 63 _ _ rfl wr.heap.size e.cells.toArray ?_ ?_ 63 #[.int .i64 0, .int .u64 0, .int .u64 0, .int .u64 0, .int .u64 0, .bool false] (heap_alloc_new wr _) HSz.out ?_ HOn.out ?_; exact rfl; (show _ = Value.agg _; rw [← hfr]; exact rfl); exact rfl; generalize (wr.alloc (.cells #[.int .i64 0, .int .u64 0, .int .u64 0, .int .u64 0, .int .u64 0, .bool false] 63)).setRow wr.heap.size e.cells.toArray = w6 at *; obtain ⟨z0, z1, z2, z3, z4, z5⟩ := ed_cells6 HX.out; rw [hfr] at z5; clear y0 y1 y2 y3 y4 y5)
                  | (go_at_call 11; refine (HCl.out _).mono ?_; rintro q w9 ⟨rfl, hb9⟩))
                have HW9 := hid (HW6.out.keep hb9)
                have z0 := HX0.out w9 hb9
                simp only [Ed.cells, List.getElem?_cons_zero] at z0
                clear z1 z2 z3 z4 z5 HX HX0 HW6 HCl hb9 HSz HOn
                obtain ⟨A7, c7, rfl⟩ := HW9.out.shape
                have HWa := hid (HW9.out.keep (al_belowN w9 (.cells #[.int .i64 (e.to : Int)] 3)))
                have HO4 := hid HWa.out.row
                have HN := hid (int_cell w9 (e.to : Int))
                have hsz := HW9.out.bel.size
                obtain ⟨i0, hi0, hz0, hz1, hz2⟩ := info_parts info_intN
                clear HW9
                generalize hm : (L ++ Q).length = m at *
                go_wp2_with (refine wpList_append_own_at _ rfl _ _ 37 rfl w1.heap.size 3 i0 (.int .i64 0) 1 8 Tryd.underlying37 hi0 hz0 hz1 hz2 rfl (by decide) _ _ _ rfl HO4.out ⟨w9.heap.size, 0, none⟩ 1 1 [.int .i64 (e.to : Int)] rfl rfl HN.out (by intro u hu; simp at hu; subst hu; rfl) (by unfold maxLen; omega) (by omega) (by simp; omega) ?_; intro u7 w7 hown7 hgrow7 _ _)
                go_roundw
                case rel =>
                  refine ⟨jj + 1, by omega, by go_num, hid (HWa.out.grown hgrow7 ?_)⟩
                  have e1 : (L ++ behP (es.take (jj + 1)) x).length = m + 1 := by rw [HT2.out, ← List.append_assoc, List.length_append, hm]; rfl
                  have e2 : intsI (L ++ behP (es.take (jj + 1)) x) = intsI (L ++ Q) ++ [.int .i64 (e.to : Int)] := by rw [HT2.out, ← List.append_assoc]; simp [intsI]
                  rw [e1, e2]
                  exact hown7
                case measure => simp [intOf]; omega
          · obtain rfl : jj = es.length := by omega
            rw [List.take_length] at HW
            go_wp2
            go_roundw
            case rel => exact ⟨j + 1, by omega, by go_num, by rw [HT.out]; exact HW⟩
            case measure => simp [intOf]; omega
      · rw [if_neg hr, List.append_nil] at HT
        rw [decide_eq_false hr] at HHas
        clear hr HI HB HV HV0 hbd htk
        go_wp2_with (go_at_call 22; refine (HHas.out _).mono ?_; rintro e w3 ⟨rfl, hb3⟩)
        go_roundw
        case rel => exact ⟨j + 1, by omega, by go_num, by rw [HT.out]; exact hid (HW.out.keep hb3)⟩
        case measure => simp [intOf]; omega
    · obtain rfl : j = l.length := by omega
      rw [List.take_length] at HW hbd
      have q0 := (HB0.out.keep HW.out.bel).at 0
      have q1 := (HB0.out.keep HW.out.bel).at 1
      simp only [List.getElem?_cons_zero, List.getElem?_cons_succ] at q0 q1
      obtain ⟨A7, c7, rfl⟩ := HW.out.shape
      have HR := hid (reach_row (en := en) (HV.out.keep HW.out.bel) hE HE2.out A7 c7 (behL E x l) (il_of_own HW.out.row) (by omega))
      have HB2 := hid (HB.out.trans (HW.out.bel.mono HB.out.size))
      clear HI HB HV HV0 hbd htk HB0 HE2
      generalize reachP E (behL E x l) = R at *
      generalize (behL E x l).length = bl at *
      go_wp2_with (go_at_call 21; refine HR.out.mono ?_; rintro e w9 ⟨A9, c9, rfl, ho, hb⟩)
      go_ret
      exact ⟨A9, c9, rfl, own_base ho HB2.out.size, HB2.out.trans (hb.mono HB2.out.size)⟩
end Go.Proofs.YtoiegkejkahfgaaDoor

/- nfa: Match. -/
namespace Go.Proofs.YtoiegkejkahfgaaDoor
set_option linter.unusedSimpArgs false
set_option linter.unusedVariables false
open Go.RowKit
variable {w0 w w' W W' : World} {A : Option Addr} {c B bS : Nat} {E : EG} {en : Int} {k : WK}

/-- Bytes in memory. -/
def BL (w : World) (A : Option Addr) (l : List Nat) : Prop := 0 < l.length → ∃ b o, A = some ⟨b, o, none⟩ ∧ b < w.heap.size ∧ ∀ j (h : j < l.length), w.cell? ⟨b, o + j, none⟩ = some (.int .u8 (l[j] : Int))
theorem BL.keep {l : List Nat} (h : BL w A l) (hb : Below w.heap.size w w') : BL w' A l := fun h0 => by
  obtain ⟨b, o, e, hl, hc⟩ := h h0
  exact ⟨b, o, e, Nat.lt_of_lt_of_le hl hb.size, fun j hj => (hb.cell (p := ⟨b, o + j, none⟩) hl).trans (hc j hj)⟩
theorem reachP_len (E : EG) (l : List Int) : (reachP E l).length ≤ E.length := by
  obtain ⟨S, e, hs, _⟩ := reach_ok E l
  rw [e, ← hs]
  exact aP_len S S.length
theorem runP_len (E : EG) : ∀ (b : List Nat) (l : List Nat), l.length ≤ E.length → (runP E l b).length ≤ E.length := by
  intro b
  induction b with
  | nil => intro l h; exact h
  | cons c b ih => intro l h; exact ih _ (reachP_len E _)
theorem runP_succ (E : EG) (l : List Nat) (b : List Nat) {j : Nat} (h : j < b.length) : runP E l (b.take (j + 1)) = stepP E (natI (runP E l (b.take j))) b[j] := by
  unfold runP
  rw [List.take_succ_eq_append_getElem h, List.foldl_append]
  rfl
theorem natI_contains (l : List Nat) (q : Nat) : (natI l).contains (q : Int) = l.contains q := by
  induction l with
  | nil => rfl
  | cons a l ih =>
    have e : natI (a :: l) = (a : Int) :: natI l := rfl
    rw [e, List.contains_cons, List.contains_cons, ih]
    have e2 : ((q : Int) == (a : Int)) = (q == a) := by
      by_cases hq : q = a
      · rw [hq, beq_self_eq_true, beq_self_eq_true]
      · have h1 : ¬ (q : Int) = (a : Int) := by omega
        rw [beq_eq_false_iff_ne.2 h1, beq_eq_false_iff_ne.2 hq]
    rw [e2]
set_option maxRecDepth 100000 in
set_option maxHeartbeats 4000000 in
theorem match_any (q : Nat) (h : AuV w A c E) (hE : E.length ≤ 5000) (hE2 : ∀ s, (E.getD s []).length ≤ 100000) (BA : Option Addr) (bc : Nat) (b : List Nat) (hb : BL w BA b) (hb2 : ∀ x ∈ b, x < 256) (hbn : b.length ≤ 100000) : Calls Tryd.prog 15 #[.agg #[.slice A E.length c, .int .i64 (q : Int)], .slice BA b.length bc] w fun e w' => e = .returned (.bool (matchP E q b)) ∧ Below w.heap.size w w' := by
  have hal := al_belowN w (.cells #[.slice A E.length c, .int .i64 (q : Int)] 33)
  have hb0 : Blk (w.alloc (.cells #[.slice A E.length c, .int .i64 (q : Int)] 33)) w.heap.size 33 [.slice A E.length c, .int .i64 (q : Int)] := Blk.fresh w _ _
  have k0 := hb0.at 0
  have k1 := hb0.at 1
  simp only [List.getElem?_cons_zero, List.getElem?_cons_succ] at k0 k1
  have HB0 := hid hb0
  have HB := hid hal
  have HV := hid (h.keep hal)
  have HI := hid (hb.keep hal)
  have HE2 := hid hE2
  have HB2 := hid hb2
  clear h hb0 hal hE2 hb hb2
  obtain ⟨st, hst⟩ : ∃ st, st = startP E := ⟨_, rfl⟩
  have hsl : st.length ≤ E.length := by rw [hst]; exact reachP_len E _
  have HStE := hid hst
  go_enter Tryd.func15, Tryd.ntmps15
  go_upto_region 1 with fail
  change Code.wp _ _ _ _ (w.alloc (.cells #[.slice A E.length c, .int .i64 (q : Int)] 33))
  generalize w.alloc (.cells #[.slice A E.length c, .int .i64 (q : Int)] 33) = w1 at *
  have HS := hid (start_any (en := (q : Int)) HV.out hE HE2.out)
  rw [← hst] at HS
  clear hst
  go_wp2_with (go_at_call 7; refine HS.out.mono ?_; rintro e w2 ⟨A2, c2, rfl, ho, hb⟩)
  have HBs := hid hb
  have HOs := hid ho
  clear k0 k1 hb ho HS
  go_loopw [5, 12] (fun u i wr => ∃ j : Nat, j ≤ b.length ∧ i = .int .i64 (j : Int) ∧ ∃ A3 c3, u = .slice A3 (runP E st (b.take j)).length c3 ∧ Hid (wr.ownsRow w1.heap.size 3 1 (.slice A3 (runP E st (b.take j)).length c3) (runP E st (b.take j)).length (intsN (runP E st (b.take j)))) ∧ Hid (Below w1.heap.size w1 wr)) (fun _ i _ => b.length - (intOf i).toNat)
  case atStart => exact ⟨0, Nat.zero_le _, rfl, A2, c2, rfl, HOs, HBs⟩
  case round =>
    clear HBs HOs
    obtain ⟨j, hj, rfl, A3, c3, rfl, HO, HBw⟩ := hrel
    have q0 := (HB0.out.keep HBw.out).at 0
    have q1 := (HB0.out.keep HBw.out).at 1
    simp only [List.getElem?_cons_zero, List.getElem?_cons_succ] at q0 q1
    have hRl := runP_len E (b.take j) st hsl
    have HIl := hid (rowN_il HO.out)
    by_cases hlt : j < b.length
    · obtain ⟨bb, o, rfl, hbl, hcs⟩ := HI.out (by omega)
      have hc := (HBw.out.cell (p := ⟨bb, o + j, none⟩) hbl).trans (hcs j hlt)
      have p3 : (j : Int) < (b.length : Int) := by omega
      have HT := hid (runP_succ E st b hlt)
      have hx : b[j] < 256 := HB2.out _ (List.getElem_mem _)
      clear hcs
      generalize runP E st (b.take j) = R at *
      have HSt := hid (step_any (en := (q : Int)) (HV.out.keep HBw.out) hE HE2.out A3 c3 (natI R) HIl.out (by rw [natI_len]; omega) b[j] hx)
      rw [← HT.out, natI_len] at HSt
      generalize b[j] = x at *
      clear HV HI HE2 HB2 HB0 HIl
      go_wp2_with (go_at_call 8; refine HSt.out.mono ?_; rintro e w9 ⟨A9, c9, rfl, ho, hb⟩)
      go_roundw
      case rel => exact ⟨j + 1, by omega, by go_num, A9, c9, rfl, hid (own_base ho HBw.out.size), hid (HBw.out.trans (hb.mono HBw.out.size))⟩
      case measure => simp [intOf]; omega
    · obtain rfl : j = b.length := by omega
      have HEn := hid (ends_any (A := A) (c := c) (en := (q : Int)) E.length HIl.out (by rw [natI_len]; omega) c3)
      rw [natI_len, natI_contains] at HEn
      have HRe := hid (show matchP E q b = (runP E st (b.take b.length)).contains q by rw [List.take_length, HStE.out]; rfl)
      generalize runP E st (b.take b.length) = R at *
      generalize R.contains q = bq at *
      have HB9 := hid (HB.out.trans (HBw.out.mono HB.out.size))
      clear HV HI HE2 HB2 HB0 HIl HO HBw
      go_wp2_with (go_at_call 33; refine HEn.out.mono ?_; rintro e w9 ⟨rfl, hb⟩)
      go_ret
      exact ⟨by rw [HRe.out]; rfl, HB9.out.trans (hb.mono HB9.out.size)⟩
end Go.Proofs.YtoiegkejkahfgaaDoor

/- nfa: the law's own 'few'. -/
namespace Go.Proofs.YtoiegkejkahfgaaDoor
set_option linter.unusedSimpArgs false
set_option linter.unusedVariables false
open Go.RowKit

mutual
/-- Is it of so few parts, none too often? And how many are left. -/
def fgT : RT → Int → Bool × Int
  | .nd k _ ks lo hi, n => if n - 1 < 0 ∨ 30 < ks.length ∨ (k = 5 ∧ (6 < lo ∨ 8 < hi)) then (false, n - 1) else fgL ks (n - 1)
def fgL : List RT → Int → Bool × Int
  | [], n => (true, n)
  | t :: ts, n => if (fgT t n).1 = true then fgL ts (fgT t n).2 else (false, (fgT t n).2)
end
theorem fg_sz : ∀ t n, (fgT t n).1 = true → (szT t : Int) ≤ n ∧ (fgT t n).2 = n - szT t := by
  refine RT.ind fun k s ks lo hi ih => ?_
  intro n h
  rw [fgT] at h ⊢
  rw [szT]
  by_cases h1 : n - 1 < 0 ∨ 30 < ks.length ∨ (k = 5 ∧ (6 < lo ∨ 8 < hi))
  · rw [if_pos h1] at h; cases h
  · rw [if_neg h1] at h ⊢
    have key : ∀ (ks : List RT), (∀ t ∈ ks, ∀ n, (fgT t n).1 = true → (szT t : Int) ≤ n ∧ (fgT t n).2 = n - szT t) → ∀ n, 0 ≤ n → (fgL ks n).1 = true → (szL ks : Int) ≤ n ∧ (fgL ks n).2 = n - szL ks := by
      intro ks
      induction ks with
      | nil => intro _ n h0 _; rw [szL, fgL]; exact ⟨by simpa using h0, by simp⟩
      | cons t ts ih2 =>
        intro ih n h0 h
        rw [fgL] at h ⊢
        rw [szL]
        by_cases h2 : (fgT t n).1 = true
        · rw [if_pos h2] at h ⊢
          obtain ⟨h3, h4⟩ := ih t (by simp) n h2
          rw [h4] at h ⊢
          obtain ⟨h5, h6⟩ := ih2 (fun x hx => ih x (List.mem_cons_of_mem _ hx)) _ (by omega) h
          rw [h6]
          omega
        · rw [if_neg h2] at h; cases h
    obtain ⟨h2, h3⟩ := key ks ih (n - 1) (by omega) h
    rw [h3]
    omega
set_option maxRecDepth 100000 in
set_option maxHeartbeats 4000000 in
theorem few_any : ∀ (t : RT) (v : RV) (w : World) (g : Nat) (cnt : Int) (P : Nat → Prop), Rep w P v t → (∀ b, P b → b ≠ g) → Blk w g 3 [.int .i64 cnt] → 0 ≤ cnt → cnt ≤ 200 →
    Calls Tryd.prog 5 #[v.val, .pointer (some ⟨g, 0, none⟩)] w fun e w' => e = .returned (.bool (fgT t cnt).1) ∧ w.grownBy w' (some g) ∧ ∃ c : Int, Blk w' g 3 [.int .i64 c] ∧ ((fgT t cnt).1 = true → c = cnt - szT t) := by
  refine RT.ind fun k s ks lo hi ih => ?_
  intro v w g cnt P hR hP hg hcnt0 hcnt
  obtain ⟨rfl, rfl, rfl, rfl, hn, vs, hA, hk⟩ := hR.inv
  obtain ⟨T, hT⟩ : ∃ T, T = fgT (RT.nd v.k v.s ks v.lo v.hi) cnt := ⟨_, rfl⟩
  rw [← hT]
  have hsz : szT (RT.nd v.k v.s ks v.lo v.hi) = 1 + szL ks := by rw [szT]
  rw [hsz]
  rw [fgT, hn] at hT
  have hgw := hg.lt
  obtain ⟨hb, hN⟩ := box_new w v
  have hg1 := hg.keep hb
  have HX := hid hN
  have hx := Blk.cells8' (v := v) hN
  have hs1 : (w.alloc (.cells v.cells.toArray 26)).heap.size = w.heap.size + 1 := by simp
  have HB := hid hb
  have HK := hid (fun j (h : j < ks.length) => (hk j h).keep hb)
  have HA0 := hid (show 0 < v.n → ∃ b o, v.A = some ⟨b, o, none⟩ ∧ b < w.heap.size ∧ P b ∧ ∀ j, j < v.n → RowAt (w.alloc (.cells v.cells.toArray 26)) b (o + j * 8) (vs j).cells from fun h => by
    obtain ⟨b, o, e, hl, hp, hc⟩ := hA h
    exact ⟨b, o, e, hl, hp, fun j hj => (hc j hj).block (hb.block b hl)⟩)
  clear hN hb hA hk hg hR
  unfold RV.val
  rw [show (#[.int .i64 v.k, .int .u64 ((wd v.s 0 : Nat) : Int), .int .u64 ((wd v.s 1 : Nat) : Int), .int .u64 ((wd v.s 2 : Nat) : Int), .int .u64 ((wd v.s 3 : Nat) : Int), .slice v.A v.n v.c, .int .i64 v.lo, .int .i64 v.hi] : Array Value) = v.cells.toArray from rfl]
  go_enter Tryd.func5, Tryd.ntmps5
  go_upto_region 1 with (fail)
  change Code.wp _ _ _ _ (w.alloc (.cells v.cells.toArray 26))
  generalize w.alloc (.cells v.cells.toArray 26) = w1 at *
  obtain ⟨x0, x1, x2, x3, x4, x5, x6, x7⟩ := hx
  have hc0 := hg1.at 0
  have hf0 := hg1.free 0
  have HG2 := hid (hg1.put 0 (.int .i64 (cnt - 1)))
  have HX2 := hid ((Below.heap_setCell w1 ⟨g, 0, none⟩ (.int .i64 (cnt - 1)) w.heap.size (by show w.heap.size ≠ g; omega)).trans HX.out)
  have HGr := hid (grown_set1 w1 g 0 (.int .i64 (cnt - 1)))
  have HG2 := hid (show Blk (w1.setCell ⟨g, 0, none⟩ (.int .i64 (cnt - 1))) g 3 [.int .i64 (cnt - 1)] from HG2.out)
  have HFin := hid (fun W (hW : w1.grownBy W (some g)) => grown_trans (grown_of_below HB.out (some g)) hW)
  by_cases c1 : cnt - 1 < 0
  · rw [if_pos (.inl c1)] at hT
    replace hT := hid hT
    go_wp2
    go_ret
    exact ⟨by rw [hT.out]; rfl, HFin.out _ HGr.out, cnt - 1, HG2.out, fun h => by rw [hT.out] at h; cases h⟩
  by_cases c2 : 30 < v.n
  · rw [if_pos (.inr (.inl c2))] at hT
    replace hT := hid hT
    have c3 : (30 : Int) < (v.n : Int) := by omega
    have c4 : 0 ≤ cnt - 1 := by omega
    go_wp2
    go_ret
    exact ⟨by rw [hT.out]; rfl, HFin.out _ HGr.out, cnt - 1, HG2.out, fun h => by rw [hT.out] at h; cases h⟩
  have c4 : 0 ≤ cnt - 1 := by omega
  have c3 : (v.n : Int) ≤ 30 := by omega
  by_cases c5 : v.k = 5
  · have d5 : (v.k == 5) = true := by rw [c5]; rfl
    by_cases c6 : 6 < v.lo
    · rw [if_pos (.inr (.inr ⟨c5, .inl c6⟩))] at hT
      replace hT := hid hT
      clear c5
      go_wp2
      go_ret
      exact ⟨by rw [hT.out]; rfl, HFin.out _ HGr.out, cnt - 1, HG2.out, fun h => by rw [hT.out] at h; cases h⟩
    have c8 : v.lo ≤ 6 := by omega
    by_cases c7 : 8 < v.hi
    · rw [if_pos (.inr (.inr ⟨c5, .inr c7⟩))] at hT
      replace hT := hid hT
      clear c5 c6
      go_wp2
      go_ret
      exact ⟨by rw [hT.out]; rfl, HFin.out _ HGr.out, cnt - 1, HG2.out, fun h => by rw [hT.out] at h; cases h⟩
    have c9 : v.hi ≤ 8 := by omega
    rw [if_neg (by omega)] at hT
    replace hT := hid hT
    clear c5 c6 c7
    go_wp2_with fail
    clear x0 x1 x2 x3 x4 x5 x6 x7 hc0 hf0
    generalize w1.setCell ⟨g, 0, none⟩ (.int .i64 (cnt - 1)) = w2 at *
    go_loopw [40] (fun i wr => ∃ (j : Nat) (c : Int), j ≤ v.n ∧ i = .int .i64 j ∧ 0 ≤ c ∧ c ≤ 200 ∧ Hid (fgL ks (cnt - 1) = fgL (ks.drop j) c) ∧ Hid (c = cnt - 1 - szL (ks.take j)) ∧ Hid (Blk wr g 3 [.int .i64 c]) ∧ Hid (w1.grownBy wr (some g))) (fun i _ => v.n - (intOf i).toNat)
    case atStart => exact ⟨0, cnt - 1, by omega, rfl, by omega, by omega, hid (by rw [List.drop_zero]), hid (by rw [List.take_zero, szL]; simp), HG2, HGr⟩
    case round =>
      clear HG2 HGr HX2 HX
      obtain ⟨j, c, hj, rfl, hc0, hc200, HZ, HCs, HC, HG⟩ := hrel
      by_cases hlt : j < v.n
      · obtain ⟨b, o, hAe, hbl, hp, hrow⟩ := HA0.out (by omega)
        have hrw := (hrow j hlt).block (HG.out.block b (by omega) (by intro e; injection e with e; exact hP b hp (by omega)))
        obtain ⟨y0, y1, y2, y3, y4, y5, y6, y7⟩ := hrw.cells8
        have hjk : j < ks.length := by omega
        have HTk := hid (szL_take ks j hjk)
        have hRk := (HK.out j hjk).step HG.out hP
        have HDr : Hid (fgL (ks.drop j) c = if (fgT ks[j] c).1 = true then fgL (ks.drop (j + 1)) (fgT ks[j] c).2 else (false, (fgT ks[j] c).2)) := hid (by rw [List.drop_eq_getElem_cons hjk, fgL])
        have HFs := hid (fg_sz ks[j] c)
        generalize hx : vs j = x at *
        have hbx := row_new wr 26 #[.int .i64 0, .int .u64 0, .int .u64 0, .int .u64 0, .int .u64 0, .slice none 0 0, .int .i64 0, .int .i64 0] x.cells.toArray
        have HX5 := hid (show Blk ((wr.alloc (.cells #[.int .i64 0, .int .u64 0, .int .u64 0, .int .u64 0, .int .u64 0, .slice none 0 0, .int .i64 0, .int .i64 0] 26)).setRow wr.heap.size x.cells.toArray) wr.heap.size 26 x.cells from setRow_heap _ _ _ _ _ (0, 0) (heap_alloc_new wr _))
        have HSz := hid (rx_size x)
        have HOne := hid (rx_one x)
        have HIH := hid (ih ks[j] (List.getElem_mem _) x _ g c P (hRk.keep hbx) hP (HC.out.keep hbx) hc0 hc200)
        have HG5 := hid (grown_trans HG.out (grown_of_below hbx (some g)))
        clear hRk hbx hrow hrw ih HK HA0 HC HG
        unfold RV.val at HIH
        rw [hAe]
        go_wp2_with (refine wpList_store_row rfl 26 _ _ rfl wr.heap.size x.cells.toArray ?_ ?_ 26 #[.int .i64 0, .int .u64 0, .int .u64 0, .int .u64 0, .int .u64 0, .slice none 0 0, .int .i64 0, .int .i64 0] (heap_alloc_new wr _) HSz.out ?_ HOne.out ?_; exact rfl; exact rfl; exact rfl; generalize (wr.alloc (.cells #[.int .i64 0, .int .u64 0, .int .u64 0, .int .u64 0, .int .u64 0, .slice none 0 0, .int .i64 0, .int .i64 0] 26)).setRow wr.heap.size x.cells.toArray = w5 at *; obtain ⟨x0, x1, x2, x3, x4, x5, x6, x7⟩ := Blk.cells8' HX5.out)
        refine HIH.out.mono ?_
        rintro e w6 ⟨rfl, hg6, c6, hC6, hc6⟩
        have HC6 := hid hC6
        have HG6 := hid (grown_trans HG5.out hg6)
        have HC7 := hid hc6
        clear x0 x1 x2 x3 x4 x5 x6 x7 y0 y1 y2 y3 y4 y5 y6 y7 hC6 hg6 HIH HG5 HX5 hc6
        obtain ⟨q, hq⟩ : ∃ q, q = fgT ks[j] c := ⟨_, rfl⟩
        rw [← hq] at HDr HC7 HFs ⊢
        clear hq
        obtain ⟨q1, q2⟩ := q
        simp only at HDr HC7 HFs ⊢
        cases q1
        · have HD2 : Hid (T = (false, q2)) := hid (by rw [hT.out, HZ.out, HDr.out]; rfl)
          clear HDr HC7 HFs HZ HCs HTk
          go_wp2
          go_ret
          exact ⟨by rw [HD2.out]; rfl, HFin.out _ HG6.out, c6, HC6.out, fun h => by rw [HD2.out] at h; cases h⟩
        · have HD2 : Hid (fgL ks (cnt - 1) = fgL (ks.drop (j + 1)) q2) := hid (by rw [HZ.out, HDr.out]; rfl)
          have hc7 := HC7.out rfl
          obtain ⟨hf1, hf2⟩ := HFs.out rfl
          have e62 : c6 = q2 := by rw [hf2, hc7]
          subst e62
          have HCs2 : Hid (c6 = cnt - 1 - szL (ks.take (j + 1))) := hid (by have h1 := HCs.out; have h2 := HTk.out; omega)
          have hc60 : 0 ≤ c6 := by omega
          have hc62 : c6 ≤ 200 := by omega
          clear HDr HC7 HFs HZ HCs HTk hf1 hf2 hc7
          go_wp2
          go_roundw
          case rel => exact ⟨j + 1, c6, by omega, by go_num, hc60, hc62, HD2, HCs2, HC6, HG6⟩
          case measure => simp [intOf]; omega
      · obtain rfl : j = v.n := by omega
        have hdk : ks.drop v.n = [] := List.drop_eq_nil_of_le (by omega)
        have htk : ks.take v.n = ks := List.take_of_length_le (by omega)
        rw [hdk, fgL] at HZ
        rw [htk] at HCs
        have HD2 : Hid (T = (true, c)) := hid (by rw [hT.out, HZ.out])
        clear HZ hdk htk
        go_wp2
        go_ret
        exact ⟨by rw [HD2.out]; rfl, HFin.out _ HG.out, c, HC.out, fun _ => by have h := HCs.out; omega⟩
  · have d5 : (v.k == 5) = false := beq_eq_false_iff_ne.2 c5
    rw [if_neg (by omega)] at hT
    replace hT := hid hT
    clear c5
    go_wp2_with fail
    clear x0 x1 x2 x3 x4 x5 x6 x7 hc0 hf0
    generalize w1.setCell ⟨g, 0, none⟩ (.int .i64 (cnt - 1)) = w2 at *
    go_loopw [40] (fun i wr => ∃ (j : Nat) (c : Int), j ≤ v.n ∧ i = .int .i64 j ∧ 0 ≤ c ∧ c ≤ 200 ∧ Hid (fgL ks (cnt - 1) = fgL (ks.drop j) c) ∧ Hid (c = cnt - 1 - szL (ks.take j)) ∧ Hid (Blk wr g 3 [.int .i64 c]) ∧ Hid (w1.grownBy wr (some g))) (fun i _ => v.n - (intOf i).toNat)
    case atStart => exact ⟨0, cnt - 1, by omega, rfl, by omega, by omega, hid (by rw [List.drop_zero]), hid (by rw [List.take_zero, szL]; simp), HG2, HGr⟩
    case round =>
      clear HG2 HGr HX2 HX
      obtain ⟨j, c, hj, rfl, hc0, hc200, HZ, HCs, HC, HG⟩ := hrel
      by_cases hlt : j < v.n
      · obtain ⟨b, o, hAe, hbl, hp, hrow⟩ := HA0.out (by omega)
        have hrw := (hrow j hlt).block (HG.out.block b (by omega) (by intro e; injection e with e; exact hP b hp (by omega)))
        obtain ⟨y0, y1, y2, y3, y4, y5, y6, y7⟩ := hrw.cells8
        have hjk : j < ks.length := by omega
        have HTk := hid (szL_take ks j hjk)
        have hRk := (HK.out j hjk).step HG.out hP
        have HDr : Hid (fgL (ks.drop j) c = if (fgT ks[j] c).1 = true then fgL (ks.drop (j + 1)) (fgT ks[j] c).2 else (false, (fgT ks[j] c).2)) := hid (by rw [List.drop_eq_getElem_cons hjk, fgL])
        have HFs := hid (fg_sz ks[j] c)
        generalize hx : vs j = x at *
        have hbx := row_new wr 26 #[.int .i64 0, .int .u64 0, .int .u64 0, .int .u64 0, .int .u64 0, .slice none 0 0, .int .i64 0, .int .i64 0] x.cells.toArray
        have HX5 := hid (show Blk ((wr.alloc (.cells #[.int .i64 0, .int .u64 0, .int .u64 0, .int .u64 0, .int .u64 0, .slice none 0 0, .int .i64 0, .int .i64 0] 26)).setRow wr.heap.size x.cells.toArray) wr.heap.size 26 x.cells from setRow_heap _ _ _ _ _ (0, 0) (heap_alloc_new wr _))
        have HSz := hid (rx_size x)
        have HOne := hid (rx_one x)
        have HIH := hid (ih ks[j] (List.getElem_mem _) x _ g c P (hRk.keep hbx) hP (HC.out.keep hbx) hc0 hc200)
        have HG5 := hid (grown_trans HG.out (grown_of_below hbx (some g)))
        clear hRk hbx hrow hrw ih HK HA0 HC HG
        unfold RV.val at HIH
        rw [hAe]
        go_wp2_with (refine wpList_store_row rfl 26 _ _ rfl wr.heap.size x.cells.toArray ?_ ?_ 26 #[.int .i64 0, .int .u64 0, .int .u64 0, .int .u64 0, .int .u64 0, .slice none 0 0, .int .i64 0, .int .i64 0] (heap_alloc_new wr _) HSz.out ?_ HOne.out ?_; exact rfl; exact rfl; exact rfl; generalize (wr.alloc (.cells #[.int .i64 0, .int .u64 0, .int .u64 0, .int .u64 0, .int .u64 0, .slice none 0 0, .int .i64 0, .int .i64 0] 26)).setRow wr.heap.size x.cells.toArray = w5 at *; obtain ⟨x0, x1, x2, x3, x4, x5, x6, x7⟩ := Blk.cells8' HX5.out)
        refine HIH.out.mono ?_
        rintro e w6 ⟨rfl, hg6, c6, hC6, hc6⟩
        have HC6 := hid hC6
        have HG6 := hid (grown_trans HG5.out hg6)
        have HC7 := hid hc6
        clear x0 x1 x2 x3 x4 x5 x6 x7 y0 y1 y2 y3 y4 y5 y6 y7 hC6 hg6 HIH HG5 HX5 hc6
        obtain ⟨q, hq⟩ : ∃ q, q = fgT ks[j] c := ⟨_, rfl⟩
        rw [← hq] at HDr HC7 HFs ⊢
        clear hq
        obtain ⟨q1, q2⟩ := q
        simp only at HDr HC7 HFs ⊢
        cases q1
        · have HD2 : Hid (T = (false, q2)) := hid (by rw [hT.out, HZ.out, HDr.out]; rfl)
          clear HDr HC7 HFs HZ HCs HTk
          go_wp2
          go_ret
          exact ⟨by rw [HD2.out]; rfl, HFin.out _ HG6.out, c6, HC6.out, fun h => by rw [HD2.out] at h; cases h⟩
        · have HD2 : Hid (fgL ks (cnt - 1) = fgL (ks.drop (j + 1)) q2) := hid (by rw [HZ.out, HDr.out]; rfl)
          have hc7 := HC7.out rfl
          obtain ⟨hf1, hf2⟩ := HFs.out rfl
          have e62 : c6 = q2 := by rw [hf2, hc7]
          subst e62
          have HCs2 : Hid (c6 = cnt - 1 - szL (ks.take (j + 1))) := hid (by have h1 := HCs.out; have h2 := HTk.out; omega)
          have hc60 : 0 ≤ c6 := by omega
          have hc62 : c6 ≤ 200 := by omega
          clear HDr HC7 HFs HZ HCs HTk hf1 hf2 hc7
          go_wp2
          go_roundw
          case rel => exact ⟨j + 1, c6, by omega, by go_num, hc60, hc62, HD2, HCs2, HC6, HG6⟩
          case measure => simp [intOf]; omega
      · obtain rfl : j = v.n := by omega
        have hdk : ks.drop v.n = [] := List.drop_eq_nil_of_le (by omega)
        have htk : ks.take v.n = ks := List.take_of_length_le (by omega)
        rw [hdk, fgL] at HZ
        rw [htk] at HCs
        have HD2 : Hid (T = (true, c)) := hid (by rw [hT.out, HZ.out])
        clear HZ hdk htk
        go_wp2
        go_ret
        exact ⟨by rw [HD2.out]; rfl, HFin.out _ HG.out, c, HC.out, fun _ => by have h := HCs.out; omega⟩
end Go.Proofs.YtoiegkejkahfgaaDoor
