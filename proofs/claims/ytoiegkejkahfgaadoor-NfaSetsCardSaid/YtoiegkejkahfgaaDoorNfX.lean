/- nfa: the sets of the edges; a map of sets. -/
import Derived.Test.YtoiegkejkahfgaaDoorNfV
import Derived.Maps.OwnSet
import Derived.WideKeyPair
namespace Go.Proofs.YtoiegkejkahfgaaDoor
set_option linter.unusedSimpArgs false
set_option linter.unusedVariables false
open Go.RowKit
open Go.Maps (Keyed setOf)
open Go.WideMaps (ArrKey)
variable {w0 w w' W W' : World} {A : Option Addr} {c B bS : Nat} {E : EG} {en : Int} {k : WK}

def flatB (l : List BS) : List Value := l.flatMap setL
def setsE1 (l : List Ed) (out : List BS) : List BS := l.foldl (fun out e => if out.contains e.set || e.fr then out else out ++ [e.set]) out
def setsE (E : EG) (out : List BS) : List BS := E.foldl (fun out l => setsE1 l out) out
theorem setsE1_succ (l : List Ed) (out : List BS) {j : Nat} (h : j < l.length) : setsE1 (l.take (j + 1)) out = if (setsE1 (l.take j) out).contains (l[j]).set || (l[j]).fr then setsE1 (l.take j) out else setsE1 (l.take j) out ++ [(l[j]).set] := by
  unfold setsE1
  rw [List.take_succ_eq_append_getElem h, List.foldl_append]
  rfl
theorem setsE_succ (E : EG) (out : List BS) {j : Nat} (h : j < E.length) : setsE (E.take (j + 1)) out = setsE1 (E.getD j []) (setsE (E.take j) out) := by
  unfold setsE
  rw [List.take_succ_eq_append_getElem h, List.foldl_append, List.getD_eq_getElem?_getD, List.getElem?_eq_getElem h]
  rfl
theorem setsE1_le : ∀ (l : List Ed) (out : List BS), (setsE1 l out).length ≤ out.length + l.length := by
  intro l
  induction l with
  | nil => intro out; exact Nat.le_refl _
  | cons e l ih =>
    intro out
    have h := ih (if out.contains e.set || e.fr then out else out ++ [e.set])
    have e1 : setsE1 (e :: l) out = setsE1 l (if out.contains e.set || e.fr then out else out ++ [e.set]) := rfl
    rw [e1, List.length_cons]
    refine Nat.le_trans h ?_
    split
    · omega
    · rw [List.length_append, List.length_singleton]; omega
theorem setsE_le : ∀ (E : EG) (out : List BS), (∀ l ∈ E, l.length ≤ 100000) → (setsE E out).length ≤ out.length + E.length * 100000 := by
  intro E
  induction E with
  | nil => intro out _; simp [setsE]
  | cons l E ih =>
    intro out h
    have e1 : setsE (l :: E) out = setsE E (setsE1 l out) := rfl
    rw [e1, List.length_cons]
    have h1 := ih (setsE1 l out) (fun l hl => h l (List.mem_cons_of_mem _ hl))
    have h2 := setsE1_le l out
    have h3 := h l List.mem_cons_self
    omega
/-- What a set reads as, as a key. -/
def keyL (s : BS) : Lit := .string (keyBytes [.int .u64 ((wd s 0 : Nat) : Int), .int .u64 ((wd s 1 : Nat) : Int), .int .u64 ((wd s 2 : Nat) : Int), .int .u64 ((wd s 3 : Nat) : Int)])
theorem arr_set : ArrKey Tryd.prog 43 22 4 := ⟨Tryd.underlying43, by kernel_rfl, by kernel_rfl, by kernel_rfl⟩
theorem key_set : Keyed Tryd.prog 43 := Keyed.of_law arr_set.law
theorem wf_wd (s : BS) (i : Nat) : (Lit.int .u64 ((wd s i : Nat) : Int)).wf = true := by
  have := wd_lt s i
  have h0 : IntKind.u64.min = 0 := by kernel_rfl
  have h1 : IntKind.u64.max = 18446744073709551615 := by kernel_rfl
  simp [Lit.wf, h0, h1]
  omega
theorem keyOf_set (s : BS) : keyOf Tryd.prog 43 (setV s) = some (keyL s) := by
  have hsz : ∃ m, Tryd.prog.types.size = m + 1 := ⟨Tryd.prog.types.size - 1, by kernel_rfl⟩
  have hkt := arr_set.keyType hsz
  obtain ⟨m, hm⟩ := hsz
  have w0 := wf_wd s 0
  have w1 := wf_wd s 1
  have w2 := wf_wd s 2
  have w3 := wf_wd s 3
  unfold keyOf setV keyL
  simp only [arr_set.hu]
  rw [if_pos (by simp [hkt, Value.formed, arr_set.hu, arr_set.size]), hm]
  unfold Program.keyLits
  simp only [arr_set.hu, Value.cells]
  rw [if_pos (by rw [arr_set.size]; rfl), show List.range 4 = [0, 1, 2, 3] from rfl, List.mapM_cons, List.mapM_cons, List.mapM_cons, List.mapM_cons, List.mapM_nil]
  simp [arr_set.one, Program.keyLits, Tryd.underlying22, w0, w1, w2, w3]
theorem setV_inj {a b : BS} (h : setV a = setV b) : a = b := by
  unfold setV at h
  injection h with h
  have h := congrArg Array.toList h
  simp only [List.cons.injEq, and_true] at h
  obtain ⟨h0, h1, h2, h3⟩ := h
  injection h0 with _ h0
  injection h1 with _ h1
  injection h2 with _ h2
  injection h3 with _ h3
  exact bs_ext (by omega) (by omega) (by omega) (by omega)
theorem keyL_inj {a b : BS} (h : keyL a = keyL b) : a = b := setV_inj (key_set.inj (keyOf_set a) (by rw [keyOf_set b, h]))
theorem has_out {H : Type} (u : DataW H) (out : List BS) (s : BS) : Maps.has (setOf u (out.map keyL)) (keyL s) = out.contains s := by
  rw [Maps.has_setOf u (keyL s) (out.map keyL) (fun x hx => by
    obtain ⟨y, _, rfl⟩ := List.mem_map.1 hx
    exact key_set.key (keyOf_set y))]
  induction out with
  | nil => rfl
  | cons a l ih =>
    rw [List.map_cons, List.any_cons, ih, List.contains_cons]
    refine congrArg (· || _) ?_
    by_cases hs : s = a
    · rw [hs, beq_self_eq_true]
      exact WideAt.sameKey_self (key_set.key (keyOf_set a))
    · rw [beq_eq_false_iff_ne.2 hs]
      cases hk : (keyL a).sameKey (keyL s) with
      | false => rfl
      | true => exact absurd (keyL_inj (WideAt.sameKey_eq hk)).symm hs
/-- What Sets has of it behind some rounds. -/
structure StR (w1 : World) (m : Nat) (out : List BS) (u : Value) (wr : World) : Prop where
  bel : Below w1.heap.size w1 wr
  hm : w1.heap.size ≤ m
  mp : wr.ownsMap Tryd.prog 43 (unitElem (H := TypeId × Value)) m out.length (setOf (.agg []) (out.map keyL))
  row : wr.ownsRow w1.heap.size 43 4 u out.length (flatB out)
theorem StR.keep {m : Nat} {out : List BS} {u : Value} {w1 wr wr' : World} (h : StR w1 m out u wr) (hb : Below wr.heap.size wr wr') : StR w1 m out u wr' :=
  ⟨h.bel.trans (hb.mono h.bel.size), h.hm, by
    obtain ⟨es, clock, hq, r⟩ := h.mp
    exact ⟨es, clock, (hb.block m h.mp.lt).trans hq, r⟩, owns_chg h.row (Chg.of_below hb (fun _ => False)) (fun _ _ h => h)⟩
theorem StR.shape {m : Nat} {out : List BS} {u : Value} {w1 wr : World} (h : StR w1 m out u wr) : ∃ A c, u = .slice A out.length c := own_shapeN h.row
/-- The row's block is no map. -/
theorem StR.ne {m : Nat} {out : List BS} {u : Value} {w1 wr : World} (h : StR w1 m out u wr) : u.ownBlock ≠ some m := by
  intro e
  obtain ⟨es, clock, hq, _⟩ := h.mp
  rcases h.row.2 with ⟨rfl, _⟩ | ⟨g, cap, cur, rfl, _, hg, _⟩
  · cases e
  · injection e with e
    subst e
    rw [hq] at hg
    cases hg
/-- One more set: stored in the map, then appended. -/
theorem StR.add {m : Nat} {out : List BS} {u u' : Value} {w1 wr w2 w3 : World} {s : BS} (h : StR w1 m out u wr) (hg : wr.grownBy w2 (some m)) (hmp : w2.ownsMap Tryd.prog 43 (unitElem (H := TypeId × Value)) m (out.length + 1) ((setOf (.agg []) (out.map keyL)).put (keyL s) (.agg []))) (hb : Below w2.heap.size w2 w3) {w4 : World} (hg4 : w3.grownBy w4 u.ownBlock) (hrow : w4.ownsRow w1.heap.size 43 4 u' (out.length + 1) (flatB out ++ setL s)) : StR w1 m (out ++ [s]) u' w4 := by
  have hb2 : Below w1.heap.size w1 w2 := Chg.below h.bel (Chg.of_grown hg) h.bel.size (fun q hq => by injection hq with hq; rw [← hq]; exact h.hm)
  have hb3 : Below w1.heap.size w1 w3 := hb2.trans (hb.mono hb2.size)
  have hr3 : w3.ownsRow w1.heap.size 43 4 u out.length (flatB out) := owns_chg (owns_chg h.row (Chg.of_grown hg) (fun q hq e => h.ne (by rw [hq, ← e]))) (Chg.of_below hb (fun _ => False)) (fun _ _ h => h)
  refine ⟨Chg.below hb3 (Chg.of_grown hg4) hb3.size (fun q hq => (own_blockN hr3 q hq).1), h.hm, ?_, ?_⟩
  · rw [List.map_append, List.map_singleton, Maps.setOf_snoc, List.length_append, List.length_singleton]
    obtain ⟨es, clock, hq, r⟩ := hmp
    have hlt : m < w2.heap.size := (Array.getElem?_eq_some_iff.1 hq).1
    have hlt3 : m < w3.heap.size := Nat.lt_of_lt_of_le hlt hb.size
    exact ⟨es, clock, (hg4.block m hlt3 (fun e => h.ne e.symm)).trans ((hb.block m hlt).trans hq), r⟩
  · rw [List.length_append, List.length_singleton, show flatB (out ++ [s]) = flatB out ++ setL s by simp [flatB]]
    exact hrow
end Go.Proofs.YtoiegkejkahfgaaDoor

/- nfa: Sets. -/
namespace Go.Proofs.YtoiegkejkahfgaaDoor
set_option linter.unusedSimpArgs false
set_option linter.unusedVariables false
open Go.RowKit
open Go.Maps (Keyed setOf)
variable {w0 w w' W W' : World} {A : Option Addr} {c B bS : Nat} {E : EG} {en : Int} {k : WK}

theorem info_setN : (Tryd.prog.info? 43).map (fun i => (i.zero, i.size, i.bytes)) = some (some (.agg #[.int .u64 0, .int .u64 0, .int .u64 0, .int .u64 0]), 4, 32) := by kernel_rfl
theorem zero_unit (w : World) : (zeroValue 69).run Tryd.prog w = .ok (.agg #[]) w := by kernel_rfl
theorem set_row (W : World) (s : BS) : ∀ j u, (setL s)[j]? = some u → (W.alloc (.cells (setL s).toArray 43)).cell? ((⟨W.heap.size, 0, none⟩ : Addr).add j) = some u := by
  intro j u hj
  rw [addr_add, Nat.zero_add]
  exact (Blk.at (Blk.fresh W 43 (setL s)) j).trans hj
theorem StR.row3 {m : Nat} {out : List BS} {u : Value} {w1 wr w2 w3 : World} (h : StR w1 m out u wr) (hg : wr.grownBy w2 (some m)) (hb : Below w2.heap.size w2 w3) : w3.ownsRow w1.heap.size 43 4 u out.length (flatB out) :=
  owns_chg (owns_chg h.row (Chg.of_grown hg) (fun q hq e => h.ne (by rw [hq, ← e]))) (Chg.of_below hb (fun _ => False)) (fun _ _ h => h)
theorem set_ones (s : BS) : ∀ u ∈ setL s, u.oneCell' = true := by
  intro u hu
  simp only [setL, four, List.mem_cons, List.not_mem_nil, or_false] at hu
  rcases hu with rfl | rfl | rfl | rfl <;> rfl
set_option maxRecDepth 100000 in
set_option maxHeartbeats 4000000 in
theorem sets_any (h : AuV w A c E) (hE : E.length ≤ 5000) (hE2 : ∀ s, (E.getD s []).length ≤ 100000) : Calls Tryd.prog 10 #[.agg #[.slice A E.length c, .int .i64 en]] w fun e w' => ∃ A' c', e = .returned (.slice A' (setsE E []).length c') ∧ w'.ownsRow w.heap.size 43 4 (.slice A' (setsE E []).length c') (setsE E []).length (flatB (setsE E [])) ∧ Below w.heap.size w w' := by
  have hal := al_belowN w (.cells #[.slice A E.length c, .int .i64 en] 33)
  have hb0 : Blk (w.alloc (.cells #[.slice A E.length c, .int .i64 en] 33)) w.heap.size 33 [.slice A E.length c, .int .i64 en] := Blk.fresh w _ _
  have HB0 := hid hb0
  have HB := hid hal
  have HV := hid (h.keep hal)
  have HE2 := hid hE2
  have HV0 := hid (fun hp => au_row (E := E) h hp)
  clear h hb0 hal hE2
  go_enter Tryd.func10, Tryd.ntmps10
  go_upto_region 1 with fail
  change Code.wp _ _ _ _ (w.alloc (.cells #[.slice A E.length c, .int .i64 en] 33))
  generalize w.alloc (.cells #[.slice A E.length c, .int .i64 en] 33) = w1 at *
  have hmk : (Instr.makeMap 68 none).run Tryd.prog w1 = .ok (.map (some w1.heap.size)) (w1.alloc (.map #[] 0)) := rfl
  go_upto_region 3 with fail
  have hmb := al_belowN w1 (.map #[] 0)
  have HS1 := hid (show StR w1 w1.heap.size [] (.slice none 0 0) (w1.alloc (.map #[] 0)) from ⟨hmb, Nat.le_refl _, World.ownsMap_made w1 _ _ _, ⟨rfl, .inl ⟨rfl, rfl⟩⟩⟩)
  clear hmk hmb
  have hmw : w1.heap.size = w1.heap.size := rfl
  obtain ⟨m, hm⟩ : ∃ m, m = w1.heap.size := ⟨_, rfl⟩
  rw [← hm] at HS1 ⊢
  have HM := hid hm
  clear hm hmw
  generalize (w1.alloc (.map #[] 0)) = w2 at *
  have k0 := (HB0.out.keep HS1.out.bel).at 0
  have k1 := (HB0.out.keep HS1.out.bel).at 1
  simp only [List.getElem?_cons_zero, List.getElem?_cons_succ] at k0 k1
  go_wp2
  go_loopw [3, 15] (fun u i wr => ∃ j : Nat, j ≤ E.length ∧ i = .int .i64 (j : Int) ∧ Hid (StR w1 m (setsE (E.take j) []) u wr)) (fun _ i _ => E.length - (intOf i).toNat)
  case atStart => exact ⟨0, Nat.zero_le _, rfl, by rw [List.take_zero]; exact HS1⟩
  case round =>
    clear HS1 k0 k1
    obtain ⟨j, hj, rfl, HW⟩ := hrel
    by_cases hlt : j < E.length
    · have p3 : (j : Int) < (E.length : Int) := by omega
      obtain ⟨gA, rfl⟩ := HV0.out (by omega)
      obtain ⟨kA, kc, hlat⟩ := au_later HV.out rfl hlt
      have HES := hid hlat
      obtain ⟨hrow, _⟩ := HES.out _ HW.out.bel
      have HT := hid (setsE_succ E [] hlt)
      have hed := HE2.out j
      have hob : (setsE (E.take j) []).length ≤ 500000000 := by
        have h1 := setsE_le (E.take j) [] (fun l hl => by
          obtain ⟨q, hq, rfl⟩ := List.mem_iff_getElem.1 (List.mem_of_mem_take hl)
          have := HE2.out q
          rw [List.getD_eq_getElem?_getD, List.getElem?_eq_getElem hq] at this
          exact this)
        rw [List.length_take, List.length_nil] at h1
        omega
      clear hlat HV HV0 HE2 HB0 HB
      generalize E.getD j [] = es at *
      generalize setsE (E.take j) [] = out0 at *
      go_wp2
      go_loopw [3, 21] (fun u i wr => ∃ jj : Nat, jj ≤ es.length ∧ i = .int .i64 (jj : Int) ∧ Hid (StR w1 m (setsE1 (es.take jj) out0) u wr)) (fun _ i _ => es.length - (intOf i).toNat)
      case atStart => exact ⟨0, Nat.zero_le _, rfl, by rw [List.take_zero]; exact HW⟩
      case round =>
        clear HW hrow
        obtain ⟨jj, hjj, rfl, HW⟩ := hrel
        by_cases hlt2 : jj < es.length
        · obtain ⟨kb, rfl, hcc⟩ := (HES.out _ HW.out.bel).2 jj hlt2
          obtain ⟨y0, y1, y2, y3, y4, y5⟩ := ed_cells hcc
          have p4 : (jj : Int) < (es.length : Int) := by omega
          have HT2 := hid (setsE1_succ es out0 hlt2)
          have hob2 : (setsE1 (es.take jj) out0).length ≤ 600000000 := by
            have := setsE1_le (es.take jj) out0
            rw [List.length_take] at this
            omega
          have hbx := row_new wr 63 #[.int .i64 0, .int .u64 0, .int .u64 0, .int .u64 0, .int .u64 0, .bool false] (es[jj]).cells.toArray
          have HX := hid (show Blk ((wr.alloc (.cells #[.int .i64 0, .int .u64 0, .int .u64 0, .int .u64 0, .int .u64 0, .bool false] 63)).setRow wr.heap.size (es[jj]).cells.toArray) wr.heap.size 63 (es[jj]).cells from setRow_heap _ _ _ _ _ (0, 0) (heap_alloc_new wr _))
          have HW6 := hid (HW.out.keep hbx)
          have HSz := hid (ed_size es[jj])
          have HOn := hid (ed_one es[jj])
          have hmlt := HW.out.mp.lt
          clear hbx hcc HES HW
          generalize es[jj] = e at *
          generalize setsE1 (es.take jj) out0 = Q at *
          cases hct : Q.contains e.set with
          | true =>
            rw [hct, Bool.true_or, if_pos rfl] at HT2
            have hfr : e.fr = e.fr := rfl
            go_upto_region 10 with (first
              | (refine wpList_store_row rfl 63 _ _ rfl wr.heap.size e.cells.toArray ?_ ?_ 63 #[.int .i64 0, .int .u64 0, .int .u64 0, .int .u64 0, .int .u64 0, .bool false] (heap_alloc_new wr _) HSz.out ?_ HOn.out ?_; exact rfl; (show _ = Value.agg _; rw [← hfr]; exact rfl); exact rfl; generalize (wr.alloc (.cells #[.int .i64 0, .int .u64 0, .int .u64 0, .int .u64 0, .int .u64 0, .bool false] 63)).setRow wr.heap.size e.cells.toArray = w6 at *; obtain ⟨z0, z1, z2, z3, z4, z5⟩ := ed_cells6 HX.out; rw [hfr] at z5; clear y0 y1 y2 y3 y4 y5)
              | (at_lookup; refine wpList_lookup_own_unit _ rfl _ _ 68 rfl 43 69 key_set Tryd.underlying68 (zero_unit _) m _ _ rfl HW6.out.mp _ (keyL e.set) rfl (keyOf_set e.set) ?_; rw [has_out, hct]))
            have HW7 := hid (HW6.out.keep (al_belowN w6 (.cells #[] 69)))
            have HX7 := hid (HX.out.keep (al_belowN w6 (.cells #[] 69)))
            clear z0 z1 z2 z3 z4 z5 HW6
            generalize w6.alloc (.cells #[] 69) = w7 at *
            obtain ⟨z0, z1, z2, z3, z4, z5⟩ := ed_cells6 HX7.out
            go_wp2
            go_roundw
            case rel => exact ⟨jj + 1, by omega, by go_num, by rw [HT2.out]; exact HW7⟩
            case measure => simp [intOf]; omega
          | false =>
            rw [hct, Bool.false_or] at HT2
            cases hfr : e.fr with
            | true =>
              rw [hfr, if_pos rfl] at HT2
              rw [hfr] at y5
              go_upto_region 10 with (first
                | (refine wpList_store_row rfl 63 _ _ rfl wr.heap.size e.cells.toArray ?_ ?_ 63 #[.int .i64 0, .int .u64 0, .int .u64 0, .int .u64 0, .int .u64 0, .bool false] (heap_alloc_new wr _) HSz.out ?_ HOn.out ?_; exact rfl; (show _ = Value.agg _; rw [← hfr]; exact rfl); exact rfl; generalize (wr.alloc (.cells #[.int .i64 0, .int .u64 0, .int .u64 0, .int .u64 0, .int .u64 0, .bool false] 63)).setRow wr.heap.size e.cells.toArray = w6 at *; obtain ⟨z0, z1, z2, z3, z4, z5⟩ := ed_cells6 HX.out; rw [hfr] at z5; clear y0 y1 y2 y3 y4 y5)
                | (at_lookup; refine wpList_lookup_own_unit _ rfl _ _ 68 rfl 43 69 key_set Tryd.underlying68 (zero_unit _) m _ _ rfl HW6.out.mp _ (keyL e.set) rfl (keyOf_set e.set) ?_; rw [has_out, hct]))
              have HW7 := hid (HW6.out.keep (al_belowN w6 (.cells #[] 69)))
              have HX7 := hid (HX.out.keep (al_belowN w6 (.cells #[] 69)))
              clear z0 z1 z2 z3 z4 z5 HW6
              generalize w6.alloc (.cells #[] 69) = w7 at *
              obtain ⟨z0, z1, z2, z3, z4, z5⟩ := ed_cells6 HX7.out
              rw [hfr] at z5
              go_wp2
              go_roundw
              case rel => exact ⟨jj + 1, by omega, by go_num, by rw [HT2.out]; exact HW7⟩
              case measure => simp [intOf]; omega
            | false =>
              rw [hfr, if_neg (by decide)] at HT2
              rw [hfr] at y5
              go_upto_region 10 with (first
                | (refine wpList_store_row rfl 63 _ _ rfl wr.heap.size e.cells.toArray ?_ ?_ 63 #[.int .i64 0, .int .u64 0, .int .u64 0, .int .u64 0, .int .u64 0, .bool false] (heap_alloc_new wr _) HSz.out ?_ HOn.out ?_; exact rfl; (show _ = Value.agg _; rw [← hfr]; exact rfl); exact rfl; generalize (wr.alloc (.cells #[.int .i64 0, .int .u64 0, .int .u64 0, .int .u64 0, .int .u64 0, .bool false] 63)).setRow wr.heap.size e.cells.toArray = w6 at *; obtain ⟨z0, z1, z2, z3, z4, z5⟩ := ed_cells6 HX.out; rw [hfr] at z5; clear y0 y1 y2 y3 y4 y5)
                | (at_lookup; refine wpList_lookup_own_unit _ rfl _ _ 68 rfl 43 69 key_set Tryd.underlying68 (zero_unit _) m _ _ rfl HW6.out.mp _ (keyL e.set) rfl (keyOf_set e.set) ?_; rw [has_out, hct]))
              have HW7 := hid (HW6.out.keep (al_belowN w6 (.cells #[] 69)))
              have HX7 := hid (HX.out.keep (al_belowN w6 (.cells #[] 69)))
              clear z0 z1 z2 z3 z4 z5 HW6
              generalize w6.alloc (.cells #[] 69) = w7 at *
              obtain ⟨z0, z1, z2, z3, z4, z5⟩ := ed_cells6 HX7.out
              rw [hfr] at z5
              have HMP := hid HW7.out.mp
              have hml := HW7.out.mp.lt
              go_upto_region 12 with (at_mapUpdate; refine wpList_mapUpdate_own _ rfl _ _ _ 68 rfl 43 69 key_set Tryd.underlying68 _ m _ _ rfl HMP.out (by unfold maxLen; omega) _ _ (keyL e.set) rfl rfl (keyOf_set e.set) (.agg []) [] unitElem_mk ?_; intro w8 hown8 hgrow8)
              have HX8 := hid (show Blk w8 wr.heap.size 63 e.cells from (hgrow8.block wr.heap.size HX7.out.lt (fun e => by injection e with e; omega)).trans HX7.out)
              clear z0 z1 z2 z3 z4 z5
              obtain ⟨z0, z1, z2, z3, z4, z5⟩ := ed_cells6 HX8.out
              obtain ⟨A7, c7, rfl⟩ := HW7.out.shape
              have hb8 := al_belowN w8 (.cells (setL e.set).toArray 43)
              have HO8 := hid (HW7.out.row3 hgrow8 hb8)
              have HAdd := hid (fun (u' : Value) (w4 : World) (hg4 : (w8.alloc (.cells (setL e.set).toArray 43)).grownBy w4 (Value.slice A7 Q.length c7).ownBlock) (hrow : w4.ownsRow w1.heap.size 43 4 u' (Q.length + 1) (flatB Q ++ setL e.set)) => HW7.out.add hgrow8 hown8 hb8 hg4 hrow)
              have HN := hid (set_row w8 e.set)
              have hsz := HW7.out.bel.size
              have hsz8 := hgrow8.size
              obtain ⟨i0, hi0, hz0, hz1, hz2⟩ := info_parts info_setN
              clear HX7 HX8 HX hown8 hgrow8 hb8 HMP hml HW7 hct
              generalize hm9 : Q.length = q9 at *
              go_wp2_with (refine wpList_append_own_at _ rfl _ _ 40 rfl w1.heap.size 43 i0 _ 4 32 Tryd.underlying40 hi0 hz0 hz1 hz2 rfl (by decide) _ _ _ rfl HO8.out ⟨w8.heap.size, 0, none⟩ 1 1 (setL e.set) rfl rfl HN.out (set_ones e.set) (by unfold maxLen; omega) (by omega) (by simp; omega) ?_; intro u7 w9 hown9 hgrow9 _ _)
              go_roundw
              case rel => exact ⟨jj + 1, by omega, by go_num, by rw [HT2.out]; exact hid (HAdd.out _ _ hgrow9 hown9)⟩
              case measure => simp [intOf]; omega
        · obtain rfl : jj = es.length := by omega
          rw [List.take_length] at HW
          go_wp2
          go_roundw
          case rel => exact ⟨j + 1, by omega, by go_num, by rw [HT.out]; exact HW⟩
          case measure => simp [intOf]; omega
    · obtain rfl : j = E.length := by omega
      rw [List.take_length] at HW
      obtain ⟨A7, c7, rfl⟩ := HW.out.shape
      have HB2 := hid (HB.out.trans (HW.out.bel.mono HB.out.size))
      clear HV HV0 HE2 HB0
      go_wp2
      go_ret
      exact ⟨A7, c7, rfl, own_base HW.out.row HB.out.size, HB2.out⟩
end Go.Proofs.YtoiegkejkahfgaaDoor
