/- code: CodeMakes. -/
import Derived.Test.YtpbkdokhlimpfaaDoorCeJ
import Derived.Test.YtpbkdokhlimpfaaDoorWCdC
import Derived.Deep.CutBlock
import Derived.Deep.CutRange
namespace Go.Proofs.YtpbkdokhlimpfaaDoor
set_option linter.unusedSimpArgs false
set_option linter.unusedVariables false
open Go.RowKit Go.Sort

theorem wpList_wanted {P : Program} {ops : Array Oper} {Q : Exit → Act → World → Prop} {a : Act} {w : World} {rest : List Oper} {o : Oper} (hw : Region.wanted o (yielded ops a.tmps) = true)
    (h : ∀ K : Act → World → Prop, (∀ a w, wpList P ops Q rest a w → K a w) → o.wp P a w K Q) : wpList P ops Q (o :: rest) a w :=
  wpList_step fun K hK => by simp only [hw, if_true]; exact h K hK
/-- A step is loaded whole, where its guard has come out. -/
theorem wpList_load_step {ops : Array Oper} {Q : Exit → Act → World → Prop} {a : Act} {w : World} {rest : List Oper} {o : Oper} {b q : Nat} {cs : List Value} (p : Operand) (ho : o.op = .load 37 p) (hr : w.rangeAt b q cs) (hs : (Tryd.prog.info? 37).map (·.size) = some cs.length)
    (hw : Region.wanted o (yielded ops a.tmps) = true) (hx : a.eval p = .pointer (some ⟨b, q, none⟩)) (h : wpList Tryd.prog ops Q rest (a.put o.dst (.agg cs.toArray)) w) : wpList Tryd.prog ops Q (o :: rest) a w :=
  wpList_wanted hw fun _ hK => wp_load_mid 37 p ho b q hx cs _ hr Tryd.underlying37 rfl hs (hK _ _ h)
theorem MkQ.new {w w4 : World} {p : PT} (hb : Below w.heap.size w w4) (hx : BoxP w4 w.heap.size p) : MkQ w (w4.alloc (.cells #[.slice none 0 0, .int .i64 0, .int .i64 0, .int .i64 0, .bool false] 32)) w.heap.size w4.heap.size p 0 0 0 0 :=
  ⟨⟨[], SV.nil, MkB.new hb (fun b hb => by have := Blk.lt hx; have hb : b = w.heap.size := hb; omega), by simp⟩, Blk.keep hx ((Below.refl _ _).alloc (Nat.le_refl _) _)⟩
theorem own_nums {w : World} {base : Nat} {p : PT} {qs : List ST} {qA : Option Addr} {qn qc : Nat} {ql qu qa : Int} (h : (⟨qs, ⟨qA, qn, qc⟩, ql, qu, qa⟩ : PT).bare = p.bare) (ho : POwn w base ⟨qs, ⟨qA, qn, qc⟩, ql, qu, qa⟩) (hn : p.S.n = p.ss.length) : qn = p.S.n ∧ ql = p.sl ∧ qu = p.su ∧ qa = p.au := by
  have hl : qs.length = p.ss.length := bare_len h
  have hq : qn = qs.length := owns_n ho.row
  exact ⟨by omega, congrArg PT.sl h, congrArg PT.su h, congrArg PT.au h⟩
theorem lineS_len (i : Int) (x : ST) (hi : I64 i) (hx : StNum x) (hw : x.ws.length ≤ 300) : (lineS i x).data.toList.length ≤ 21000000 := by
  have h := join_len [32] (by decide) ((lineW i x).map (·.data.toList)) 21 (fun s hs => by
    obtain ⟨t, ht, rfl⟩ := List.mem_map.1 hs
    exact lineW_len i x hi hx t ht)
  have hl : (lineW i x).length = 4 + x.ws.length * 3 := by
    unfold lineW
    rw [List.length_append, flat3_len]
    rfl
  rw [List.length_map, hl] at h
  have h2 : (lineS i x).data.toList.length = (Lib.join ((lineW i x).map (·.data.toList)) [32]).length := rfl
  omega
theorem linesS_len {l : List ST} (hl : l.length ≤ 200) (hx : ∀ x ∈ l, StNum x) (hw : ∀ x ∈ l, x.ws.length ≤ 300) : (linesS l).length ≤ 4000000 ∧ ∀ s ∈ linesS l, s.data.toList.length ≤ 21000000 := by
  refine ⟨by unfold linesS; rw [List.length_mapIdx]; omega, fun s hs => ?_⟩
  obtain ⟨j, hj, rfl⟩ := List.mem_iff_getElem.1 hs
  have hj2 : j < l.length := by unfold linesS at hj; rwa [List.length_mapIdx] at hj
  have he : (linesS l)[j] = lineS (j : Int) l[j] := by simp only [linesS, List.getElem_mapIdx]
  rw [he]
  exact lineS_len _ _ (by unfold I64; omega) (hx _ (List.getElem_mem hj2)) (hw _ (List.getElem_mem hj2))
/-- Two boxes: a program's, a fault's. -/
theorem two_box (w : World) (p : PT) (c d : Int) : Below w.heap.size w ((w.alloc (.cells p.cells.toArray 24)).alloc (.cells #[.int .i64 c, .int .i64 d] 29)) ∧ BoxP ((w.alloc (.cells p.cells.toArray 24)).alloc (.cells #[.int .i64 c, .int .i64 d] 29)) w.heap.size p ∧ Blk ((w.alloc (.cells p.cells.toArray 24)).alloc (.cells #[.int .i64 c, .int .i64 d] 29)) (w.heap.size + 1) 29 [.int .i64 c, .int .i64 d] := by
  refine ⟨((Below.refl w.heap.size w).alloc (Nat.le_refl _) _).alloc (by simp) _, Blk.alloc (heap_alloc_new w _) _, ?_⟩
  have := heap_alloc_new (w.alloc (.cells p.cells.toArray 24)) (.cells #[.int .i64 c, .int .i64 d] 29)
  rw [World.size_alloc] at this
  exact this
theorem one_flt (w : World) (c d : Int) : Below w.heap.size w (w.alloc (.cells #[.int .i64 c, .int .i64 d] 29)) ∧ Blk (w.alloc (.cells #[.int .i64 c, .int .i64 d] 29)) w.heap.size 29 [.int .i64 c, .int .i64 d] := ⟨(Below.refl _ _).alloc (Nat.le_refl _) _, heap_alloc_new w _⟩
set_option maxRecDepth 100000 in
set_option maxHeartbeats 16000000 in
theorem makes_walk (p : PT) (w : World) {P : Nat → Prop} (hP : PtOk w P p) (hn : p.S.n ≤ 9223372036854775807) (hx : ∀ x ∈ p.ss, StNum x) (ht : Tab10 w) : Calls Tryd.prog 4 #[p.val] w fun e w' => e = .returned (.bool true) ∧ Below w.heap.size w w' := by
  obtain ⟨RR, hRR⟩ : ∃ RR : Ending → World → Prop, RR = fun e w' => e = .returned (.bool true) ∧ Below w.heap.size w w' := ⟨_, rfl⟩
  rw [← hRR]
  have HRR := hid hRR
  obtain ⟨hb, h1⟩ := box_prog w p
  obtain ⟨A, hA⟩ : ∃ A, A = p.S.A := ⟨_, rfl⟩
  have hpc : p.cells.toArray = #[.slice A p.S.n p.S.c, .int .i64 p.sl, .int .i64 p.su, .int .i64 p.au] := by rw [hA]; rfl
  have hv : p.val = .agg #[.slice A p.S.n p.S.c, .int .i64 p.sl, .int .i64 p.su, .int .i64 p.au] := by rw [hA]; rfl
  have HA := hid hA
  have HV := hid hv
  rw [hpc] at hb h1
  have HB := hid hb
  have HX := hid h1
  have HNum := hid hx
  have HT0 := hid ht
  have HBu := hid (builds_any _ (Tab10.keep ht hb))
  have HSm := hid (fun W (hW : Below w.heap.size w W) => small_any' p W (hP.mono (fun b _ hl => hW.block b hl) hW.size (fun _ h _ => h)) hn)
  have HP := hid (fun W (hW : Below w.heap.size w W) => (hP.mono (Q := P) (fun b _ hl => hW.block b hl) hW.size (fun _ h _ => h)))
  have HNe := hid hP.n
  simp only [hv] at HSm
  rw [hv]
  clear hRR hb h1 hpc hP ht hA hv hx
  go_enter Tryd.func4, Tryd.ntmps4
  have HNl := hid (show (ByteArray.mk #[10]).data.toList.length ≤ 1 from by decide)
  generalize (ByteArray.mk #[10]) = C10 at *
  go_upto_region 1 with (fail)
  generalize w.alloc (.cells #[.slice A p.S.n p.S.c, .int .i64 p.sl, .int .i64 p.su, .int .i64 p.au] 24) = w1 at *
  go_upto_region 3 with (go_at_call 7; (with_reducible refine HBu.out.mono ?_); rintro e w2 ⟨rfl, hb2⟩; have HB2 := hid hb2; clear hb2)
  have HB3 := hid (HB.out.trans (HB2.out.mono HB.out.size))
  obtain ⟨x0, x1, x2, x3⟩ := BoxP.four (p := p) (Blk.keep HX.out HB2.out)
  rw [← HA.out] at x0
  have HSm2 := hid (HSm.out w2 HB3.out)
  obtain ⟨sm, hsm⟩ : ∃ sm, sm = smS p := ⟨_, rfl⟩
  rw [← hsm] at HSm2
  have HSe := hid hsm
  clear hsm HSm HBu
  cases sm
  · go_wp2_with (go_at_call 8; (with_reducible refine HSm2.out.mono ?_); rintro e w3 ⟨rfl, hb3⟩; have HB4 := hid hb3; clear hb3 x0 x1 x2 x3; obtain ⟨x0, x1, x2, x3⟩ := BoxP.four (p := p) (Blk.keep (Blk.keep HX.out HB2.out) HB4.out))
    show RR (.returned (.bool true)) w3
    rw [HRR.out]
    exact ⟨rfl, HB3.out.trans (HB4.out.mono HB3.out.size)⟩
  by_cases hl0 : p.sl < 0
  · go_wp2_with (go_at_call 8; (with_reducible refine HSm2.out.mono ?_); rintro e w3 ⟨rfl, hb3⟩; have HB4 := hid hb3; clear hb3 x0 x1 x2 x3; obtain ⟨x0, x1, x2, x3⟩ := BoxP.four (p := p) (Blk.keep (Blk.keep HX.out HB2.out) HB4.out))
    show RR (.returned (.bool true)) w3
    rw [HRR.out]
    exact ⟨rfl, HB3.out.trans (HB4.out.mono HB3.out.size)⟩
  by_cases hl1 : 100 < p.sl
  · go_wp2_with (go_at_call 8; (with_reducible refine HSm2.out.mono ?_); rintro e w3 ⟨rfl, hb3⟩; have HB4 := hid hb3; clear hb3 x0 x1 x2 x3; obtain ⟨x0, x1, x2, x3⟩ := BoxP.four (p := p) (Blk.keep (Blk.keep HX.out HB2.out) HB4.out))
    show RR (.returned (.bool true)) w3
    rw [HRR.out]
    exact ⟨rfl, HB3.out.trans (HB4.out.mono HB3.out.size)⟩
  by_cases hu0 : p.su < 0
  · go_wp2_with (go_at_call 8; (with_reducible refine HSm2.out.mono ?_); rintro e w3 ⟨rfl, hb3⟩; have HB4 := hid hb3; clear hb3 x0 x1 x2 x3; obtain ⟨x0, x1, x2, x3⟩ := BoxP.four (p := p) (Blk.keep (Blk.keep HX.out HB2.out) HB4.out))
    show RR (.returned (.bool true)) w3
    rw [HRR.out]
    exact ⟨rfl, HB3.out.trans (HB4.out.mono HB3.out.size)⟩
  by_cases hu1 : 100 < p.su
  · go_wp2_with (go_at_call 8; (with_reducible refine HSm2.out.mono ?_); rintro e w3 ⟨rfl, hb3⟩; have HB4 := hid hb3; clear hb3 x0 x1 x2 x3; obtain ⟨x0, x1, x2, x3⟩ := BoxP.four (p := p) (Blk.keep (Blk.keep HX.out HB2.out) HB4.out))
    show RR (.returned (.bool true)) w3
    rw [HRR.out]
    exact ⟨rfl, HB3.out.trans (HB4.out.mono HB3.out.size)⟩
  by_cases ha0 : p.au < 0
  · go_wp2_with (go_at_call 8; (with_reducible refine HSm2.out.mono ?_); rintro e w3 ⟨rfl, hb3⟩; have HB4 := hid hb3; clear hb3 x0 x1 x2 x3; obtain ⟨x0, x1, x2, x3⟩ := BoxP.four (p := p) (Blk.keep (Blk.keep HX.out HB2.out) HB4.out))
    show RR (.returned (.bool true)) w3
    rw [HRR.out]
    exact ⟨rfl, HB3.out.trans (HB4.out.mono HB3.out.size)⟩
  by_cases ha1 : 100 < p.au
  · go_wp2_with (go_at_call 8; (with_reducible refine HSm2.out.mono ?_); rintro e w3 ⟨rfl, hb3⟩; have HB4 := hid hb3; clear hb3 x0 x1 x2 x3; obtain ⟨x0, x1, x2, x3⟩ := BoxP.four (p := p) (Blk.keep (Blk.keep HX.out HB2.out) HB4.out))
    show RR (.returned (.bool true)) w3
    rw [HRR.out]
    exact ⟨rfl, HB3.out.trans (HB4.out.mono HB3.out.size)⟩
  go_upto_region 5 with (go_at_call 8; (with_reducible refine HSm2.out.mono ?_); rintro e w3 ⟨rfl, hb3⟩; have HB4 := hid hb3; clear hb3 x0 x1 x2 x3; obtain ⟨x0, x1, x2, x3⟩ := BoxP.four (p := p) (Blk.keep (Blk.keep HX.out HB2.out) HB4.out))
  have HBd := hid (show 0 ≤ p.sl ∧ p.sl ≤ 100 ∧ 0 ≤ p.su ∧ p.su ≤ 100 ∧ 0 ≤ p.au ∧ p.au ≤ 100 from by omega)
  clear hl0 hl1 hu0 hu1 ha0 ha1 x0 x1 x2 x3 HSm2
  have hsm := sm_ok HSe.out.symm
  have HLl := hid hsm.1
  have HW3 := hid hsm.2
  have HWl := hid (fun x (hx : x ∈ p.ss) => (show x.ws.length ≤ 1000000 by have := hsm.2 x hx; omega))
  have HB5 := hid (HB3.out.trans (HB4.out.mono HB3.out.size))
  have HQ0 := hid (MkQ.new (p := p) HB5.out (Blk.keep (Blk.keep HX.out HB2.out) HB4.out))
  have hnb : p.S.n ≤ 200 := by rw [HNe.out]; exact hsm.1
  clear hn hsm
  go_upto_region 6 with (fail)
  generalize w3.alloc (.cells #[.slice none 0 0, .int .i64 0, .int .i64 0, .int .i64 0, .bool false] 32) = w4 at *
  obtain ⟨g, hg⟩ : ∃ g, g = w3.heap.size := ⟨_, rfl⟩
  rw [← hg] at HQ0
  simp only [← hg]
  clear hg
  obtain ⟨x0, x1, x2, x3⟩ := BoxP.four (p := p) HQ0.out.box
  rw [← HA.out] at x0
  go_wp2_with fail
  clear x0 x1 x2 x3
  go_loopg [54] p.S.n (fun m t wr => ∃ q : Nat, q ≤ p.S.n ∧ p.S.n ≤ m + q ∧ t = .int .i64 (q : Int) ∧ Hid (MkQ w wr w.heap.size g p q 0 0 0))
  case atStart => exact ⟨0, by omega, by omega, rfl, HQ0⟩
  case round =>
    clear HQ0
    obtain ⟨q, hq, hm, rfl, HQ⟩ := hrel
    by_cases hlt : q < p.S.n
    · have hlt' : (q : Int) < (p.S.n : Int) := by omega
      have hil : q < p.ss.length := by have := HNe.out; omega
      have HX1 := hid (show p.ss[q]? = some p.ss[q] from List.getElem?_eq_getElem hil)
      have HStA := hid (fun W (hW : Below w.heap.size w W) => (HP.out W hW).each p.ss[q] (List.getElem_mem hil))
      obtain ⟨b1, o1, hA1, hbl, -, hAt⟩ := (HP.out wr HQ.out.bel).at hil
      rw [← HA.out] at hA1
      subst hA1
      have HWb := hid (HWl.out _ (List.getElem_mem hil))
      obtain ⟨x, hx⟩ : ∃ x, x = p.ss[q] := ⟨_, rfl⟩
      rw [← hx] at hAt HStA HWb HX1
      have HSt := hid (HStA.out wr HQ.out.bel)
      have HAt := hid hAt
      have HSf := hid (st_size' HSt.out)
      have HOf := hid (st_one x)
      have HZc := hid (zero_size HSt.out)
      clear hx hAt hbl hil
      go_upto_region 9 with (first
        | ((refine wpList_box rfl 37 _ _ rfl _ 37 x.cells.toArray ?_ ?_ HSf.out ?_ HOf.out ?_); exact rfl; exact rfl; exact HZc.out; intro W4 HB8 HK8)
        | (refine wpList_load_mid rfl 37 _ rfl b1 (o1 + q * 265) rfl x.cells _ HAt.out Tryd.underlying37 rfl (st_size HSt.out) ?_))
      have HQ8 := hid (HQ.out.keep HB8.out)
      have HHe := hid (Here_q HQ8.out (by have := HNe.out; omega))
      have HAd := hid (show Calls Tryd.prog 12 #[.pointer (some ⟨g, 0, none⟩), .agg x.cells.toArray] W4 (fun e w' => e = .returned (.int .i64 q) ∧ MkQ w w' w.heap.size g p (q + 1) 0 0 0) from by
        have h := Add_q HQ8.out HX1.out (HStA.out W4 HQ8.out.bel) (by have := HLl.out; have := HNe.out; omega) HWb.out
        exact h)
      have HR8 := hid (At.ofBlk HK8.out)
      have HZs := hid (st_size (HStA.out W4 HQ8.out.bel))
      clear HQ HAt HSt
      go_upto_if 67 with (first
        | (go_at_call 11; (with_reducible refine HHe.out.mono ?_); rintro e w9 ⟨rfl, rfl⟩)
        | (go_at_call 12; (with_reducible refine HAd.out.mono ?_); rintro e w10 ⟨rfl, hm10⟩; have HQ10 := hid hm10; clear hm10)
        | (refine wpList_load_step (.tmp 5) rfl HR8.out HZs.out rfl rfl ?_))
      go_wp2_with fail
      go_roundg (p.S.n - (q + 1))
      case measure => omega
      case rel => exact ⟨q + 1, by omega, by omega, by go_num, HQ10⟩
    · obtain rfl : q = p.S.n := by omega
      clear hlt
      obtain ⟨x0, x1, x2, x3⟩ := BoxP.four (p := p) HQ.out.box
      rw [← HA.out] at x0
      go_wp2_with fail
      clear x0 x1 x2 x3
      go_loopg [71] (p.sl).toNat (fun m t wr => ∃ k : Nat, (k : Int) ≤ p.sl ∧ p.sl ≤ m + k ∧ t = .int .i64 (k : Int) ∧ Hid (MkQ w wr w.heap.size g p p.S.n (k : Int) 0 0))
      case atStart => exact ⟨0, by have := HBd.out; omega, by have := HBd.out; omega, rfl, HQ⟩
      case round =>
        clear HQ
        obtain ⟨k, hk, hm, rfl, HQ⟩ := hrel
        by_cases hlt : (k : Int) < p.sl
        · have HCl := hid (Slot_q HQ.out (by omega) (by have := HBd.out; omega))
          go_wp2_with (go_at_call 13; (with_reducible refine HCl.out.mono ?_); rintro e w9 ⟨rfl, hm9⟩; have HQ9 := hid hm9; clear hm9)
          go_roundg ((p.sl).toNat - (k + 1))
          case measure => omega
          case rel => exact ⟨k + 1, by omega, by omega, by go_num, HQ9⟩
        · have hke : (k : Int) = p.sl := by omega
          have HQe := hid (show MkQ w _ w.heap.size g p p.S.n p.sl 0 0 from hke ▸ HQ.out)
          clear HQ hk hke
          have HQ := HQe
          clear HQe
          obtain ⟨x0, x1, x2, x3⟩ := BoxP.four (p := p) HQ.out.box
          rw [← HA.out] at x0
          go_wp2_with fail
          clear x0 x1 x2 x3
          go_loopg [80] (p.su).toNat (fun m t wr => ∃ k : Nat, (k : Int) ≤ p.su ∧ p.su ≤ m + k ∧ t = .int .i64 (k : Int) ∧ Hid (MkQ w wr w.heap.size g p p.S.n p.sl (k : Int) 0))
          case atStart => exact ⟨0, by have := HBd.out; omega, by have := HBd.out; omega, rfl, HQ⟩
          case round =>
            clear HQ
            obtain ⟨k, hk, hm, rfl, HQ⟩ := hrel
            by_cases hlt : (k : Int) < p.su
            · have HCl := hid (Sum_q HQ.out (by omega) (by have := HBd.out; omega))
              go_wp2_with (go_at_call 14; (with_reducible refine HCl.out.mono ?_); rintro e w9 ⟨rfl, hm9⟩; have HQ9 := hid hm9; clear hm9)
              go_roundg ((p.su).toNat - (k + 1))
              case measure => omega
              case rel => exact ⟨k + 1, by omega, by omega, by go_num, HQ9⟩
            · have hke : (k : Int) = p.su := by omega
              have HQe := hid (show MkQ w _ w.heap.size g p p.S.n p.sl p.su 0 from hke ▸ HQ.out)
              clear HQ hk hke
              have HQ := HQe
              clear HQe
              obtain ⟨x0, x1, x2, x3⟩ := BoxP.four (p := p) HQ.out.box
              rw [← HA.out] at x0
              go_wp2_with fail
              clear x0 x1 x2 x3
              go_loopg [89] (p.au).toNat (fun m t wr => ∃ k : Nat, (k : Int) ≤ p.au ∧ p.au ≤ m + k ∧ t = .int .i64 (k : Int) ∧ Hid (MkQ w wr w.heap.size g p p.S.n p.sl p.su (k : Int)))
              case atStart => exact ⟨0, by have := HBd.out; omega, by have := HBd.out; omega, rfl, HQ⟩
              case round =>
                clear HQ
                obtain ⟨k, hk, hm, rfl, HQ⟩ := hrel
                by_cases hlt : (k : Int) < p.au
                · have HCl := hid (Auto_q HQ.out (by omega) (by have := HBd.out; omega))
                  go_wp2_with (go_at_call 15; (with_reducible refine HCl.out.mono ?_); rintro e w9 ⟨rfl, hm9⟩; have HQ9 := hid hm9; clear hm9)
                  go_roundg ((p.au).toNat - (k + 1))
                  case measure => omega
                  case rel => exact ⟨k + 1, by omega, by omega, by go_num, HQ9⟩
                · have hke : (k : Int) = p.au := by omega
                  have HQe := hid (show MkQ w _ w.heap.size g p p.S.n p.sl p.su p.au from hke ▸ HQ.out)
                  clear HQ hk hke
                  have HQ := HQe
                  clear HQe
                  obtain ⟨wb, hwb⟩ : ∃ W, W = wr := ⟨_, rfl⟩
                  subst hwb
                  have HPr := hid (Program_q (p := p) (show MkQ w wb w.heap.size g p p.ss.length p.sl p.su p.au from by rw [← HNe.out]; exact HQ.out) (by have := HLl.out; omega) HWl.out)
                  obtain ⟨R, hR⟩ : ∃ R, R = ckS (mayS p) p := ⟨_, rfl⟩
                  have HR := hid hR
                  clear hR
                  have HC0 := hid (fun W (hW : Below w.heap.size w W) => (show Calls Tryd.prog 10 #[.agg #[.slice A p.S.n p.S.c, .int .i64 p.sl, .int .i64 p.su, .int .i64 p.au]] W (fun e w' => e = .returned (.agg #[.int .i64 R.1, .int .i64 R.2]) ∧ Below W.heap.size W w') from by
                    have h := wrong_any p W (HP.out W hW) (by have := HLl.out; omega) HWl.out
                    rw [← HR.out, HV.out] at h
                    exact h))
                  by_cases hR0 : R.1 = 0
                  · have hRb : (R.1 == 0) = true := by simpa using hR0
                    have HP7 := hid (show ∀ (e : Ending) (w' : World), ProgR wb p e w' → ∃ q : PT, e = .returned (.tuple #[q.val, fltV (0, 0)]) ∧ q.bare = p.bare ∧ POwn w' wb.heap.size q from fun e w' h => h.2.2 (by rw [← HR.out]; exact hR0))
                    have HRz := hid hR0
                    clear hR0
                    go_upto_region 31 with (go_at_call 16; (with_reducible refine HPr.out.mono ?_); rintro e w10 hpr; obtain ⟨⟨qs, ⟨qA, qn, qc⟩, ql, qu, qa⟩, rfl, hqb, hqo⟩ := HP7.out e w10 hpr; have HQ10 := hid (HQ.out.keep hpr.1); have HBw := hid hpr.1; clear hpr; obtain ⟨rfl, rfl, rfl, rfl⟩ := own_nums hqb hqo HNe.out; have HQb := hid hqb; have HQo := hid hqo; clear hqb hqo; unfold PT.val fltV)
                    obtain ⟨hb11, hk11, hf11⟩ := two_box w10 ⟨qs, ⟨qA, p.S.n, qc⟩, p.sl, p.su, p.au⟩ 0 0
                    have HQ11 := hid (HQ10.out.keep hb11)
                    have HBv := hid (HBw.out.trans (hb11.mono HBw.out.size))
                    have HO11 := hid (HQo.out.keep hb11)
                    have HK11 := hid hk11
                    have HF11 := hid hf11
                    clear hb11 hk11 hf11
                    simp only [show (PT.cells ⟨qs, ⟨qA, p.S.n, qc⟩, p.sl, p.su, p.au⟩).toArray = #[.slice qA p.S.n qc, .int .i64 p.sl, .int .i64 p.su, .int .i64 p.au] from rfl] at HQ11 HK11 HF11 HO11 HBv
                    generalize (w10.alloc (.cells #[.slice qA p.S.n qc, .int .i64 p.sl, .int .i64 p.su, .int .i64 p.au] 24)).alloc (.cells #[.int .i64 0, .int .i64 0] 29) = w11 at *
                    obtain ⟨x0, x1, x2, x3⟩ := BoxP.four (p := p) HQ11.out.box
                    rw [← HA.out] at x0
                    have HC1 := hid (HC0.out w11 HQ11.out.bel)
                    go_upto_region 32 with (go_at_call 10; (with_reducible refine HC1.out.mono ?_); rintro e w12 ⟨rfl, hb12⟩; have HB12 := hid hb12; clear hb12)
                    clear x0 x1 x2 x3 HQ10 HPr HP7 HBw
                    obtain ⟨hb13, hg13⟩ := one_flt w12 R.1 R.2
                    have HQ13 := hid ((HQ11.out.keep HB12.out).keep hb13)
                    have HBu := hid ((HBv.out.trans (HB12.out.mono HBv.out.size)).trans (hb13.mono (HBv.out.trans (HB12.out.mono HBv.out.size)).size))
                    have HO13 := hid ((HO11.out.keep HB12.out).keep hb13)
                    have HK13 := hid (show BoxP _ _ _ from Blk.keep (Blk.keep HK11.out HB12.out) hb13)
                    have HF13 := hid (Blk.keep (Blk.keep HF11.out HB12.out) hb13)
                    have HG13 := hid hg13
                    clear hb13 hg13 HQ11 HO11 HK11 HF11
                    generalize w12.alloc (.cells #[.int .i64 R.1, .int .i64 R.2] 29) = w13 at *
                    obtain ⟨gq, hgq⟩ : ∃ gq, gq = w10.heap.size := ⟨_, rfl⟩
                    rw [← hgq] at HK13 HF13
                    simp only [← hgq]
                    obtain ⟨gf, hgf⟩ : ∃ gf, gf = gq + 1 := ⟨_, rfl⟩
                    rw [← hgf] at HF13
                    simp only [← hgf]
                    have g0 := Blk.at HG13.out 0
                    simp only [List.getElem?_cons_zero] at g0
                    clear hgq hgf
                    go_upto_region 34 with fail
                    clear g0
                    have HS3 := hid (fun W (hW : Below w13.heap.size w13 W) => (show W.cell? ⟨gf, 0, none⟩ = some (.int .i64 0) ∧ W.cell? ⟨gq, 0, none⟩ = some (.slice qA p.S.n qc) ∧ W.cell? ⟨gq, 1, none⟩ = some (.int .i64 p.sl) ∧ W.cell? ⟨gq, 2, none⟩ = some (.int .i64 p.su) ∧ W.cell? ⟨gq, 3, none⟩ = some (.int .i64 p.au) ∧ W.cell? ⟨w.heap.size, 0, none⟩ = some (.slice A p.S.n p.S.c) ∧ W.cell? ⟨w.heap.size, 1, none⟩ = some (.int .i64 p.sl) ∧ W.cell? ⟨w.heap.size, 2, none⟩ = some (.int .i64 p.su) ∧ W.cell? ⟨w.heap.size, 3, none⟩ = some (.int .i64 p.au) from by
                      obtain ⟨a0, a1, a2, a3⟩ := BoxP.four (p := ⟨qs, ⟨qA, p.S.n, qc⟩, p.sl, p.su, p.au⟩) (Blk.keep HK13.out hW)
                      obtain ⟨b0, b1, b2, b3⟩ := BoxP.four (p := p) (Blk.keep HQ13.out.box hW)
                      rw [← HA.out] at b0
                      exact ⟨Blk.at (Blk.keep HF13.out hW) 0, a0, a1, a2, a3, b0, b1, b2, b3⟩))
                    have hS0 := HS3.out w13.drew (below_d0' w13)
                    obtain ⟨LS, hLS⟩ : ∃ LS, LS = linesS p.ss := ⟨_, rfl⟩
                    have HLS := hid (show LS.length ≤ 4000000 ∧ ∀ s ∈ LS, s.data.toList.length ≤ 21000000 from by rw [hLS]; exact linesS_len HLl.out HNum.out HW3.out)
                    obtain ⟨JS, hJS⟩ : ∃ JS, JS = joinB LS C10.data.toList := ⟨_, rfl⟩
                    have hlq : qs.length = p.ss.length := bare_len HQb.out
                    have HL1 := hid (show Calls Tryd.prog 18 #[.agg #[.slice qA p.S.n qc, .int .i64 p.sl, .int .i64 p.su, .int .i64 p.au]] w13.drew (fun e w' => ∃ lA ln lc, e = .returned (.slice lA ln lc) ∧ StrS w13.drew LS lA ln lc w') from by
                      have h := Lines_any ⟨qs, ⟨qA, p.S.n, qc⟩, p.sl, p.su, p.au⟩ w13.drew (POwn.ok (HO13.out.keep (below_d0' w13))) (by show qs.length ≤ 1000000; have := HLl.out; omega) (fun x hx => by
                        obtain ⟨j, hj, rfl⟩ := List.mem_iff_getElem.1 hx
                        have hj2 : j < p.ss.length := by show j < p.ss.length; rw [← hlq]; exact hj
                        have hb : qs[j].bare = p.ss[j].bare := bare_get HQb.out hj hj2
                        have hw : qs[j].ws = p.ss[j].ws := show qs[j].bare.ws = p.ss[j].bare.ws by rw [hb]
                        show qs[j].ws.length ≤ 1000000
                        rw [hw]
                        exact HWl.out _ (List.getElem_mem hj2)) (fun x hx => by
                        obtain ⟨j, hj, rfl⟩ := List.mem_iff_getElem.1 hx
                        have hj2 : j < p.ss.length := by show j < p.ss.length; rw [← hlq]; exact hj
                        exact num_bare (bare_get HQb.out hj hj2) (HNum.out _ (List.getElem_mem hj2))) (Tab10.keep HT0.out (HQ13.out.bel.trans ((below_d0' w13).mono HQ13.out.bel.size)))
                      unfold LinesR at h
                      rw [show linesS (PT.ss ⟨qs, ⟨qA, p.S.n, qc⟩, p.sl, p.su, p.au⟩) = LS from by rw [hLS]; exact lines_bare HQb.out] at h
                      exact h)
                    have HL2 := hid (fun W (hW : Below w13.heap.size w13 W) => (show Calls Tryd.prog 18 #[.agg #[.slice A p.S.n p.S.c, .int .i64 p.sl, .int .i64 p.su, .int .i64 p.au]] W (fun e w' => ∃ lA ln lc, e = .returned (.slice lA ln lc) ∧ StrS W LS lA ln lc w') from by
                      have hb := HQ13.out.bel.trans (hW.mono HQ13.out.bel.size)
                      have h := Lines_any p W (HP.out W hb) (by have := HLl.out; omega) HWl.out HNum.out (Tab10.keep HT0.out hb)
                      unfold LinesR at h
                      rw [HV.out, ← hLS] at h
                      exact h))
                    have HJo := hid (fun lA ln lc W0 W (h : StrS W0 LS lA ln lc W) => (show Calls Tryd.prog 17 #[.slice lA ln lc, .string C10] W (fun e w' => e = .returned (.string JS) ∧ Below W.heap.size W w') from by
                      rw [hJS]
                      exact Join_any LS lA ln lc C10 W0 W h HLS.out.1 HLS.out.2 HNl.out))
                    have hJJ : (JS.toList == JS.toList) = true := by simp
                    clear hLS hJS hlq
                    go_region_held3 (fun W => W.cell? ⟨gf, 0, none⟩ = some (.int .i64 0) ∧ W.cell? ⟨gq, 0, none⟩ = some (.slice qA p.S.n qc) ∧ W.cell? ⟨gq, 1, none⟩ = some (.int .i64 p.sl) ∧ W.cell? ⟨gq, 2, none⟩ = some (.int .i64 p.su) ∧ W.cell? ⟨gq, 3, none⟩ = some (.int .i64 p.au) ∧ W.cell? ⟨w.heap.size, 0, none⟩ = some (.slice A p.S.n p.S.c) ∧ W.cell? ⟨w.heap.size, 1, none⟩ = some (.int .i64 p.sl) ∧ W.cell? ⟨w.heap.size, 2, none⟩ = some (.int .i64 p.su) ∧ W.cell? ⟨w.heap.size, 3, none⟩ = some (.int .i64 p.au))
                      (first | with_reducible exact hS0 | with_reducible exact hS1 | with_reducible exact hS2 | with_reducible exact hS4 | with_reducible exact hS5)
                      (first
                      | ((with_reducible refine HL1.out.mono ?_); rintro e w14 ⟨lA, ln, lc, rfl, hs⟩; have HB14 := hid (below_ofdrew hs.bel); have hS1 := HS3.out w14 HB14.out; have HJ1 := hid (HJo.out lA ln lc w13.drew w14 hs); clear hs)
                      | ((with_reducible refine HJ1.out.mono ?_); rintro e w15 ⟨rfl, hb⟩; have HB15 := hid (HB14.out.trans (hb.mono HB14.out.size)); clear hb; have hS2 := HS3.out w15 HB15.out; have HL3 := hid (HL2.out w15 HB15.out))
                      | ((with_reducible refine HL3.out.mono ?_); rintro e w16 ⟨mA, mn, mc, rfl, hs⟩; have HB16 := hid (HB15.out.trans (hs.bel.mono HB15.out.size)); have hS4 := HS3.out w16 HB16.out; have HJ2 := hid (HJo.out mA mn mc w15 w16 hs); clear hs)
                      | ((with_reducible refine HJ2.out.mono ?_); rintro e w17 ⟨rfl, hb⟩; have HB17 := hid (HB16.out.trans (hb.mono HB16.out.size)); clear hb; have hS5 := HS3.out w17 HB17.out))
                    have HQ5 := hid (show QS wb w17 gq p qA qc qs from ⟨HBu.out.trans (HB17.out.mono HBu.out.size), HO13.out.keep HB17.out, Blk.keep HK13.out HB17.out, by rw [HNe.out]; exact bare_len HQb.out, fun x hx => by
                      have hlq : qs.length = p.ss.length := bare_len HQb.out
                      obtain ⟨j, hj, rfl⟩ := List.mem_iff_getElem.1 hx
                      have hj2 : j < p.ss.length := by omega
                      have hb : qs[j].bare = p.ss[j].bare := bare_get HQb.out hj hj2
                      have hw : qs[j].ws = p.ss[j].ws := show qs[j].bare.ws = p.ss[j].bare.ws by rw [hb]
                      rw [hw]
                      exact HWl.out _ (List.getElem_mem hj2)⟩)
                    clear hS0 hS1 hS2 hS4 hS5 HB14 HB15 HB16 HB17 HJ1 HJ2 HL1 HL2 HL3 HJo HS3 HK13 HF13 HG13 HO13 HQ13 HBu HQb
                    clear hJJ
                    have k0 := HQ5.out.c0
                    go_wp2_with fail
                    clear k0
                    go_loopg [150] p.S.n (fun m t wr => ∃ (q : Nat) (ss : List ST), q ≤ p.S.n ∧ p.S.n ≤ m + q ∧ t = .int .i64 (q : Int) ∧ Hid (QS wb wr gq p qA qc ss))
                    case atStart => exact ⟨0, qs, by omega, by omega, rfl, HQ5⟩
                    case round =>
                      clear HQ5
                      obtain ⟨q, ss, hq, hm, rfl, HS⟩ := hrel
                      by_cases hlt : q < p.S.n
                      · have hlt' : (q : Int) < (p.S.n : Int) := by omega
                        have hql : q < ss.length := by rw [HS.out.len]; exact hlt
                        obtain ⟨g1, hA1⟩ := HS.out.A (by omega)
                        subst hA1
                        have hxs := List.getElem?_eq_getElem hql
                        obtain ⟨x, hx⟩ : ∃ x, x = ss[q] := ⟨_, rfl⟩
                        rw [← hx] at hxs
                        obtain ⟨wW, hW⟩ : ∃ W, W = x.W := ⟨_, rfl⟩
                        obtain ⟨wA, wN, wC⟩ := wW
                        have k0 := HS.out.c0
                        have c8 := HS.out.c8 hxs
                        rw [← hW] at c8
                        simp only at c8
                        have hwb : wN ≤ 1000000 := by
                          have h1 := HS.out.wn hxs
                          rw [← hW] at h1
                          have h1 : wN = x.ws.length := h1
                          rw [h1]
                          exact HS.out.wl x (List.mem_of_getElem? hxs)
                        have HX2 := hid (And.intro hxs hW.symm)
                        clear hx hxs hW hql
                        go_upto_block 10 with fail
                        go_wp2_with fail
                        clear k0 c8
                        go_loopg [160] wN (fun m2 t wr => ∃ (k : Nat) (ss : List ST) (x : ST), k ≤ wN ∧ wN ≤ m2 + k ∧ t = .int .i64 (k : Int) ∧ Hid (QS wb wr gq p (some ⟨g1, 0, none⟩) qc ss) ∧ Hid (ss[q]? = some x ∧ x.W = ⟨wA, wN, wC⟩))
                        case atStart => exact ⟨0, ss, x, by omega, by omega, rfl, HS, HX2⟩
                        case round =>
                          clear HS HX2
                          obtain ⟨k, ss, x, hk, hm2, rfl, HS, HX⟩ := hrel
                          by_cases hlt2 : k < wN
                          · have hlt2' : (k : Int) < (wN : Int) := by omega
                            have hkl : k < x.ws.length := by rw [← HS.out.wn HX.out.1, HX.out.2]; exact hlt2
                            obtain ⟨g2, hA2, ⟨v, mj⟩, mf, hq2⟩ := HS.out.way HX.out.1 hkl
                            have HS2 := hid hq2
                            have k0 := HS.out.c0
                            have c8 := HS.out.c8 HX.out.1
                            have hW := HX.out.2
                            rw [hW] at hA2 c8
                            simp only at hA2 c8
                            subst hA2
                            have HX2 := hid (show (ss.set q (x.turned k (-1)))[q]? = some (x.turned k (-1)) ∧ (x.turned k (-1)).W = ⟨some ⟨g2, 0, none⟩, wN, wC⟩ from ⟨by rw [List.getElem?_set_self (List.getElem?_eq_some_iff.1 HX.out.1).1], hW⟩)
                            clear hq2 hkl hW
                            go_wp2_with fail
                            go_roundg (wN - (k + 1))
                            case measure => omega
                            case rel => exact ⟨k + 1, _, _, by omega, by omega, by go_num, HS2, HX2⟩
                          · obtain rfl : k = wN := by omega
                            go_wp2_with fail
                            go_roundg (p.S.n - (q + 1))
                            case measure => omega
                            case rel => exact ⟨q + 1, ss, by omega, by omega, by go_num, HS⟩
                      · obtain rfl : q = p.S.n := by omega
                        have HQz := hid (HQ.out.keep HS.out.bel)
                        have HP2 := hid (Program_q (p := p) (show MkQ w wr w.heap.size g p p.ss.length p.sl p.su p.au from by rw [← HNe.out]; exact HQz.out) (by have := HLl.out; omega) HWl.out)
                        have HPz := hid (show ∀ (e : Ending) (w' : World), ProgR wr p e w' → ∃ q : PT, e = .returned (.tuple #[q.val, fltV (0, 0)]) ∧ q.bare = p.bare ∧ POwn w' wr.heap.size q from fun e w' h => h.2.2 (by rw [← HR.out]; exact HRz.out))
                        go_upto_region 46 with (go_at_call 16; (with_reducible refine HP2.out.mono ?_); rintro e w18 hpr; obtain ⟨⟨rs, ⟨rA, rn, rc⟩, rl, ru, ra⟩, rfl, -, -⟩ := HPz.out e w18 hpr; have HB18 := hid (HQz.out.bel.trans (hpr.1.mono HQz.out.bel.size)); clear hpr; unfold PT.val fltV)
                        obtain ⟨hb19, -, hf19⟩ := two_box w18 ⟨rs, ⟨rA, rn, rc⟩, rl, ru, ra⟩ 0 0
                        simp only [show (PT.cells ⟨rs, ⟨rA, rn, rc⟩, rl, ru, ra⟩).toArray = #[.slice rA rn rc, .int .i64 rl, .int .i64 ru, .int .i64 ra] from rfl] at hb19 hf19
                        have HB19 := hid (HB18.out.trans (hb19.mono HB18.out.size))
                        have f0 := Blk.at hf19 0
                        simp only [List.getElem?_cons_zero] at f0
                        clear hb19 hf19
                        generalize (w18.alloc (.cells #[.slice rA rn rc, .int .i64 rl, .int .i64 ru, .int .i64 ra] 24)).alloc (.cells #[.int .i64 0, .int .i64 0] 29) = w19 at *
                        go_wp2_with fail
                        show RR (.returned (.bool true)) w19
                        rw [HRR.out]
                        exact ⟨rfl, HB19.out⟩
                  · have hRb : (R.1 == 0) = false := by simpa using hR0
                    have HP7 := hid (show ∀ (e : Ending) (w' : World), ProgR wb p e w' → e = .returned (.tuple #[.agg #[.slice none 0 0, .int .i64 0, .int .i64 0, .int .i64 0], .agg #[.int .i64 R.1, .int .i64 R.2]]) from fun e w' h => by rw [h.2.1 (by rw [← HR.out]; exact hR0), ← HR.out]; rfl)
                    go_upto_region 31 with (go_at_call 16; (with_reducible refine HPr.out.mono ?_); rintro e w10 hpr; obtain rfl := HP7.out e w10 hpr; have HQ10 := hid (HQ.out.keep hpr.1); clear hpr)
                    obtain ⟨hb11, hk11, hf11⟩ := two_box w10 PT.zero R.1 R.2
                    have HQ11 := hid (HQ10.out.keep hb11)
                    have HK11 := hid hk11
                    have HF11 := hid hf11
                    clear hb11 hk11 hf11
                    simp only [show PT.zero.cells.toArray = #[.slice none 0 0, .int .i64 0, .int .i64 0, .int .i64 0] from rfl] at HQ11 HK11 HF11
                    generalize (w10.alloc (.cells #[.slice none 0 0, .int .i64 0, .int .i64 0, .int .i64 0] 24)).alloc (.cells #[.int .i64 R.1, .int .i64 R.2] 29) = w11 at *
                    obtain ⟨x0, x1, x2, x3⟩ := BoxP.four (p := p) HQ11.out.box
                    rw [← HA.out] at x0
                    have HC1 := hid (HC0.out w11 HQ11.out.bel)
                    go_upto_region 32 with (go_at_call 10; (with_reducible refine HC1.out.mono ?_); rintro e w12 ⟨rfl, hb12⟩; have HB12 := hid hb12; clear hb12)
                    clear x0 x1 x2 x3
                    obtain ⟨hb13, hg13⟩ := one_flt w12 R.1 R.2
                    have HQ13 := hid ((HQ11.out.keep HB12.out).keep hb13)
                    have hk13 := Blk.keep (Blk.keep HK11.out HB12.out) hb13
                    have hf13 := Blk.keep (Blk.keep HF11.out HB12.out) hb13
                    have f0 := Blk.at hf13 0
                    have f1 := Blk.at hf13 1
                    have g0 := Blk.at hg13 0
                    have g1 := Blk.at hg13 1
                    have k0 := Blk.at hk13 0
                    simp only [PT.zero, PT.cells, SV.nil, SV.val, List.getElem?_cons_zero, List.getElem?_cons_succ] at f0 f1 g0 g1 k0
                    clear hb13 hk13 hf13 hg13
                    generalize w12.alloc (.cells #[.int .i64 R.1, .int .i64 R.2] 29) = w13 at *
                    have hq2 := fun W => run_fte R.1 R.2 W
                    go_wp2_with fail
                    show RR (.returned (.bool true)) w13
                    rw [HRR.out]
                    exact ⟨rfl, HQ13.out.bel⟩
theorem makes_row {W : World} (p : PT) (h : PtOk W (· < W.heap.size) p ∧ p.S.n ≤ 9223372036854775807 ∧ (∀ x ∈ p.ss, StNum x) ∧ I64 p.sl ∧ I64 p.su ∧ I64 p.au) (ht : Tab10 W) : Calls Tryd.prog 4 #[p.val] W fun e w' => e = .returned (.bool true) ∧ Below W.heap.size W w' := makes_walk p W h.1 h.2.1 h.2.2.1 ht
end Go.Proofs.YtpbkdokhlimpfaaDoor
