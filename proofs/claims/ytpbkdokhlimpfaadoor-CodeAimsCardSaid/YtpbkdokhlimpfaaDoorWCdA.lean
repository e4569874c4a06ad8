/- code: CodeAims. -/
import Derived.Test.YtpbkdokhlimpfaaDoorCeP
import Derived.Test.YtpbkdokhlimpfaaDoorWCdM
namespace Go.Proofs.YtpbkdokhlimpfaaDoor
set_option linter.unusedSimpArgs false
set_option linter.unusedVariables false
open Go.RowKit Go.Sort Go.ChangeShapes Go.WideShapes Go.ChangeAt

theorem ck_zz {f : ST → Bool} {p : PT} (h : (ckS f p).1 = 0) : (ckS f p).2 = 0 := by
  unfold ckS at h ⊢
  split at h
  · simp at h
  · rename_i hs
    rw [if_neg hs]
    split at h
    · simp at h
    · split at h
      · rename_i hl
        simp [hl]
      · simp at h
theorem num_all {q P : PT} (hb : q.bare = P.bare) (hP : ∀ x ∈ P.ss, StNum x) : ∀ x ∈ q.ss, StNum x := fun x hx => by
  obtain ⟨j, hj, rfl⟩ := List.mem_iff_getElem.1 hx
  have hj2 : j < P.ss.length := by rw [← bare_len hb]; exact hj
  exact num_bare (bare_get hb hj hj2) (hP _ (List.getElem_mem hj2))
theorem box_two (w : World) (p : PT) (u t : Int) : Below w.heap.size w ((w.alloc (.cells p.cells.toArray 24)).alloc (.cells #[.int .i64 u, .int .i64 t] 47)) ∧ BoxP ((w.alloc (.cells p.cells.toArray 24)).alloc (.cells #[.int .i64 u, .int .i64 t] 47)) w.heap.size p ∧ Blk ((w.alloc (.cells p.cells.toArray 24)).alloc (.cells #[.int .i64 u, .int .i64 t] 47)) (w.heap.size + 1) 47 [.int .i64 u, .int .i64 t] := by
  refine ⟨((Below.refl w.heap.size w).alloc (Nat.le_refl _) _).alloc (by simp) _, Blk.alloc (heap_alloc_new w _) _, ?_⟩
  have := heap_alloc_new (w.alloc (.cells p.cells.toArray 24)) (.cells #[.int .i64 u, .int .i64 t] 47)
  rw [World.size_alloc] at this
  exact this
theorem x_al0 {w : World} {g : Nat} {p : PT} (h : BoxP w g p) : w.cell? ⟨g, 0, none⟩ = some (.slice p.S.A p.S.n p.S.c) ∧ w.cell? ⟨g, 1, none⟩ = some (.int .i64 p.sl) ∧ w.cell? ⟨g, 2, none⟩ = some (.int .i64 p.su) ∧ w.cell? ⟨g, 3, none⟩ = some (.int .i64 p.au) := BoxP.four h
theorem x_al1 {w : World} {g : Nat} {p : PT} (h : BoxP w g p) : (∀ o, (w.alloc o).cell? ⟨g, 0, none⟩ = some (.slice p.S.A p.S.n p.S.c)) ∧ (∀ o, (w.alloc o).cell? ⟨g, 1, none⟩ = some (.int .i64 p.sl)) ∧ (∀ o, (w.alloc o).cell? ⟨g, 2, none⟩ = some (.int .i64 p.su)) ∧ (∀ o, (w.alloc o).cell? ⟨g, 3, none⟩ = some (.int .i64 p.au)) :=
  ⟨fun o => (x_al0 (Blk.alloc h o)).1, fun o => (x_al0 (Blk.alloc h o)).2.1, fun o => (x_al0 (Blk.alloc h o)).2.2.1, fun o => (x_al0 (Blk.alloc h o)).2.2.2⟩
theorem x_al2 {w : World} {g : Nat} {p : PT} (h : BoxP w g p) : (∀ o o', ((w.alloc o).alloc o').cell? ⟨g, 0, none⟩ = some (.slice p.S.A p.S.n p.S.c)) ∧ (∀ o o', ((w.alloc o).alloc o').cell? ⟨g, 1, none⟩ = some (.int .i64 p.sl)) ∧ (∀ o o', ((w.alloc o).alloc o').cell? ⟨g, 2, none⟩ = some (.int .i64 p.su)) ∧ (∀ o o', ((w.alloc o).alloc o').cell? ⟨g, 3, none⟩ = some (.int .i64 p.au)) :=
  ⟨fun o => (x_al1 (Blk.alloc h o)).1, fun o => (x_al1 (Blk.alloc h o)).2.1, fun o => (x_al1 (Blk.alloc h o)).2.2.1, fun o => (x_al1 (Blk.alloc h o)).2.2.2⟩
set_option maxRecDepth 100000 in
set_option maxHeartbeats 16000000 in
theorem aims_walk (p : PT) (step u t : Int) (w : World) {P : Nat → Prop} (hP : PtOk w P p) (hn : p.S.n ≤ 9223372036854775807) (hx : ∀ x ∈ p.ss, StNum x) (hst : I64 step) (hu : I64 u) (htt : I64 t) (ht : Tab10 w) : Calls Tryd.prog 5 #[p.val, .int .i64 step, .agg #[.int .i64 u, .int .i64 t]] w fun e w' => e = .returned (.bool true) ∧ Below w.heap.size w w' := by
  obtain ⟨RR, hRR⟩ : ∃ RR : Ending → World → Prop, RR = fun e w' => e = .returned (.bool true) ∧ Below w.heap.size w w' := ⟨_, rfl⟩
  rw [← hRR]
  have HRR := hid hRR
  obtain ⟨hb, h1, h2⟩ := box_two w p u t
  obtain ⟨A, hA⟩ : ∃ A, A = p.S.A := ⟨_, rfl⟩
  have hpc : p.cells.toArray = #[.slice A p.S.n p.S.c, .int .i64 p.sl, .int .i64 p.su, .int .i64 p.au] := by rw [hA]; rfl
  have hv : p.val = .agg #[.slice A p.S.n p.S.c, .int .i64 p.sl, .int .i64 p.su, .int .i64 p.au] := by rw [hA]; rfl
  have HA := hid hA
  have HV := hid hv
  rw [hpc] at hb h1 h2
  have HB := hid hb
  have HX := hid h1
  have HY := hid h2
  have HNum := hid hx
  have HTt := hid htt
  have HT0 := hid ht
  have HBu := hid (builds_any _ (Tab10.keep ht hb))
  have HSm := hid (fun W (hW : Below w.heap.size w W) => small_any' p W (hP.mono (fun b _ hl => hW.block b hl) hW.size (fun _ h _ => h)) hn)
  have HP := hid (fun W (hW : Below w.heap.size w W) => (hP.mono (Q := P) (fun b _ hl => hW.block b hl) hW.size (fun _ h _ => h)))
  have HNe := hid hP.n
  simp only [hv] at HSm
  rw [hv]
  clear hRR hb h1 h2 hpc hP ht hA hv hx htt
  go_enter Tryd.func5, Tryd.ntmps5
  have HNl := hid (show (ByteArray.mk #[44]).data.toList.length ≤ 1 from by decide)
  obtain ⟨C10, hC10⟩ : ∃ C : ByteArray, C = ByteArray.mk #[44] := ⟨_, rfl⟩
  rw [← hC10] at HNl ⊢
  have HC10 := hid hC10
  clear hC10
  go_upto_region 1 with (fail)
  generalize (w.alloc (.cells #[.slice A p.S.n p.S.c, .int .i64 p.sl, .int .i64 p.su, .int .i64 p.au] 24)).alloc (.cells #[.int .i64 u, .int .i64 t] 47) = w1 at *
  obtain ⟨ga, hga⟩ : ∃ ga, ga = w.heap.size + 1 := ⟨_, rfl⟩
  rw [← hga] at HY
  simp only [← hga]
  clear hga
  go_upto_region 3 with (go_at_call 7; (with_reducible refine HBu.out.mono ?_); rintro e w2 ⟨rfl, hb2⟩; have HB2 := hid hb2; clear hb2)
  have HB3 := hid (HB.out.trans (HB2.out.mono HB.out.size))
  have HX3 := hid (Blk.keep HX.out HB2.out)
  have HY3 := hid (Blk.keep HY.out HB2.out)
  obtain ⟨x0, x1, x2, x3⟩ := BoxP.four (p := p) HX3.out
  rw [← HA.out] at x0
  have HSm2 := hid (HSm.out w2 HB3.out)
  obtain ⟨sm, hsm⟩ : ∃ sm, sm = smS p := ⟨_, rfl⟩
  rw [← hsm] at HSm2
  have HSe := hid hsm
  clear hsm HSm HBu
  cases sm
  · go_wp2_with (go_at_call 8; (with_reducible refine HSm2.out.mono ?_); rintro e w3 ⟨rfl, hb3⟩; have HB4 := hid (HB3.out.trans (hb3.mono HB3.out.size)); clear hb3)
    show RR (.returned (.bool true)) w3
    rw [HRR.out]
    exact ⟨rfl, HB4.out⟩
  have hsm := sm_ok HSe.out.symm
  have HLl := hid hsm.1
  have HW3 := hid hsm.2
  have HWl := hid (fun x (hx : x ∈ p.ss) => (show x.ws.length ≤ 1000000 by have := hsm.2 x hx; omega))
  have hnb : p.S.n ≤ 200 := by rw [HNe.out]; exact hsm.1
  obtain ⟨R, hR⟩ : ∃ R, R = ckS (mayS p) p := ⟨_, rfl⟩
  have HR := hid hR
  clear hR hn hsm
  have HC0 := hid (fun W (hW : Below w.heap.size w W) => (show Calls Tryd.prog 10 #[.agg #[.slice A p.S.n p.S.c, .int .i64 p.sl, .int .i64 p.su, .int .i64 p.au]] W (fun e w' => e = .returned (.agg #[.int .i64 R.1, .int .i64 R.2]) ∧ Below W.heap.size W w') from by
    have h := wrong_any p W (HP.out W hW) (by have := HLl.out; omega) HWl.out
    rw [← HR.out, HV.out] at h
    exact h))
  have hfl : ∀ W, (Instr.field 29 (.agg #[.int .i64 R.1, .int .i64 R.2]) 0).run Tryd.prog W = .ok (.int .i64 R.1) W := fun W => by kernel_rfl
  by_cases hR0 : R.1 = 0
  rotate_left
  · have hRb : (R.1 == 0) = false := by simpa using hR0
    go_wp2_with (first | (go_at_call 8; (with_reducible refine HSm2.out.mono ?_); rintro e w3 ⟨rfl, hb3⟩; have HB4 := hid (HB3.out.trans (hb3.mono HB3.out.size)); have HX4 := hid (Blk.keep HX3.out hb3); have HY4 := hid (Blk.keep HY3.out hb3); have HC1 := hid (HC0.out w3 HB4.out); clear hb3; clear x0 x1 x2 x3; obtain ⟨x0, x1, x2, x3⟩ := BoxP.four (p := p) HX4.out; rw [← HA.out] at x0) | (go_at_call 10; (with_reducible refine HC1.out.mono ?_); rintro e w4 ⟨rfl, hb4⟩; have HB5 := hid (HB4.out.trans (hb4.mono HB4.out.size)); have HX5 := hid (Blk.keep HX4.out hb4); have HY5 := hid (Blk.keep HY4.out hb4); clear hb4))
    show RR (.returned (.bool true)) w4
    rw [HRR.out]
    exact ⟨rfl, HB5.out⟩
  have hRb : (R.1 == 0) = true := by simpa using hR0
  have HRz := hid hR0
  have HSz := hid (size_ok (ck_ok (show (ckS (mayS p) p).1 = 0 from by rw [← HR.out]; exact hR0)).1)
  clear hR0
  go_upto_region 5 with (first | (go_at_call 8; (with_reducible refine HSm2.out.mono ?_); rintro e w3 ⟨rfl, hb3⟩; have HB4 := hid (HB3.out.trans (hb3.mono HB3.out.size)); have HX4 := hid (Blk.keep HX3.out hb3); have HY4 := hid (Blk.keep HY3.out hb3); have HC1 := hid (HC0.out w3 HB4.out); clear hb3; clear x0 x1 x2 x3; obtain ⟨x0, x1, x2, x3⟩ := BoxP.four (p := p) HX4.out; rw [← HA.out] at x0) | (go_at_call 10; (with_reducible refine HC1.out.mono ?_); rintro e w4 ⟨rfl, hb4⟩; have HB5 := hid (HB4.out.trans (hb4.mono HB4.out.size)); have HX5 := hid (Blk.keep HX4.out hb4); have HY5 := hid (Blk.keep HY4.out hb4); clear hb4))
  clear x0 x1 x2 x3 hfl HC1 HSm2
  have hne : (R.1 != 0) = false := by rw [HRz.out]; rfl
  simp only [hne]
  clear hne hRb
  have HS3 := hid (fun W (hW : Below w4.heap.size w4 W) => (show W.cell? ⟨ga, 0, none⟩ = some (.int .i64 u) ∧ W.cell? ⟨ga, 1, none⟩ = some (.int .i64 t) from ⟨Blk.at (Blk.keep HY5.out hW) 0, Blk.at (Blk.keep HY5.out hW) 1⟩))
  have hS0 := HS3.out w4.drew (below_d0' w4)
  go_region_held3 (fun W => W.cell? ⟨ga, 0, none⟩ = some (.int .i64 u) ∧ W.cell? ⟨ga, 1, none⟩ = some (.int .i64 t)) (first | with_reducible exact hS0) (fail)
  have HB6 := hid (HB5.out.trans ((below_d0' w4).mono HB5.out.size))
  have HX6 := hid (Blk.keep HX5.out (below_d0' w4))
  have HY6 := hid (Blk.keep HY5.out (below_d0' w4))
  clear hS0 HS3
  generalize w4.drew = w5 at *
  have HQ0 := hid (Tq.new (p := p) (u := u) (t := t) HB6.out HX6.out HY6.out)
  go_upto_region 7 with (fail)
  generalize (w5.alloc (.cells #[.slice none 0 0, .int .i64 0, .int .i64 0, .int .i64 0, .bool false] 32)).alloc (.cells #[.slice none 0 0, .int .i64 0, .int .i64 0, .int .i64 0, .bool false] 32) = w6 at *
  obtain ⟨m1, hm1⟩ : ∃ m1, m1 = w5.heap.size := ⟨_, rfl⟩
  rw [← hm1] at HQ0
  simp only [← hm1]
  obtain ⟨m2, hm2⟩ : ∃ m2, m2 = m1 + 1 := ⟨_, rfl⟩
  rw [← hm2] at HQ0
  simp only [← hm2]
  obtain ⟨X, hX⟩ : ∃ X : Nat → Prop, X = fun b => b = w.heap.size ∨ b = ga := ⟨_, rfl⟩
  rw [← hX] at HQ0
  have HXb := hid (And.intro HQ0.out.xb HQ0.out.xa)
  clear hm1 hm2 hX HX HY HX3 HY3 HX4 HY4 HX5 HY5 HX6 HY6 HB HB2
  obtain ⟨x0, x1, x2, x3⟩ := BoxP.four (p := p) HQ0.out.box
  rw [← HA.out] at x0
  go_wp2_with fail
  clear x0 x1 x2 x3
  go_loopg [37] p.S.n (fun m tt wr => ∃ q : Nat, q ≤ p.S.n ∧ p.S.n ≤ m + q ∧ tt = .int .i64 (q : Int) ∧ Hid (Tq w wr X w.heap.size ga m1 m2 p u t q 0 0 0 q 0 0 0))
  case atStart => exact ⟨0, by omega, by omega, rfl, HQ0⟩
  case round =>
    clear HQ0
    obtain ⟨q, hq, hm, rfl, HQ⟩ := hrel
    by_cases hlt : q < p.S.n
    · have hlt' : (q : Int) < (p.S.n : Int) := by omega
      have hil : q < p.ss.length := by have := HNe.out; omega
      have HX1 := hid (show p.ss[q]? = some p.ss[q] from List.getElem?_eq_getElem hil)
      have HStA := hid (fun W (hW : Below w.heap.size w W) => (HP.out W hW).each p.ss[q] (List.getElem_mem hil))
      obtain ⟨b1, o1, hA1, hbl, -, hAt⟩ := (HP.out wr HQ.out.bel).at hil
      rw [← HA.out] at hA1
      subst hA1
      have HWb := hid (HWl.out _ (List.getElem_mem hil))
      obtain ⟨x, hx⟩ : ∃ x, x = p.ss[q] := ⟨_, rfl⟩
      rw [← hx] at hAt HStA HWb HX1
      have HSt := hid (HStA.out wr HQ.out.bel)
      have HAt := hid hAt
      have HSf := hid (st_size' HSt.out)
      have HOf := hid (st_one x)
      have HZc := hid (zero_size HSt.out)
      clear hx hAt hbl hil
      go_upto_region 10 with (first
        | ((refine wpList_box rfl 37 _ _ rfl _ 37 x.cells.toArray ?_ ?_ HSf.out ?_ HOf.out ?_); exact rfl; exact rfl; exact HZc.out; intro W4 HB8 HK8)
        | (refine wpList_load_mid rfl 37 _ rfl b1 (o1 + q * 265) rfl x.cells _ HAt.out Tryd.underlying37 rfl (st_size HSt.out) ?_))
      have HQ8 := hid (HQ.out.more HB8.out (Nat.le_refl _) (Blk.lt HK8.out))
      have HAd := hid (show Calls Tryd.prog 12 #[.pointer (some ⟨m1, 0, none⟩), .agg x.cells.toArray] W4 (fun e w' => e = .returned (.int .i64 q) ∧ Tq w w' (fun b => X b ∨ b = wr.heap.size) w.heap.size ga m1 m2 p u t (q + 1) 0 0 0 q 0 0 0 ∧ Chg W4 w' (fun b => ¬ (X b ∨ b = wr.heap.size))) from by
        have h := Add_1 HQ8.out HX1.out (HStA.out W4 HQ8.out.bel) (by have := HLl.out; have := HNe.out; omega) HWb.out
        exact h)
      have HR8 := hid (At.ofBlk HK8.out)
      have HZs := hid (st_size (HStA.out W4 HQ8.out.bel))
      clear HQ HAt HSt
      go_upto_region 11 with (first
        | (go_at_call 12; (with_reducible refine HAd.out.mono ?_); rintro e w9 ⟨rfl, hq9, hc9⟩; have HQ9 := hid hq9; have HK9 := hid (Blk.chg HK8.out hc9 (fun hn => hn (.inr rfl))); clear hq9 hc9)
        | (refine wpList_load_mid rfl 37 _ rfl wr.heap.size 0 rfl x.cells _ HR8.out Tryd.underlying37 rfl HZs.out ?_))
      have HR9 := hid (At.ofBlk HK9.out)
      have HAe := hid (show Calls Tryd.prog 12 #[.pointer (some ⟨m2, 0, none⟩), .agg x.cells.toArray] w9 (fun e w' => e = .returned (.int .i64 q) ∧ Tq w w' (fun b => X b ∨ b = wr.heap.size) w.heap.size ga m1 m2 p u t (q + 1) 0 0 0 (q + 1) 0 0 0) from by
        have h := Add_2 HQ9.out HX1.out (HStA.out w9 HQ9.out.bel) (by have := HLl.out; have := HNe.out; omega) HWb.out
        exact h)
      go_wp2_with (first
        | (go_at_call 12; (with_reducible refine HAe.out.mono ?_); rintro e w10 ⟨rfl, hq10⟩; have HQ10 := hid (hq10.less HXb.out.1 HXb.out.2); clear hq10)
        | (refine wpList_load_mid rfl 37 _ rfl wr.heap.size 0 rfl x.cells _ HR9.out Tryd.underlying37 rfl HZs.out ?_))
      go_roundg (p.S.n - (q + 1))
      case measure => omega
      case rel => exact ⟨q + 1, by omega, by omega, by go_num, HQ10⟩
    · obtain rfl : q = p.S.n := by omega
      clear hlt
      obtain ⟨x0, x1, x2, x3⟩ := BoxP.four (p := p) HQ.out.box
      rw [← HA.out] at x0
      go_wp2_with fail
      clear x0 x1 x2 x3
      go_loopg [48] (p.sl).toNat (fun m tt wr => ∃ k : Nat, (k = 0 ∨ (k : Int) ≤ p.sl) ∧ p.sl ≤ m + k ∧ tt = .int .i64 (k : Int) ∧ Hid (Tq w wr X w.heap.size ga m1 m2 p u t p.S.n (k : Int) 0 0 p.S.n (k : Int) 0 0))
      case atStart => exact ⟨0, .inl rfl, by omega, rfl, HQ⟩
      case round =>
        clear HQ
        obtain ⟨k, hk, hm, rfl, HQ⟩ := hrel
        by_cases hlt : (k : Int) < p.sl
        · have hkb : (k : Int) ≤ 1000000 := by have := HSz.out; omega
          have HCl := hid (Slot_1 HQ.out (by omega) hkb)
          go_wp2_with (first
            | (go_at_call 13; (with_reducible refine HCl.out.mono ?_); rintro e w9 ⟨rfl, hm9⟩; have HQ9 := hid hm9; have HCm := hid (Slot_2 HQ9.out (by omega) hkb); clear hm9)
            | (go_at_call 13; (with_reducible refine HCm.out.mono ?_); rintro e w10 ⟨rfl, hm10⟩; have HQ10 := hid hm10; clear hm10))
          go_roundg ((p.sl).toNat - (k + 1))
          case measure => omega
          case rel => exact ⟨k + 1, .inr (by omega), by omega, by go_num, HQ10⟩
        · have hke : (k : Int) = p.sl := by have := HSz.out; omega
          have HQe := hid (show Tq w _ X w.heap.size ga m1 m2 p u t p.S.n p.sl 0 0 p.S.n p.sl 0 0 from hke ▸ HQ.out)
          clear HQ hk hke
          have HQ := HQe
          clear HQe
          obtain ⟨x0, x1, x2, x3⟩ := BoxP.four (p := p) HQ.out.box
          rw [← HA.out] at x0
          go_wp2_with fail
          clear x0 x1 x2 x3
          go_loopg [55] (p.su).toNat (fun m tt wr => ∃ k : Nat, (k = 0 ∨ (k : Int) ≤ p.su) ∧ p.su ≤ m + k ∧ tt = .int .i64 (k : Int) ∧ Hid (Tq w wr X w.heap.size ga m1 m2 p u t p.S.n p.sl (k : Int) 0 p.S.n p.sl (k : Int) 0))
          case atStart => exact ⟨0, .inl rfl, by omega, rfl, HQ⟩
          case round =>
            clear HQ
            obtain ⟨k, hk, hm, rfl, HQ⟩ := hrel
            by_cases hlt : (k : Int) < p.su
            · have hkb : (k : Int) ≤ 1000000 := by have := HSz.out; omega
              have HCl := hid (Sum_1 HQ.out (by omega) hkb)
              go_wp2_with (first
                | (go_at_call 14; (with_reducible refine HCl.out.mono ?_); rintro e w9 ⟨rfl, hm9⟩; have HQ9 := hid hm9; have HCm := hid (Sum_2 HQ9.out (by omega) hkb); clear hm9)
                | (go_at_call 14; (with_reducible refine HCm.out.mono ?_); rintro e w10 ⟨rfl, hm10⟩; have HQ10 := hid hm10; clear hm10))
              go_roundg ((p.su).toNat - (k + 1))
              case measure => omega
              case rel => exact ⟨k + 1, .inr (by omega), by omega, by go_num, HQ10⟩
            · have hke : (k : Int) = p.su := by have := HSz.out; omega
              have HQe := hid (show Tq w _ X w.heap.size ga m1 m2 p u t p.S.n p.sl p.su 0 p.S.n p.sl p.su 0 from hke ▸ HQ.out)
              clear HQ hk hke
              have HQ := HQe
              clear HQe
              obtain ⟨x0, x1, x2, x3⟩ := BoxP.four (p := p) HQ.out.box
              rw [← HA.out] at x0
              go_wp2_with fail
              clear x0 x1 x2 x3
              go_loopg [62] (p.au).toNat (fun m tt wr => ∃ k : Nat, (k = 0 ∨ (k : Int) ≤ p.au) ∧ p.au ≤ m + k ∧ tt = .int .i64 (k : Int) ∧ Hid (Tq w wr X w.heap.size ga m1 m2 p u t p.S.n p.sl p.su (k : Int) p.S.n p.sl p.su (k : Int)))
              case atStart => exact ⟨0, .inl rfl, by omega, rfl, HQ⟩
              case round =>
                clear HQ
                obtain ⟨k, hk, hm, rfl, HQ⟩ := hrel
                by_cases hlt : (k : Int) < p.au
                · have hkb : (k : Int) ≤ 1000000 := by have := HSz.out; omega
                  have HCl := hid (Auto_1 HQ.out (by omega) hkb)
                  go_wp2_with (first
                    | (go_at_call 15; (with_reducible refine HCl.out.mono ?_); rintro e w9 ⟨rfl, hm9⟩; have HQ9 := hid hm9; have HCm := hid (Auto_2 HQ9.out (by omega) hkb); clear hm9)
                    | (go_at_call 15; (with_reducible refine HCm.out.mono ?_); rintro e w10 ⟨rfl, hm10⟩; have HQ10 := hid hm10; clear hm10))
                  go_roundg ((p.au).toNat - (k + 1))
                  case measure => omega
                  case rel => exact ⟨k + 1, .inr (by omega), by omega, by go_num, HQ10⟩
                · have hke : (k : Int) = p.au := by have := HSz.out; omega
                  have HQe := hid (show Tq w _ X w.heap.size ga m1 m2 p u t p.S.n p.sl p.su p.au p.S.n p.sl p.su p.au from hke ▸ HQ.out)
                  clear HQ hk hke
                  have HQ := HQe
                  clear HQe
                  have HT := hid (Tq.all (show Tq w wr X w.heap.size ga m1 m2 p u t p.ss.length p.sl p.su p.au p.ss.length p.sl p.su p.au from by rw [← HNe.out]; exact HQ.out))
                  clear HQ
                  have HAi := hid (Aim_1 HT.out (by have := HLl.out; omega) step t)
                  go_upto_region 29 with (go_at_call 19; (with_reducible refine HAi.out.mono ?_); rintro e w11 ⟨rfl, ht11⟩; have HT11 := hid ht11; clear ht11)
                  have HTu := hid (Turn_1 HT11.out.swap (by have := HLl.out; omega) HWl.out step u t)
                  go_upto_region 30 with (go_at_call 20; (with_reducible refine HTu.out.mono ?_); rintro e w12 ⟨rfl, ht12⟩; have HT12 := hid ht12.swap; clear ht12)
                  clear HT HT11 HAi HTu
                  obtain ⟨P1, hP1⟩ : ∃ P1, P1 = aimP p step t := ⟨_, rfl⟩
                  obtain ⟨P2, hP2⟩ : ∃ P2, P2 = turnP p step u t := ⟨_, rfl⟩
                  rw [← hP1, ← hP2] at HT12
                  have HP1 := hid hP1
                  have HP2 := hid hP2
                  clear hP1 hP2
                  go_cut [13, 14] from 74 to 77 (fun s13 s14 wx => ∃ (gA gB : Nat) (a b : PT), s13 = .pointer (some ⟨gA, 0, none⟩) ∧ s14 = .pointer (some ⟨gB, 0, none⟩) ∧ Hid (Ab w12 wx gA gB a b) ∧ Hid (a.bare = p.bare ∧ b.bare = p.bare))
                  case first =>
                    have HCl := hid (fun W (hW : Below w.heap.size w W) => (show Calls Tryd.prog 21 #[p.val] W (fun e w' => ∃ q : PT, e = .returned q.val ∧ q.bare = p.bare ∧ POwn w' W.heap.size q ∧ Below W.heap.size W w') from Clone_any p W (HP.out W hW) (by have := HLl.out; omega) HWl.out))
                    refine aim30_reg (p := p) (g := w.heap.size) rfl (by simp) HT12.out.box (fun W hW => HCl.out W (HT12.out.bel.trans (hW.mono HT12.out.bel.size))) ?_
                    intro f w' gA gB a b h13 h14 hab ha hb
                    simp only [aim30Us, List.foldl_cons, List.foldl_nil, List.setIfInBounds_toArray, List.set_cons_zero, List.set_cons_succ]
                    rw [h13, h14]
                    have HAb := hid hab
                    clear h13 h14 hab
                    go_wp2_with fail
                    go_meet
                    exact ⟨gA, gB, a, b, rfl, rfl, HAb, hid ⟨ha, hb⟩⟩
                  case rest =>
                    obtain ⟨gA, gB, ⟨sa, ⟨aA, an, ac⟩, al, au, aa⟩, ⟨sb, ⟨bA, bn, bc⟩, bl, bu, ba⟩, rfl, rfl, HAb0, HBr⟩ := hcut
                    go_upto_region 31 with fail
                    go_cut [86] from 78 to 86 (fun s86 wx => s86 = .bool (decide (0 ≤ step ∧ step < (p.S.n : Int))) ∧ Hid (Ab w12 wx gA gB ⟨sa, ⟨aA, an, ac⟩, al, au, aa⟩ ⟨sb, ⟨bA, bn, bc⟩, bl, bu, ba⟩))
                    case first =>
                      have HT13 := hid (HT12.out.keep HAb0.out.bel)
                      obtain ⟨x0, x1, x2, x3⟩ := BoxP.four (p := p) HT13.out.box
                      rw [← HA.out] at x0
                      by_cases h0 : 0 ≤ step
                      · by_cases h1 : step < (p.S.n : Int)
                        · go_wp2_with fail
                          go_meet
                          exact ⟨by simp [h0, h1], HAb0⟩
                        · go_wp2_with fail
                          go_meet
                          exact ⟨by simp [h0, h1], HAb0⟩
                      · go_wp2_with fail
                        go_meet
                        exact ⟨by rw [show decide (0 ≤ step ∧ step < (p.S.n : Int)) = false from decide_eq_false (fun e => by omega)], HAb0⟩
                    case rest =>
                      obtain ⟨rfl, HAb⟩ := hcut
                      clear HAb0
                      obtain ⟨rfl, rfl, rfl, rfl⟩ := own_nums HBr.out.1 HAb.out.ownA HNe.out
                      obtain ⟨rfl, rfl, rfl, rfl⟩ := own_nums HBr.out.2 HAb.out.swap.ownA HNe.out
                      have HT13 := hid (HT12.out.keep HAb.out.bel)
                      obtain ⟨B, hB⟩ : ∃ B : Bool, B = decide (0 ≤ step ∧ step < (p.S.n : Int)) := ⟨_, rfl⟩
                      simp only [← hB]
                      have HBo := hid hB
                      clear hB
                      go_upto_if 86 with fail
                      go_cut [] from 86 to 123 (fun wx => ∃ (a b : PT), Hid (Ab w12 wx gA gB a b) ∧ Hid (a.bare = P1.bare ∧ b.bare = P2.bare))
                      case first =>
                        cases B
                        · have hin : ¬ (0 ≤ step ∧ step < (p.S.n : Int)) := by have := HBo.out; simpa using this.symm
                          have HIn := hid (show ¬ (0 ≤ step ∧ step < (p.ss.length : Int)) from by rw [← HNe.out]; exact hin)
                          clear hin
                          go_wp2_with fail
                          go_meet
                          exact ⟨⟨sa, ⟨aA, p.S.n, ac⟩, p.sl, p.su, p.au⟩, ⟨sb, ⟨bA, p.S.n, bc⟩, p.sl, p.su, p.au⟩, HAb, hid ⟨by rw [HP1.out, aimP_out p HIn.out]; exact HBr.out.1, by rw [HP2.out, turnP_out p HIn.out]; exact HBr.out.2⟩⟩
                        · have hin : 0 ≤ step ∧ step < (p.S.n : Int) := by have := HBo.out; simpa using this.symm
                          clear HBo
                          obtain ⟨q, rfl⟩ : ∃ q : Nat, step = (q : Int) := ⟨step.toNat, by omega⟩
                          have h0 : (0 : Int) ≤ (q : Int) := by omega
                          have h1 : (q : Int) < (p.S.n : Int) := hin.2
                          clear hin
                          have hqp : q < p.ss.length := by have := HNe.out; omega
                          have HQp := hid hqp
                          have hqa : q < sa.length := by rw [show sa.length = p.ss.length from bare_len HBr.out.1]; exact hqp
                          have hqb : q < sb.length := by rw [show sb.length = p.ss.length from bare_len HBr.out.2]; exact hqp
                          have HQb := hid hqb
                          obtain ⟨g1, hA1, ⟨v1, c1⟩, f1, hab⟩ := HAb.out.aim hqa t
                          have HAb2 := hid hab
                          have HPa := hid (show PT.bare ⟨sa.set q ((sa[q]).aimed t), ⟨aA, p.S.n, ac⟩, p.sl, p.su, p.au⟩ = P1.bare from by
                            rw [HP1.out, aimP_in p hqp]
                            exact set_bare HBr.out.1 q (by show ((sa[q]).bare).aimed t = ((p.ss[q]).bare).aimed t; rw [show (sa[q]).bare = (p.ss[q]).bare from bare_get HBr.out.1 hqa hqp]))
                          have k0 := (BoxP.four (p := ⟨sa, ⟨aA, p.S.n, ac⟩, p.sl, p.su, p.au⟩) HAb.out.boxA).1
                          simp only at k0
                          have hbq : (sb[q]).bare = (p.ss[q]).bare := bare_get HBr.out.2 hqb hqp
                          have HBq := hid hbq
                          clear hab hqp hbq
                          subst hA1
                          go_upto_region 33 with fail
                          generalize wc.setCell ⟨g1, q * 265 + 1, none⟩ (.int .i64 t) = w13 at *
                          generalize sa.set q ((sa[q]).aimed t) = sa2 at *
                          clear c1 f1 k0 hqa
                          have k0 := (BoxP.four (p := ⟨sb, ⟨bA, p.S.n, bc⟩, p.sl, p.su, p.au⟩) HAb2.out.boxB).1
                          simp only at k0
                          by_cases hm : u = -1
                          · subst hm
                            obtain ⟨g2, hA2, ⟨v2, c2⟩, f2, hab⟩ := HAb2.out.swap.els hqb t
                            have HAb3 := hid hab.swap
                            clear hab
                            subst hA2
                            go_wp2_with fail
                            go_meet
                            exact ⟨⟨sa2, ⟨_, p.S.n, ac⟩, p.sl, p.su, p.au⟩, ⟨sb.set q ((sb[q]).elsed t), ⟨_, p.S.n, bc⟩, p.sl, p.su, p.au⟩, HAb3, hid ⟨HPa.out, by
                              rw [HP2.out, turnP_in p HQp.out, turnS_b]
                              exact set_bare HBr.out.2 q (by show ((sb[q]).bare).elsed t = ((p.ss[q]).bare).elsed t; rw [HBq.out])⟩⟩
                          · have hmb : (u == -1) = false := by simpa using hm
                            have HM1 := hid hm
                            clear hm
                            obtain ⟨g2, hA2, c8, hwn⟩ := HAb2.out.swap.c8 hqb
                            have HWn := hid hwn
                            have hwl : (sb[q]).ws.length = (p.ss[q]'HQp.out).ws.length := (by have hh := congrArg ST.ws HBq.out; exact congrArg List.length hh)
                            have HWq := hid hwl
                            have hwb : (sb[q]).ws.length ≤ 1000000 := by rw [hwl]; exact HWl.out _ (List.getElem_mem _)
                            rw [hwn] at c8
                            have HAt := hid (fun j (hj : j < (sb[q]).ws.length) => HAb2.out.swap.turn hqb hj t)
                            obtain ⟨wA, hwA⟩ : ∃ wA, wA = (sb[q]).W.A := ⟨_, rfl⟩
                            obtain ⟨wN, hwN⟩ : ∃ wN, wN = (sb[q]).ws.length := ⟨_, rfl⟩
                            have HWA := hid hwA
                            have HWN := hid hwN
                            replace c8 : w13.cell? ⟨g2, q * 265 + 8, none⟩ = some (.slice wA wN (sb[q]).W.c) := by rw [hwA, hwN]; exact c8
                            rw [← hwN] at hwb
                            clear hwn hwl hwA hwN
                            subst hA2
                            by_cases hw : 0 ≤ u ∧ u < (wN : Int)
                            · obtain ⟨j, rfl⟩ : ∃ j : Nat, u = (j : Int) := ⟨u.toNat, by omega⟩
                              have hj0 : (0 : Int) ≤ (j : Int) := hw.1
                              have hj1 : (j : Int) < (wN : Int) := hw.2
                              have hjl : j < (sb[q]).ws.length := by rw [← HWN.out]; omega
                              obtain ⟨g3, hA3, ⟨v3, c3⟩, f3, hab⟩ := HAt.out j hjl
                              have hA3 : wA = some ⟨g3, 0, none⟩ := HWA.out.trans hA3
                              have HAb3 := hid hab.swap
                              have HJl := hid hjl
                              clear hab hw hjl
                              subst hA3
                              go_wp2_with fail
                              go_meet
                              exact ⟨⟨sa2, ⟨_, p.S.n, ac⟩, p.sl, p.su, p.au⟩, ⟨sb.set q ((sb[q]).turned j t), ⟨_, p.S.n, bc⟩, p.sl, p.su, p.au⟩, HAb3, hid ⟨HPa.out, by
                                rw [HP2.out, turnP_in p HQp.out, turnS_w _ (by rw [← HWq.out]; exact HJl.out)]
                                exact set_bare HBr.out.2 q (by show ((sb[q]).bare).turned j t = ((p.ss[q]).bare).turned j t; rw [HBq.out])⟩⟩
                            · have HW0 := hid (show ¬ (0 ≤ u ∧ u < ((p.ss[q]'HQp.out).ws.length : Int)) from by rw [← HWq.out, ← HWN.out]; exact hw)
                              have HFb := hid (show PT.bare ⟨sb, ⟨some ⟨g2, 0, none⟩, p.S.n, bc⟩, p.sl, p.su, p.au⟩ = P2.bare from by
                                rw [HP2.out, turnP_in p HQp.out, turnS_no _ HM1.out HW0.out]
                                exact set_same_bare HBr.out.2 HQp.out rfl)
                              by_cases h2 : 0 ≤ u
                              · have h3 : ¬ u < (wN : Int) := fun e => hw ⟨h2, e⟩
                                have h5 : decide (u < (wN : Int)) = false := decide_eq_false h3
                                have h4 : (wN : Int) ≤ u := by omega
                                clear hw
                                go_wp2_with fail
                                go_meet
                                exact ⟨⟨sa2, ⟨_, p.S.n, ac⟩, p.sl, p.su, p.au⟩, ⟨sb, ⟨_, p.S.n, bc⟩, p.sl, p.su, p.au⟩, HAb2, hid ⟨HPa.out, HFb.out⟩⟩
                              · clear hw
                                go_wp2_with fail
                                go_meet
                                exact ⟨⟨sa2, ⟨_, p.S.n, ac⟩, p.sl, p.su, p.au⟩, ⟨sb, ⟨_, p.S.n, bc⟩, p.sl, p.su, p.au⟩, HAb2, hid ⟨HPa.out, HFb.out⟩⟩
                      case rest =>
                        obtain ⟨a, b, HAb2, HBb⟩ := hcut
                        clear HAb HBr HT13
                        have HTr := hid (HT12.out.keep HAb2.out.bel)
                        have HP1l := hid (show P1.ss.length ≤ 1000000 from by rw [HP1.out, aimP_len]; have := HLl.out; omega)
                        have HP2l := hid (show P2.ss.length ≤ 1000000 from by rw [HP2.out, turnP_len]; have := HLl.out; omega)
                        have HP1w := hid (show ∀ x ∈ P1.ss, x.ws.length ≤ 1000000 from by rw [HP1.out]; exact aimP_ws HWl.out step t)
                        have HP2w := hid (show ∀ x ∈ P2.ss, x.ws.length ≤ 1000000 from by rw [HP2.out]; exact turnP_ws HWl.out step u t)
                        have HPr1 := hid (Program_1 HTr.out HP1l.out HP1w.out)
                        obtain ⟨R1, hR1⟩ : ∃ R1, R1 = ckS (mayS P1) P1 := ⟨_, rfl⟩
                        obtain ⟨R2, hR2⟩ : ∃ R2, R2 = ckS (mayS P2) P2 := ⟨_, rfl⟩
                        have HR1 := hid hR1
                        have HR2 := hid hR2
                        clear hR1 hR2
                        obtain ⟨we, hwe⟩ : ∃ W, W = wc := ⟨_, rfl⟩
                        subst hwe
                        go_upto_region 37 with fail
                        go_cut [15, 16] from 124 to 127 (fun sa sb wx => ∃ (ga gb : Nat) (X1 : PT), sa = .pointer (some ⟨ga, 0, none⟩) ∧ sb = .pointer (some ⟨gb, 0, none⟩) ∧ Hid (BoxP wx ga X1) ∧ Hid (Blk wx gb 29 [.int .i64 R1.1, .int .i64 R1.2]) ∧ Hid (R1.1 = 0 → X1.bare = P1.bare ∧ POwn wx 0 X1) ∧ Hid (Below we.heap.size we wx))
                        case first =>
                          by_cases hR0 : R1.1 = 0
                          · have HR0 := hid hR0
                            clear hR0
                            have HPz := hid (show ∀ (e : Ending) (w' : World), ProgR we P1 e w' → ∃ q : PT, e = .returned (.tuple #[q.val, fltV (0, 0)]) ∧ q.bare = P1.bare ∧ POwn w' we.heap.size q from fun e w' h => h.2.2 (by rw [← HR1.out]; exact HR0.out))
                            go_wp2_with (go_at_call 16; (with_reducible refine HPr1.out.mono ?_); rintro e w13 hpr; obtain ⟨⟨rs, ⟨rA, rn, rc⟩, rl, ru, ra⟩, rfl, hqb, hqo⟩ := HPz.out e w13 hpr; have HB13 := hid hpr.1; have HQb := hid hqb; have HQo := hid hqo; clear hpr hqb hqo; unfold PT.val fltV)
                            go_meet
                            obtain ⟨hb, hk, hf⟩ := two_box w13 ⟨rs, ⟨rA, rn, rc⟩, rl, ru, ra⟩ 0 0
                            exact ⟨_, _, ⟨rs, ⟨rA, rn, rc⟩, rl, ru, ra⟩, rfl, rfl, hid hk, hid (by rw [HR0.out, show R1.2 = 0 from by have := HR0.out; rw [HR1.out] at this ⊢; exact ck_zz this]; exact hf), hid (fun _ => ⟨HQb.out, (HQo.out.keep hb).wide (Nat.zero_le _)⟩), hid (HB13.out.trans (hb.mono HB13.out.size))⟩
                          · have HR0 := hid hR0
                            clear hR0
                            have HPz := hid (show ∀ (e : Ending) (w' : World), ProgR we P1 e w' → e = .returned (.tuple #[.agg #[.slice none 0 0, .int .i64 0, .int .i64 0, .int .i64 0], .agg #[.int .i64 R1.1, .int .i64 R1.2]]) from fun e w' h => by rw [h.2.1 (by rw [← HR1.out]; exact HR0.out), ← HR1.out]; rfl)
                            go_wp2_with (go_at_call 16; (with_reducible refine HPr1.out.mono ?_); rintro e w13 hpr; obtain rfl := HPz.out e w13 hpr; have HB13 := hid hpr.1; clear hpr)
                            go_meet
                            obtain ⟨hb, hk, hf⟩ := two_box w13 PT.zero R1.1 R1.2
                            exact ⟨_, _, PT.zero, rfl, rfl, hid hk, hid hf, hid (fun e => absurd e HR0.out), hid (HB13.out.trans (hb.mono HB13.out.size))⟩
                        case rest =>
                          obtain ⟨g15, g16, X1, rfl, rfl, HX1, HF1, HXb1, HBx1⟩ := hcut
                          have HPr2 := hid (Program_1 (HTr.out.keep HBx1.out).swap HP2l.out HP2w.out)
                          obtain ⟨wh, hwh⟩ : ∃ W, W = wc := ⟨_, rfl⟩
                          subst hwh
                          go_upto_region 38 with fail
                          go_cut [17, 18] from 128 to 131 (fun sa sb wx => ∃ (ga gb : Nat) (X1 : PT), sa = .pointer (some ⟨ga, 0, none⟩) ∧ sb = .pointer (some ⟨gb, 0, none⟩) ∧ Hid (BoxP wx ga X1) ∧ Hid (Blk wx gb 29 [.int .i64 R2.1, .int .i64 R2.2]) ∧ Hid (R2.1 = 0 → X1.bare = P2.bare ∧ POwn wx 0 X1) ∧ Hid (Below wh.heap.size wh wx))
                          case first =>
                            by_cases hR0 : R2.1 = 0
                            · have HR0 := hid hR0
                              clear hR0
                              have HPz := hid (show ∀ (e : Ending) (w' : World), ProgR wh P2 e w' → ∃ q : PT, e = .returned (.tuple #[q.val, fltV (0, 0)]) ∧ q.bare = P2.bare ∧ POwn w' wh.heap.size q from fun e w' h => h.2.2 (by rw [← HR2.out]; exact HR0.out))
                              go_wp2_with (go_at_call 16; (with_reducible refine HPr2.out.mono ?_); rintro e w13 hpr; obtain ⟨⟨rs, ⟨rA, rn, rc⟩, rl, ru, ra⟩, rfl, hqb, hqo⟩ := HPz.out e w13 hpr; have HB13 := hid hpr.1; have HQb := hid hqb; have HQo := hid hqo; clear hpr hqb hqo; unfold PT.val fltV)
                              go_meet
                              obtain ⟨hb, hk, hf⟩ := two_box w13 ⟨rs, ⟨rA, rn, rc⟩, rl, ru, ra⟩ 0 0
                              exact ⟨_, _, ⟨rs, ⟨rA, rn, rc⟩, rl, ru, ra⟩, rfl, rfl, hid hk, hid (by rw [HR0.out, show R2.2 = 0 from by have := HR0.out; rw [HR2.out] at this ⊢; exact ck_zz this]; exact hf), hid (fun _ => ⟨HQb.out, (HQo.out.keep hb).wide (Nat.zero_le _)⟩), hid (HB13.out.trans (hb.mono HB13.out.size))⟩
                            · have HR0 := hid hR0
                              clear hR0
                              have HPz := hid (show ∀ (e : Ending) (w' : World), ProgR wh P2 e w' → e = .returned (.tuple #[.agg #[.slice none 0 0, .int .i64 0, .int .i64 0, .int .i64 0], .agg #[.int .i64 R2.1, .int .i64 R2.2]]) from fun e w' h => by rw [h.2.1 (by rw [← HR2.out]; exact HR0.out), ← HR2.out]; rfl)
                              go_wp2_with (go_at_call 16; (with_reducible refine HPr2.out.mono ?_); rintro e w13 hpr; obtain rfl := HPz.out e w13 hpr; have HB13 := hid hpr.1; clear hpr)
                              go_meet
                              obtain ⟨hb, hk, hf⟩ := two_box w13 PT.zero R2.1 R2.2
                              exact ⟨_, _, PT.zero, rfl, rfl, hid hk, hid hf, hid (fun e => absurd e HR0.out), hid (HB13.out.trans (hb.mono HB13.out.size))⟩
                          case rest =>
                            obtain ⟨g17, g18, X2, rfl, rfl, HX2, HF2, HXb2, HBx2⟩ := hcut
                            clear HPr1 HPr2
                            have HBz := hid (HBx1.out.trans (HBx2.out.mono HBx1.out.size))
                            have HAz := hid (HAb2.out.keep HBz.out)
                            have HX1z := hid (show BoxP wc g15 X1 from Blk.keep HX1.out HBx2.out)
                            have HF1z := hid (Blk.keep HF1.out HBx2.out)
                            have HTz := hid (Tab10.keep HT0.out (HTr.out.bel.trans (HBz.out.mono HTr.out.bel.size)))
                            have HN1 := hid (show ∀ x ∈ P1.ss, StNum x from by rw [HP1.out]; exact aimP_num HNum.out step HTt.out)
                            have HN2 := hid (show ∀ x ∈ P2.ss, StNum x from by rw [HP2.out]; exact turnP_num HNum.out step u HTt.out)
                            have HL1 := hid (linesS_len (show P1.ss.length ≤ 200 from by rw [HP1.out, aimP_len]; exact HLl.out) HN1.out (by rw [HP1.out]; exact aimP_ws HW3.out step t))
                            have HL2 := hid (linesS_len (show P2.ss.length ≤ 200 from by rw [HP2.out, turnP_len]; exact HLl.out) HN2.out (by rw [HP2.out]; exact turnP_ws HW3.out step u t))
                            have HWr : ∀ (q Q : PT), q.bare = Q.bare → Q.ss.length ≤ 1000000 → (∀ x ∈ Q.ss, x.ws.length ≤ 1000000) → ∀ W, PtOk W (fun _ => True) q → Calls Tryd.prog 10 #[.agg q.cells.toArray] W (fun e w' => ∃ v, e = .returned v ∧ v = .agg #[.int .i64 (ckS (mayS Q) Q).1, .int .i64 (ckS (mayS Q) Q).2] ∧ Below W.heap.size W w') := fun q Q hb hl hw W hW => by
                              have h := wrong_any q W hW (by rw [bare_len hb]; exact hl) (ws_bare (congrArg PT.ss hb) hw)
                              rw [ck_bare hb] at h
                              exact h.mono fun e w' hh => ⟨_, hh.1, rfl, hh.2⟩
                            have HLi : ∀ (q Q : PT), q.bare = Q.bare → Q.ss.length ≤ 1000000 → (∀ x ∈ Q.ss, x.ws.length ≤ 1000000) → (∀ x ∈ Q.ss, StNum x) → ∀ W, PtOk W (fun _ => True) q → Tab10 W → Calls Tryd.prog 18 #[.agg q.cells.toArray] W (fun e w' => ∃ v, e = .returned v ∧ Sd (linesS Q.ss) v w' ∧ Below W.heap.size W w') := fun q Q hb hl hw hn W hW ht => by
                              have h := Lines_any q W hW (by rw [bare_len hb]; exact hl) (ws_bare (congrArg PT.ss hb) hw) (num_all hb hn) ht
                              unfold LinesR at h
                              rw [lines_bare hb] at h
                              exact h.mono fun e w' hh => by
                                obtain ⟨lA, ln, lc, he, hs⟩ := hh
                                exact ⟨_, he, ⟨W, lA, ln, lc, rfl, hs⟩, hs.bel⟩
                            have HJo : ∀ (l : List ByteArray), l.length ≤ 4000000 ∧ (∀ s ∈ l, s.data.toList.length ≤ 21000000) → ∀ v W, Sd l v W → Calls Tryd.prog 17 #[v, Value.string { data := #[44] }] W (fun e w' => ∃ x, e = .returned x ∧ x = Value.string (joinB l (ByteArray.mk #[44]).data.toList) ∧ Below W.heap.size W w') := fun l hl v W hs => by
                              obtain ⟨w0, lA, ln, lc, rfl, hs⟩ := hs
                              exact (Join_any l lA ln lc (ByteArray.mk #[44]) w0 W hs hl.1 hl.2 (by decide)).mono fun e w' hh => ⟨_, hh.1, rfl, hh.2⟩
                            have HC := HC10.out
                            subst HC
                            go_upto_region 39 with fail
                            by_cases hR1 : R1.1 = 0 <;> by_cases hR2 : R2.1 = 0
                            · refine m39a_reg (gA := gA) (gB := gB) (gx := g15) (gf := g16) (gy := g17) (gh := g18) (ta := a) (tb := b) (tx := X1) (ty := X2) (r1 := R1.1) (s1 := R1.2) (r2 := R2.1) (s2 := R2.2) (JX := joinB (linesS P1.ss) (ByteArray.mk #[44]).data.toList) (JY := joinB (linesS P2.ss) (ByteArray.mk #[44]).data.toList) (SX := Sd (linesS P1.ss)) (SA := Sd (linesS P1.ss)) (SY := Sd (linesS P2.ss)) (SB := Sd (linesS P2.ss)) rfl rfl rfl rfl rfl rfl (by simp) (Sd.keep _) (Sd.keep _) (Sd.keep _) (Sd.keep _)
                                HAz.out.boxA HAz.out.boxB HX1z.out HF1z.out HX2.out HF2.out
                                (fun W hW => by rw [HR1.out]; exact HWr a P1 HBb.out.1 HP1l.out HP1w.out W (HAz.out.keep hW).okA)
                                (fun W hW => by rw [HR2.out]; exact HWr b P2 HBb.out.2 HP2l.out HP2w.out W (HAz.out.keep hW).swap.okA)
                                (neq_e0 hR1) (neq_e0 hR2)
                                (fun W hW => HLi X1 P1 (HXb1.out hR1).1 HP1l.out HP1w.out HN1.out W (((HXb1.out hR1).2.keep (HBx2.out.trans (hW.mono HBx2.out.size))).ok.mono (fun _ _ _ => rfl) (Nat.le_refl _) (fun _ _ _ => trivial)) (Tab10.keep HTz.out hW)) (fun v W hs hW => HJo _ HL1.out v W hs)
                                (fun W hW => HLi a P1 HBb.out.1 HP1l.out HP1w.out HN1.out W (HAz.out.keep hW).okA (Tab10.keep HTz.out hW)) (fun v W hs hW => HJo _ HL1.out v W hs)
                                (fun W hW => HLi X2 P2 (HXb2.out hR2).1 HP2l.out HP2w.out HN2.out W (((HXb2.out hR2).2.keep hW).ok.mono (fun _ _ _ => rfl) (Nat.le_refl _) (fun _ _ _ => trivial)) (Tab10.keep HTz.out hW)) (fun v W hs hW => HJo _ HL2.out v W hs)
                                (fun W hW => HLi b P2 HBb.out.2 HP2l.out HP2w.out HN2.out W (HAz.out.keep hW).swap.okA (Tab10.keep HTz.out hW)) (fun v W hs hW => HJo _ HL2.out v W hs) ?_
                              intro f w' h6 hb
                              simp only [m39aUs, List.foldl_cons, List.foldl_nil, List.setIfInBounds_toArray, List.set_cons_zero, List.set_cons_succ]
                              rw [h6]
                              have HE := hid ((HTr.out.bel.trans (HBz.out.mono HTr.out.bel.size)).trans (hb.mono (HTr.out.bel.trans (HBz.out.mono HTr.out.bel.size)).size))
                              clear hb h6
                              go_wp2_with fail
                              show RR (.returned (.bool true)) w'
                              rw [HRR.out]
                              exact ⟨rfl, HE.out⟩
                            · refine m39b_reg (gA := gA) (gB := gB) (gx := g15) (gf := g16) (gy := g17) (gh := g18) (ta := a) (tb := b) (tx := X1) (ty := X2) (r1 := R1.1) (s1 := R1.2) (r2 := R2.1) (s2 := R2.2) (JX := joinB (linesS P1.ss) (ByteArray.mk #[44]).data.toList) (JY := joinB (linesS P2.ss) (ByteArray.mk #[44]).data.toList) (SX := Sd (linesS P1.ss)) (SA := Sd (linesS P1.ss)) rfl rfl rfl rfl rfl rfl (by simp) (Sd.keep _) (Sd.keep _)
                                HAz.out.boxA HAz.out.boxB HX1z.out HF1z.out HX2.out HF2.out
                                (fun W hW => by rw [HR1.out]; exact HWr a P1 HBb.out.1 HP1l.out HP1w.out W (HAz.out.keep hW).okA)
                                (fun W hW => by rw [HR2.out]; exact HWr b P2 HBb.out.2 HP2l.out HP2w.out W (HAz.out.keep hW).swap.okA)
                                (neq_e0 hR1) (neq_e1 hR2)
                                (fun W hW => HLi X1 P1 (HXb1.out hR1).1 HP1l.out HP1w.out HN1.out W (((HXb1.out hR1).2.keep (HBx2.out.trans (hW.mono HBx2.out.size))).ok.mono (fun _ _ _ => rfl) (Nat.le_refl _) (fun _ _ _ => trivial)) (Tab10.keep HTz.out hW)) (fun v W hs hW => HJo _ HL1.out v W hs)
                                (fun W hW => HLi a P1 HBb.out.1 HP1l.out HP1w.out HN1.out W (HAz.out.keep hW).okA (Tab10.keep HTz.out hW)) (fun v W hs hW => HJo _ HL1.out v W hs) ?_
                              intro f w' h6 hb
                              simp only [m39bUs, List.foldl_cons, List.foldl_nil, List.setIfInBounds_toArray, List.set_cons_zero, List.set_cons_succ]
                              rw [h6]
                              have HE := hid ((HTr.out.bel.trans (HBz.out.mono HTr.out.bel.size)).trans (hb.mono (HTr.out.bel.trans (HBz.out.mono HTr.out.bel.size)).size))
                              clear hb h6
                              go_wp2_with fail
                              show RR (.returned (.bool true)) w'
                              rw [HRR.out]
                              exact ⟨rfl, HE.out⟩
                            · refine m39c_reg (gA := gA) (gB := gB) (gx := g15) (gf := g16) (gy := g17) (gh := g18) (ta := a) (tb := b) (tx := X1) (ty := X2) (r1 := R1.1) (s1 := R1.2) (r2 := R2.1) (s2 := R2.2) (JX := joinB (linesS P1.ss) (ByteArray.mk #[44]).data.toList) (JY := joinB (linesS P2.ss) (ByteArray.mk #[44]).data.toList) (SY := Sd (linesS P2.ss)) (SB := Sd (linesS P2.ss)) rfl rfl rfl rfl rfl rfl (by simp) (Sd.keep _) (Sd.keep _)
                                HAz.out.boxA HAz.out.boxB HX1z.out HF1z.out HX2.out HF2.out
                                (fun W hW => by rw [HR1.out]; exact HWr a P1 HBb.out.1 HP1l.out HP1w.out W (HAz.out.keep hW).okA)
                                (fun W hW => by rw [HR2.out]; exact HWr b P2 HBb.out.2 HP2l.out HP2w.out W (HAz.out.keep hW).swap.okA)
                                (neq_e1 hR1) (neq_e0 hR2)
                                (fun W hW => HLi X2 P2 (HXb2.out hR2).1 HP2l.out HP2w.out HN2.out W (((HXb2.out hR2).2.keep hW).ok.mono (fun _ _ _ => rfl) (Nat.le_refl _) (fun _ _ _ => trivial)) (Tab10.keep HTz.out hW)) (fun v W hs hW => HJo _ HL2.out v W hs)
                                (fun W hW => HLi b P2 HBb.out.2 HP2l.out HP2w.out HN2.out W (HAz.out.keep hW).swap.okA (Tab10.keep HTz.out hW)) (fun v W hs hW => HJo _ HL2.out v W hs) ?_
                              intro f w' h6 hb
                              simp only [m39cUs, List.foldl_cons, List.foldl_nil, List.setIfInBounds_toArray, List.set_cons_zero, List.set_cons_succ]
                              rw [h6]
                              have HE := hid ((HTr.out.bel.trans (HBz.out.mono HTr.out.bel.size)).trans (hb.mono (HTr.out.bel.trans (HBz.out.mono HTr.out.bel.size)).size))
                              clear hb h6
                              go_wp2_with fail
                              show RR (.returned (.bool true)) w'
                              rw [HRR.out]
                              exact ⟨rfl, HE.out⟩
                            · refine m39d_reg (gA := gA) (gB := gB) (gx := g15) (gf := g16) (gy := g17) (gh := g18) (ta := a) (tb := b) (tx := X1) (ty := X2) (r1 := R1.1) (s1 := R1.2) (r2 := R2.1) (s2 := R2.2) (JX := joinB (linesS P1.ss) (ByteArray.mk #[44]).data.toList) (JY := joinB (linesS P2.ss) (ByteArray.mk #[44]).data.toList) rfl rfl rfl rfl rfl rfl (by simp)
                                HAz.out.boxA HAz.out.boxB HX1z.out HF1z.out HX2.out HF2.out
                                (fun W hW => by rw [HR1.out]; exact HWr a P1 HBb.out.1 HP1l.out HP1w.out W (HAz.out.keep hW).okA)
                                (fun W hW => by rw [HR2.out]; exact HWr b P2 HBb.out.2 HP2l.out HP2w.out W (HAz.out.keep hW).swap.okA)
                                (neq_e1 hR1) (neq_e1 hR2) ?_
                              intro f w' h6 hb
                              simp only [m39dUs, List.foldl_cons, List.foldl_nil, List.setIfInBounds_toArray, List.set_cons_zero, List.set_cons_succ]
                              rw [h6]
                              have HE := hid ((HTr.out.bel.trans (HBz.out.mono HTr.out.bel.size)).trans (hb.mono (HTr.out.bel.trans (HBz.out.mono HTr.out.bel.size)).size))
                              clear hb h6
                              go_wp2_with fail
                              show RR (.returned (.bool true)) w'
                              rw [HRR.out]
                              exact ⟨rfl, HE.out⟩

theorem aims_row {W : World} (p : PT) (h : PtOk W (· < W.heap.size) p ∧ p.S.n ≤ 9223372036854775807 ∧ (∀ x ∈ p.ss, StNum x) ∧ I64 p.sl ∧ I64 p.su ∧ I64 p.au) (step : Int) (hst : I64 step) (u t : Int) (hut : I64 u ∧ I64 t) (ht : Tab10 W) : Calls Tryd.prog 5 #[p.val, .int .i64 step, .agg #[.int .i64 u, .int .i64 t]] W fun e w' => e = .returned (.bool true) ∧ Below W.heap.size W w' := aims_walk p step u t W h.1 h.2.1 h.2.2.1 hst hut.1 hut.2 ht
section
variable {H : Type} {enc : TypeId × Value → H} {W : World}
set_option maxRecDepth 10000 in
/-- Two numbers that came in. -/
theorem open_two {v : Value} {d : DataW H} {p : List MemPlace} (h : DataW.Trod enc Tryd.prog W 0 (fun _ => true) true 47 v d p) : ∃ x y : Int, v = .agg #[.int .i64 x, .int .i64 y] ∧ I64 x ∧ I64 y := by
  obtain ⟨fuel, h⟩ := h
  obtain ⟨xs, m, rfl, hx, hlen, hn, hel⟩ := DataW.trod_array Tryd.underlying47 h
  have c4 : Tryd.prog.cellsOf 47 = 2 := by kernel_rfl
  have c1 : Tryd.prog.cellsOf 3 = 1 := by kernel_rfl
  rw [c4] at hlen
  have h0 := hel 0 (by omega)
  have h1 := hel 1 (by omega)
  rw [c1, List.getElem?_eq_getElem (by omega)] at h0 h1
  obtain ⟨x, e0, _, w0⟩ := DataW.trod_int Tryd.underlying3 h0
  obtain ⟨y, e1, _, w1⟩ := DataW.trod_int Tryd.underlying3 h1
  have k0 := cell_of_part e0
  have k1 := cell_of_part e1
  refine ⟨x, y, ?_, bounds_i64 w0, bounds_i64 w1⟩
  have e : v.cells.toList = [.int .i64 x, .int .i64 y] := by
    apply List.ext_getElem?
    intro i
    by_cases hi : i < 2
    · obtain rfl | rfl : i = 0 ∨ i = 1 := by omega
      · exact k0
      · exact k1
    · rw [List.getElem?_eq_none (by omega), List.getElem?_eq_none (by show 2 ≤ i; omega)]
  clear h
  cases v with
  | agg cs =>
    obtain ⟨l2⟩ := cs
    have e : l2 = _ := e
    rw [e]
  | _ => simp [Value.cells] at hlen
end
end Go.Proofs.YtpbkdokhlimpfaaDoor
