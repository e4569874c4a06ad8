/- code: Check. -/
import Derived.Test.YtpbkdokhlimpfaaDoorCdC
namespace Go.Proofs.YtpbkdokhlimpfaaDoor
set_option linter.unusedSimpArgs false
set_option linter.unusedVariables false
open Go.RowKit

def fstBad {α : Type} (f : α → Bool) : List α → Nat → Option Nat
  | [], _ => none
  | x :: l, i => if f x = true then fstBad f l (i + 1) else some i
theorem fstBad_at {α : Type} (f : α → Bool) : ∀ (l : List α) (i q : Nat) (h : q < l.length), (l.take q).all f = true → f l[q] = false → fstBad f l i = some (i + q)
  | [], _, q, h, _, _ => by simp at h
  | x :: l, i, 0, h, _, hf => by
    have hf : f x = false := hf
    simp [fstBad, hf]
  | x :: l, i, q + 1, h, ht, hf => by
    rw [List.take_succ_cons, List.all_cons, Bool.and_eq_true] at ht
    have := fstBad_at f l (i + 1) q (by simpa using h) ht.2 hf
    simp only [fstBad]
    rw [if_pos ht.1, this]
    congr 1
    omega
theorem fstBad_none {α : Type} (f : α → Bool) : ∀ (l : List α) (i : Nat), l.all f = true → fstBad f l i = none
  | [], _, _ => rfl
  | x :: l, i, h => by
    rw [List.all_cons, Bool.and_eq_true] at h
    simp only [fstBad]
    rw [if_pos h.1]
    exact fstBad_none f l (i + 1) h.2
def fewS (i : Int) : Bool := decide (0 ≤ i) && decide (i ≤ 4096)
def sizeS (p : PT) : Bool := decide (p.ss.length ≠ 0) && (decide (p.ss.length ≤ 65536) && (fewS p.sl && (fewS p.su && fewS p.au)))
def lastS (p : PT) : Bool := match p.ss[p.ss.length - 1]? with
  | some x => decide (x.k = 20) || (decide (x.k = 16) || decide (x.k = 11))
  | none => false
/-- What is wrong with a program: its code, and the step. -/
def ckS (f : ST → Bool) (p : PT) : Int × Int :=
  if sizeS p = false then (2, 0) else match fstBad f p.ss 0 with
  | some i => (190, (i : Int))
  | none => if lastS p = true then (0, 0) else (190, ((p.ss.length - 1 : Nat) : Int))
theorem fault_set {w1 : World} {g : Nat} {T : TypeId} {u v : Value} (h : Blk w1 g T [u, v]) (u' v' : Value) : Blk ((w1.setCell ⟨g, 0, none⟩ u').setCell ⟨g, 1, none⟩ v') g T [u', v'] := by
  have := (h.put 0 u').put 1 v'
  simpa using this
theorem fault_chg {w w1 : World} {g : Nat} (h : Below w.heap.size w w1) (hg : w.heap.size ≤ g) (u' v' : Value) : Below w.heap.size w ((w1.setCell ⟨g, 0, none⟩ u').setCell ⟨g, 1, none⟩ v') :=
  Chg.below h (((Chg.refl w1 (· = g)).set g 0 rfl u').set g 1 rfl v') h.size (fun j hj => by omega)
def fltV (c : Int × Int) : Value := .agg #[.int .i64 c.1, .int .i64 c.2]
set_option maxRecDepth 100000 in
set_option maxHeartbeats 8000000 in
theorem Check_any (HMay : ∀ (p : PT) (x : ST) (b o : Nat) (w : World) (P : Nat → Prop), At w b o x → StOk w P x → p.S.n = p.ss.length → x.ws.length ≤ 1000000 → Calls Tryd.prog 25 #[p.val, .pointer (some ⟨b, o, none⟩)] w fun e w' => e = .returned (.bool (mayS p x)) ∧ Below w.heap.size w w')
    (p : PT) (w : World) {P : Nat → Prop} (hP : PtOk w P p) (hl : p.ss.length ≤ 1000000) (hws : ∀ x ∈ p.ss, x.ws.length ≤ 1000000) :
    Calls Tryd.prog 9 #[p.val] w fun e w' => e = .returned (fltV (ckS (mayS p) p)) ∧ Below w.heap.size w w' := by
  obtain ⟨hb0, h0⟩ := box_prog w p
  have hb1 : Below (w.alloc (.cells p.cells.toArray 24)).heap.size (w.alloc (.cells p.cells.toArray 24)) ((w.alloc (.cells p.cells.toArray 24)).alloc (.cells #[.int .i64 0, .int .i64 0] 29)) := (Below.refl _ _).alloc (Nat.le_refl _) _
  have hf : Blk ((w.alloc (.cells p.cells.toArray 24)).alloc (.cells #[.int .i64 0, .int .i64 0] 29)) (w.heap.size + 1) 29 [.int .i64 0, .int .i64 0] := by
    have := heap_alloc_new (w.alloc (.cells p.cells.toArray 24)) (.cells #[.int .i64 0, .int .i64 0] 29)
    rw [World.size_alloc] at this
    exact this
  have h1 : BoxP _ w.heap.size p := Blk.keep h0 hb1
  have hb := below_then' hb0 hb1
  have hpc : p.cells.toArray = #[.slice p.S.A p.S.n p.S.c, .int .i64 p.sl, .int .i64 p.su, .int .i64 p.au] := rfl
  rw [hpc] at hb h1 hf
  have HX := hid h1
  have HB := hid hb
  have HFl := hid hf
  have HP := hid (hP.keep hb)
  have HNe := hid hP.n
  have HWs := hid hws
  have hnb : p.S.n ≤ 1000000 := by rw [hP.n]; exact hl
  have HM := hid (HMay p)
  obtain ⟨RR, hRR⟩ : ∃ RR : Ending → World → Prop, RR = fun e w' => e = .returned (fltV (ckS (mayS p) p)) ∧ Below w.heap.size w w' := ⟨_, rfl⟩
  rw [← hRR]
  have HRR := hid hRR
  obtain ⟨R, hR⟩ : ∃ R, R = ckS (mayS p) p := ⟨_, rfl⟩
  rw [← hR] at HRR
  have HR := hid hR
  obtain ⟨x0, x1, x2, x3⟩ := h1.four
  have HFw := hid (fun i W => few_any i W)
  clear hb hb0 hb1 h0 h1 hpc hP hf hl hws hRR hR HMay
  unfold PT.val at HM ⊢
  obtain ⟨ss, ⟨A, n, c⟩, sl, su, au⟩ := p
  simp only at *
  have f0 := Blk.at HFl.out 0
  have f1 := Blk.at HFl.out 1
  have ff := Blk.free HFl.out
  simp only [List.getElem?_cons_zero, List.getElem?_cons_succ] at f0 f1
  go_enter Tryd.func9, Tryd.ntmps9
  go_upto_region 1 with (fail)
  generalize (w.alloc (.cells #[.slice A n c, .int .i64 sl, .int .i64 su, .int .i64 au] 24)).alloc (.cells #[.int .i64 0, .int .i64 0] 29) = w1 at *
  by_cases hn0 : (n : Int) = 0
  · have hl0 : ss.length = 0 := by have := HNe.out; omega
    go_wp2_with fail
    have HF2 := hid (fault_set HFl.out (.int .i64 2) (.int .i64 0))
    have hRe : R = (2, 0) := by
      rw [HR.out]
      unfold ckS
      rw [if_pos (by simp only [sizeS]; simp [hl0])]
    exact bodyPost_ret (v := .agg #[.int .i64 2, .int .i64 0]) (results_cell_row (P := Tryd.prog) (fn := Tryd.f9) rfl _ _ (w.heap.size + 1) 29 _ (0, 0) _ rfl HF2.out Tryd.underlying29 rfl (by kernel_rfl)) rfl (by rw [HRR.out, hRe]; exact ⟨rfl, fault_chg HB.out (by omega) _ _⟩)
  by_cases hn1 : (65536 : Int) < (n : Int)
  · have hl1 : ¬ ss.length ≤ 65536 := by have := HNe.out; omega
    go_wp2_with fail
    have HF2 := hid (fault_set HFl.out (.int .i64 2) (.int .i64 0))
    have hRe : R = (2, 0) := by
      rw [HR.out]
      unfold ckS
      rw [if_pos (by simp only [sizeS]; simp [hl1])]
    exact bodyPost_ret (v := .agg #[.int .i64 2, .int .i64 0]) (results_cell_row (P := Tryd.prog) (fn := Tryd.f9) rfl _ _ (w.heap.size + 1) 29 _ (0, 0) _ rfl HF2.out Tryd.underlying29 rfl (by kernel_rfl)) rfl (by rw [HRR.out, hRe]; exact ⟨rfl, fault_chg HB.out (by omega) _ _⟩)
  obtain ⟨a1, ha1⟩ : ∃ b, b = fewS sl := ⟨_, rfl⟩
  have HF1 := hid (show ∀ W, Calls Tryd.prog 24 #[.int .i64 sl] W (fun e w' => e = .returned (.bool a1) ∧ w' = W) from fun W => by rw [ha1]; exact HFw.out sl W)
  have Ea1 := hid ha1
  clear ha1
  cases a1
  · go_wp2_with (go_at_call 24; first | (with_reducible refine (HF1.out _).mono ?_; rintro e w4 ⟨rfl, rfl⟩) | (with_reducible refine (HF2.out _).mono ?_; rintro e w4 ⟨rfl, rfl⟩) | (with_reducible refine (HF3.out _).mono ?_; rintro e w4 ⟨rfl, rfl⟩))
    have HF2 := hid (fault_set HFl.out (.int .i64 2) (.int .i64 0))
    have hRe : R = (2, 0) := by
      rw [HR.out]
      unfold ckS
      rw [if_pos (by simp only [sizeS]; simp [← Ea1.out])]
    exact bodyPost_ret (v := .agg #[.int .i64 2, .int .i64 0]) (results_cell_row (P := Tryd.prog) (fn := Tryd.f9) rfl _ _ (w.heap.size + 1) 29 _ (0, 0) _ rfl HF2.out Tryd.underlying29 rfl (by kernel_rfl)) rfl (by rw [HRR.out, hRe]; exact ⟨rfl, fault_chg HB.out (by omega) _ _⟩)
  obtain ⟨a2, ha2⟩ : ∃ b, b = fewS su := ⟨_, rfl⟩
  have HF2 := hid (show ∀ W, Calls Tryd.prog 24 #[.int .i64 su] W (fun e w' => e = .returned (.bool a2) ∧ w' = W) from fun W => by rw [ha2]; exact HFw.out su W)
  have Ea2 := hid ha2
  clear ha2
  cases a2
  · go_wp2_with (go_at_call 24; first | (with_reducible refine (HF1.out _).mono ?_; rintro e w4 ⟨rfl, rfl⟩) | (with_reducible refine (HF2.out _).mono ?_; rintro e w4 ⟨rfl, rfl⟩) | (with_reducible refine (HF3.out _).mono ?_; rintro e w4 ⟨rfl, rfl⟩))
    have HF2 := hid (fault_set HFl.out (.int .i64 2) (.int .i64 0))
    have hRe : R = (2, 0) := by
      rw [HR.out]
      unfold ckS
      rw [if_pos (by simp only [sizeS]; simp [← Ea2.out])]
    exact bodyPost_ret (v := .agg #[.int .i64 2, .int .i64 0]) (results_cell_row (P := Tryd.prog) (fn := Tryd.f9) rfl _ _ (w.heap.size + 1) 29 _ (0, 0) _ rfl HF2.out Tryd.underlying29 rfl (by kernel_rfl)) rfl (by rw [HRR.out, hRe]; exact ⟨rfl, fault_chg HB.out (by omega) _ _⟩)
  obtain ⟨a3, ha3⟩ : ∃ b, b = fewS au := ⟨_, rfl⟩
  have HF3 := hid (show ∀ W, Calls Tryd.prog 24 #[.int .i64 au] W (fun e w' => e = .returned (.bool a3) ∧ w' = W) from fun W => by rw [ha3]; exact HFw.out au W)
  have Ea3 := hid ha3
  clear ha3
  cases a3
  · go_wp2_with (go_at_call 24; first | (with_reducible refine (HF1.out _).mono ?_; rintro e w4 ⟨rfl, rfl⟩) | (with_reducible refine (HF2.out _).mono ?_; rintro e w4 ⟨rfl, rfl⟩) | (with_reducible refine (HF3.out _).mono ?_; rintro e w4 ⟨rfl, rfl⟩))
    have HF2 := hid (fault_set HFl.out (.int .i64 2) (.int .i64 0))
    have hRe : R = (2, 0) := by
      rw [HR.out]
      unfold ckS
      rw [if_pos (by simp only [sizeS]; simp [← Ea3.out])]
    exact bodyPost_ret (v := .agg #[.int .i64 2, .int .i64 0]) (results_cell_row (P := Tryd.prog) (fn := Tryd.f9) rfl _ _ (w.heap.size + 1) 29 _ (0, 0) _ rfl HF2.out Tryd.underlying29 rfl (by kernel_rfl)) rfl (by rw [HRR.out, hRe]; exact ⟨rfl, fault_chg HB.out (by omega) _ _⟩)
  have HSz := hid (show sizeS ⟨ss, ⟨A, n, c⟩, sl, su, au⟩ = true by
    simp only [sizeS, ← Ea1.out, ← Ea2.out, ← Ea3.out]
    have h0 : ss.length ≠ 0 := by have := HNe.out; omega
    have h2 : ss.length ≤ 65536 := by have := HNe.out; omega
    rw [decide_eq_true h0, decide_eq_true h2]
    rfl)
  have HR2 := hid (show R = match fstBad (mayS ⟨ss, ⟨A, n, c⟩, sl, su, au⟩) ss 0 with
    | some i => (190, (i : Int))
    | none => if lastS ⟨ss, ⟨A, n, c⟩, sl, su, au⟩ = true then (0, 0) else (190, ((ss.length - 1 : Nat) : Int)) by
    rw [HR.out]
    unfold ckS
    rw [HSz.out, if_neg (by simp)])
  have HN0 := hid (show 0 < ss.length by have := HNe.out; omega)
  go_upto_region 4 with ((go_at_call 24; first | (with_reducible refine (HF1.out _).mono ?_; rintro e w4 ⟨rfl, rfl⟩) | (with_reducible refine (HF2.out _).mono ?_; rintro e w4 ⟨rfl, rfl⟩) | (with_reducible refine (HF3.out _).mono ?_; rintro e w4 ⟨rfl, rfl⟩)))
  have hz : ((n : Int) == 0) = false := by simpa using hn0
  simp only [hz]
  clear hz hn0
  go_wp2_with fail
  generalize w4 = w1 at *
  obtain ⟨F, hF⟩ : ∃ F, F = mayS ⟨ss, ⟨A, n, c⟩, sl, su, au⟩ := ⟨_, rfl⟩
  rw [← hF] at HR2
  have HFe := hid hF
  clear hF x0 x1 x2 x3 f0 f1 ff HF1 HF2 HF3
  go_loopw [37] (fun i wr => ∃ q : Nat, q ≤ n ∧ i = .int .i64 q ∧ Hid ((ss.take q).all F = true) ∧ Hid (Below w1.heap.size w1 wr)) (fun i _ => n - (intOf i).toNat)
  case atStart => exact ⟨0, by omega, rfl, hid (by simp), hid (Below.refl _ _)⟩
  case round =>
    obtain ⟨q, hq, rfl, HT, HBr⟩ := hrel
    obtain ⟨x0, x1, x2, x3⟩ := BoxP.four (p := ⟨ss, ⟨A, n, c⟩, sl, su, au⟩) (Blk.keep HX.out HBr.out)
    simp only at x0 x1 x2 x3
    have HPr := hid (HP.out.keep HBr.out)
    have HFr := hid (HFl.out.keep HBr.out)
    have HBw := hid (below_then' HB.out HBr.out)
    by_cases hlt : q < n
    · have hlt' : (q : Int) < (n : Int) := by omega
      have hql : q < ss.length := by rw [← HNe.out]; exact hlt
      obtain ⟨b1, o1, hA, hbl, _, hAt⟩ := HPr.out.at hql
      have hA : A = some ⟨b1, o1, none⟩ := hA
      have HTk := hid (all_take F ss hql)
      have HAf := hid (fun h1 h2 => fstBad_at F ss 0 q hql h1 h2)
      have HWq := hid (HWs.out _ (List.getElem_mem hql))
      have HSq := hid (HPr.out.each _ (List.getElem_mem hql))
      have HAq := hid hAt
      have hd := below_d0' wr
      have hM := HM.out ss[q] b1 (o1 + q * 265) wr.drew _ (HAq.out.keep (hd.block b1 hbl)) (HSq.out.keep hd) HNe.out HWq.out
      rw [← HFe.out] at hM
      obtain ⟨am, ham⟩ : ∃ am, am = F ss[q] := ⟨_, rfl⟩
      rw [← ham] at hM HTk HAf
      have HMq := hid hM
      rw [hA] at x0 ⊢
      clear hM ham hAt HAq HSq HWq hbl hql
      go_upto_region 6 with (fail)
      clear x0 x1 x2 x3
      obtain ⟨x0, x1, x2, x3⟩ := BoxP.four (p := ⟨ss, ⟨A, n, c⟩, sl, su, au⟩) (Blk.keep HX.out (below_then' HBr.out hd))
      simp only [hA] at x0 x1 x2 x3
      rw [hA] at HMq
      go_cut [46] from 40 to 46 (fun s wx => s = .bool (!am) ∧ Hid (Below wr.heap.size wr wx))
      case first =>
        go_region_with (first | (go_at_call 25; (with_reducible refine HMq.out.mono ?_); rintro e w6 ⟨rfl, hb6⟩; have HB6 := hid (below_then' hd hb6); clear hb6 x0 x1 x2 x3))
        all_goals (go_wp2_with fail; go_meet)
        all_goals exact ⟨by first | rfl | simp, HB6⟩
      case rest =>
        obtain ⟨rfl, HBc⟩ := hcut
        generalize wc = w6 at *
        have HB6 := hid HBc.out
        cases am
        · have f0 := Blk.at (HFr.out.keep HB6.out) 0
          have f1 := Blk.at (HFr.out.keep HB6.out) 1
          have ff := Blk.free (HFr.out.keep HB6.out)
          simp only [List.getElem?_cons_zero, List.getElem?_cons_succ] at f0 f1
          clear x0 x1 x2 x3
          go_wp2_with fail
          have HF2 := hid (fault_set (HFr.out.keep HB6.out) (.int .i64 190) (.int .i64 (q : Int)))
          have hRe : R = (190, (q : Int)) := by
            rw [HR2.out, HAf.out HT.out (by first | rfl | trivial)]
            simp
          exact bodyPost_ret (v := .agg #[.int .i64 190, .int .i64 (q : Int)]) (results_cell_row (P := Tryd.prog) (fn := Tryd.f9) rfl _ _ (w.heap.size + 1) 29 _ (0, 0) _ rfl HF2.out Tryd.underlying29 rfl (by kernel_rfl)) rfl (by rw [HRR.out, hRe]; exact ⟨rfl, fault_chg (below_then' HBw.out HB6.out) (by omega) _ _⟩)
        · clear x0 x1 x2 x3
          go_wp2_with fail
          exact ⟨⟨q + 1, by omega, by go_num, hid (by rw [HTk.out, HT.out]; rfl), hid (below_then' HBr.out HB6.out)⟩, by simp [intOf]; omega⟩
    · obtain rfl : q = n := by omega
      have e : ss.take q = ss := by rw [HNe.out, List.take_length]
      rw [e] at HT
      have HR3 := hid (show R = if lastS ⟨ss, ⟨A, q, c⟩, sl, su, au⟩ = true then (0, 0) else (190, ((ss.length - 1 : Nat) : Int)) by rw [HR2.out, fstBad_none F ss 0 HT.out])
      have hml : ss.length - 1 < ss.length := by have := HN0.out; omega
      obtain ⟨b1, o1, hA, hbl, _, hAt⟩ := HPr.out.at hml
      have hA : A = some ⟨b1, o1, none⟩ := hA
      have HLs := hid (show lastS ⟨ss, ⟨A, q, c⟩, sl, su, au⟩ = (decide ((ss[ss.length - 1]).k = 20) || (decide ((ss[ss.length - 1]).k = 16) || decide ((ss[ss.length - 1]).k = 11))) by
        unfold lastS
        simp only [List.getElem?_eq_getElem hml])
      have c0 := hAt.low.c0
      obtain ⟨lk, hlk⟩ : ∃ lk, lk = (ss[ss.length - 1]).k := ⟨_, rfl⟩
      rw [← hlk] at c0 HLs
      clear hlk hAt hbl hml e hlt
      obtain ⟨m, hm⟩ : ∃ m, q = m + 1 := ⟨q - 1, by have := HN0.out; have := HNe.out; omega⟩
      have hm1 : ss.length - 1 = m := by have := HNe.out; omega
      rw [hm1] at c0 HR3
      have HMm := hid hm
      rw [hA] at x0 ⊢
      have f0 := Blk.at HFr.out 0
      have f1 := Blk.at HFr.out 1
      have ff := Blk.free HFr.out
      simp only [List.getElem?_cons_zero, List.getElem?_cons_succ] at f0 f1
      subst hm
      go_upto_region 11 with (fail)
      by_cases k20 : lk = 20
      · go_wp2_with fail
        have HF2 := hid (fault_set HFr.out (.int .i64 0) (.int .i64 0))
        have hRe : R = (0, 0) := by
          rw [HR3.out, HLs.out, if_pos (by rw [k20]; decide)]
        exact bodyPost_ret (v := .agg #[.int .i64 0, .int .i64 0]) (results_cell_row (P := Tryd.prog) (fn := Tryd.f9) rfl _ _ (w.heap.size + 1) 29 _ (0, 0) _ rfl HF2.out Tryd.underlying29 rfl (by kernel_rfl)) rfl (by rw [HRR.out, hRe]; exact ⟨rfl, fault_chg HBw.out (by omega) _ _⟩)
      · by_cases k16 : lk = 16
        · go_wp2_with fail
          have HF2 := hid (fault_set HFr.out (.int .i64 0) (.int .i64 0))
          have hRe : R = (0, 0) := by
            rw [HR3.out, HLs.out, if_pos (by rw [k16]; decide)]
          exact bodyPost_ret (v := .agg #[.int .i64 0, .int .i64 0]) (results_cell_row (P := Tryd.prog) (fn := Tryd.f9) rfl _ _ (w.heap.size + 1) 29 _ (0, 0) _ rfl HF2.out Tryd.underlying29 rfl (by kernel_rfl)) rfl (by rw [HRR.out, hRe]; exact ⟨rfl, fault_chg HBw.out (by omega) _ _⟩)
        · by_cases k11 : lk = 11
          · subst k11
            go_wp2_with fail
            have HF2 := hid (fault_set HFr.out (.int .i64 0) (.int .i64 0))
            have hRe : R = (0, 0) := by
              rw [HR3.out, HLs.out, if_pos (by decide)]
            exact bodyPost_ret (v := .agg #[.int .i64 0, .int .i64 0]) (results_cell_row (P := Tryd.prog) (fn := Tryd.f9) rfl _ _ (w.heap.size + 1) 29 _ (0, 0) _ rfl HF2.out Tryd.underlying29 rfl (by kernel_rfl)) rfl (by rw [HRR.out, hRe]; exact ⟨rfl, fault_chg HBw.out (by omega) _ _⟩)
          · have q20 : (lk == 20) = false := by simpa using k20
            have q16 : (lk == 16) = false := by simpa using k16
            have q11 : (lk == 11) = false := by simpa using k11
            have K20 := hid k20
            have K16 := hid k16
            have K11 := hid k11
            clear k20 k16 k11
            go_wp2_with fail
            have HF2 := hid (fault_set HFr.out (.int .i64 190) (.int .i64 (m : Int)))
            have hRe : R = (190, (m : Int)) := by
              rw [HR3.out, HLs.out, if_neg (by rw [decide_eq_false K20.out, decide_eq_false K16.out, decide_eq_false K11.out]; simp)]
            exact bodyPost_ret (v := .agg #[.int .i64 190, .int .i64 (m : Int)]) (results_cell_row (P := Tryd.prog) (fn := Tryd.f9) rfl _ _ (w.heap.size + 1) 29 _ (0, 0) _ rfl HF2.out Tryd.underlying29 rfl (by kernel_rfl)) rfl (by rw [HRR.out, hRe]; exact ⟨rfl, fault_chg HBw.out (by omega) _ _⟩)
end Go.Proofs.YtpbkdokhlimpfaaDoor
