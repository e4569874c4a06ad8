/- code: a program that came in; what the listed tables give. -/
import Derived.Test.YtpbkdokhlimpfaaDoorCeF
import Derived.Test.YtpbkdokhlimpfaaDoorRows
import Derived.Test.YtpbkdokhlimpfaaDoorTie
import Derived.Test.YtpbkdokhlimpfaaDoorCards
import Derived.ProofKit
import Derived.LaidMore
import Derived.OpenShut
import Derived.ChangeOld
import Derived.ChangeArms
import Derived.DataReads
import Derived.Stop.Joined
import Derived.SevenTiedAt
import Derived.Lib.LaidTab
namespace Go.Proofs.YtpbkdokhlimpfaaDoor
set_option linter.unusedSimpArgs false
set_option linter.unusedVariables false
open Go.ChangeShapes Go.WideShapes Go.ChangeAt Go.RowKit

set_option maxRecDepth 100000 in
set_option maxHeartbeats 4000000 in
theorem small_any' (p : PT) (w : World) {P : Nat → Prop} (hP : PtOk w P p) (hl : p.S.n ≤ 9223372036854775807) : Calls Tryd.prog 8 #[p.val] w fun e w' => e = .returned (.bool (smS p)) ∧ Below w.heap.size w w' := by
  obtain ⟨hb, h1⟩ := box_prog w p
  have hpc : p.cells.toArray = #[.slice p.S.A p.S.n p.S.c, .int .i64 p.sl, .int .i64 p.su, .int .i64 p.au] := rfl
  rw [hpc] at hb h1
  have HX := hid h1
  have HB := hid hb
  have HP := hid (hP.keep hb)
  have HNe := hid hP.n
  have hnb := hl
  obtain ⟨RR, hRR⟩ : ∃ RR : Ending → World → Prop, RR = fun e w' => e = .returned (.bool (smS p)) ∧ Below w.heap.size w w' := ⟨_, rfl⟩
  rw [← hRR]
  have HRR := hid hRR
  have HS := hid (show smS p = (p.ss.all (fun x => decide (x.ws.length ≤ 300)) && decide (p.ss.length ≤ 200)) from rfl)
  obtain ⟨x0, x1, x2, x3⟩ := h1.four
  clear hb h1 hpc hP hRR hl
  unfold PT.val
  obtain ⟨ss, ⟨A, n, c⟩, sl, su, au⟩ := p
  simp only at *
  go_enter Tryd.func8, Tryd.ntmps8
  go_upto_region 2 with (fail)
  generalize w.alloc (.cells #[.slice A n c, .int .i64 sl, .int .i64 su, .int .i64 au] 24) = w1 at *
  clear x0 x1 x2 x3
  go_wp2_with fail
  go_loopw [8] (fun i wr => ∃ q : Nat, q ≤ n ∧ i = .int .i64 q ∧ Hid ((ss.take q).all (fun x => decide (x.ws.length ≤ 300)) = true) ∧ Hid (Below w1.heap.size w1 wr)) (fun i _ => n - (intOf i).toNat)
  case atStart => exact ⟨0, by omega, rfl, hid (by simp), hid (Below.refl _ _)⟩
  case round =>
    obtain ⟨q, hq, rfl, HT, HBr⟩ := hrel
    obtain ⟨x0, x1, x2, x3⟩ := BoxP.four (p := ⟨ss, ⟨A, n, c⟩, sl, su, au⟩) (Blk.keep HX.out HBr.out)
    simp only at x0 x1 x2 x3
    have HPr := hid (HP.out.keep HBr.out)
    by_cases hlt : q < n
    · have hlt' : (q : Int) < (n : Int) := by omega
      have hql : q < ss.length := by rw [← HNe.out]; exact hlt
      obtain ⟨b1, o1, hA, hbl, _, hAt⟩ := HPr.out.at hql
      have hA : A = some ⟨b1, o1, none⟩ := hA
      have HTk := hid (all_take (fun x : ST => decide (x.ws.length ≤ 300)) ss hql)
      have HAf := hid (fun hf => all_false (fun x : ST => decide (x.ws.length ≤ 300)) ss hql hf)
      have HSq := hid (HPr.out.each _ (List.getElem_mem hql))
      obtain ⟨x, hx⟩ : ∃ x, x = ss[q] := ⟨_, rfl⟩
      rw [← hx] at hAt HTk HAf HSq
      have HAt := hid hAt
      rw [hA] at x0 ⊢
      clear hx hAt hbl hql
      have HSf := hid (st_size' HSq.out)
      have HOf := hid (st_one x)
      have HZc := hid (zero_size HSq.out)
      go_upto_region 4 with (first
          | ((refine wpList_box rfl 37 _ _ rfl _ 37 x.cells.toArray ?_ ?_ HSf.out ?_ HOf.out ?_); exact rfl; exact rfl; exact HZc.out; intro W4 HB4 HK4)
          | (refine wpList_load_mid rfl 37 _ rfl b1 (o1 + q * 265) rfl x.cells _ HAt.out Tryd.underlying37 rfl (st_size HSq.out) ?_))
      have HB5 := hid (below_then' HBr.out HB4.out)
      have c8 := (At.ofBlk HK4.out).low.c8
      simp only [Nat.zero_add] at c8
      have HWn := hid HSq.out.wn
      obtain ⟨W, hWW⟩ : ∃ W, W = x.W := ⟨_, rfl⟩
      rw [← hWW] at c8 HWn
      clear hWW
      obtain ⟨wA, wN, wC⟩ := W
      simp only at c8
      have HWn := hid (show wN = x.ws.length from HWn.out)
      by_cases hle : (300 : Int) < (wN : Int)
      · have HLe := hid (show decide (x.ws.length ≤ 300) = false from decide_eq_false (by have := HWn.out; omega))
        go_wp2_with fail
        show RR (.returned (.bool false)) W4
        rw [HRR.out, HS.out, HAf.out HLe.out]
        exact ⟨by simp, below_then' HB.out HB5.out⟩
      · have HLe := hid (show decide (x.ws.length ≤ 300) = true from decide_eq_true (by have := HWn.out; omega))
        go_wp2_with fail
        exact ⟨⟨q + 1, by omega, by go_num, hid (by rw [HTk.out, HT.out, HLe.out]; rfl), HB5⟩, by simp [intOf]; omega⟩
    · obtain rfl : q = n := by omega
      have e : ss.take q = ss := by rw [HNe.out, List.take_length]
      rw [e] at HT
      clear e hlt
      go_wp2_with fail
      show RR (.returned (.bool _)) _
      rw [HRR.out, HS.out, HT.out, ← HNe.out]
      exact ⟨by simp; omega, below_then' HB.out HBr.out⟩
theorem part_at {cs vs : List Value} {o m : Nat} (h : (cs.drop o).take m = vs) {i : Nat} (hi : i < m) : cs[o + i]? = vs[i]? := by
  rw [← h, List.getElem?_take_of_lt hi, List.getElem?_drop]
theorem own : ownKnob Tryd.prog.godebug = none := by kernel_rfl
theorem laidOut : laidOutB Tryd.prog = true := by kernel_rfl
def laidL {H : Type} : List (String × DataW H) := [("math/bits.deBruijn32tab", Rows.laid_math_bits_deBruijn32tab), ("math/bits.deBruijn64tab", Rows.laid_math_bits_deBruijn64tab), ("internal/strconv.uint64pow10", Rows.laid_internal_strconv_uint64pow10)]
theorem gTab : Tryd.prog.globalNamed "internal/strconv.uint64pow10" = some 1 := by kernel_rfl
theorem tTab : (Tryd.prog.globals[1]?).map (·.type) = some 91 := by kernel_rfl
theorem tab_of_laid {W : World} (h : laidMetH Tryd.prog laidL W) : Tab10 W := by
  rw [MakeChecks.laidMetH_plain _ _ _ (by kernel_rfl)] at h
  obtain ⟨ps, ⟨g1, t1, cs1, f1, p1, q1, _, _, _, _, ⟨g2, t2, cs2, f2, p2, q2, _, _, _, _, ⟨g3, t3, cs3, f3, p3, q3, hg, ht, hv, hd, _, _⟩, _⟩, _⟩, _, _⟩ := h
  obtain rfl := Option.some.inj (gTab.symm.trans hg)
  obtain rfl := Option.some.inj (tTab.symm.trans ht)
  unfold Tab10 Lib.TabIs
  rw [hv, ← Lib.cells_of_tab (zs := Lib.pow10Tab) Tryd.underlying91 Tryd.underlying33 (by kernel_rfl) (by kernel_rfl) hd]
theorem door_met (os : Os) (args : Array Value) : laidMetH Tryd.prog laidL ((World.doorLaid Tryd.prog 400 os).forCall (fun _ _ => 0) ⟨#[], args, []⟩).memory :=
  laidMetH_of_parts3 (fuel := 8) (laidMet_of_run' 8 (by kernel_rfl) (by kernel_rfl)) (by kernel_rfl) (by kernel_rfl)
section
variable {H : Type} {enc : TypeId × Value → H} {W : World}
theorem open_listF {α : Type} [Inhabited α] (f : α → List Value) (m : Nat) (hm0 : 0 < m) (hfl : ∀ x, (f x).length = m) (Q : α → Prop) {T S : TypeId} {fuel : Nat} (hu : Tryd.prog.underlying S = some (.slice T)) (hc : Tryd.prog.cellsOf T = m)
    (hopen : ∀ fu, fu < fuel → ∀ cs x, DataW.trod enc Tryd.prog W 0 (fun _ => true) true fu T cs = some x → ∃ y, cs = f y ∧ Q y) {cs : List Value} {x : DataW H × List MemPlace}
    (h : DataW.trod enc Tryd.prog W 0 (fun _ => true) true fuel S cs = some x) : ∃ (s : SV) (l : List α), cs = [.slice s.A s.n s.c] ∧ s.n = l.length ∧ s.n ≤ 9223372036854775807 ∧ Rw W (· < W.heap.size) s (l.flatMap f) ∧ (∀ y ∈ l, Q y) := by
  rcases DataW.trod_slice hu h with ⟨e5, _⟩ | ⟨a, len, cap, elems, rest, n, hn, e5, _, _, hl, hcm, hel, hall, _⟩
  · exact ⟨SV.nil, [], e5, rfl, by decide, Rw.nil _ _ _, (fun y hy => by simp at hy)⟩
  · have hx2 : ∀ i, ∃ y : α, i < len → Q y ∧ ∀ j, j < m → W.cell? (a.add (i * m + j)) = (f y)[j]? := by
      intro i
      by_cases hi : i < len
      · have h1 := hall i hi
        rw [List.getElem?_eq_getElem (by omega), hc] at h1
        obtain ⟨cs', h2, h3⟩ := Option.bind_eq_some_iff.1 h1
        obtain ⟨y, rfl, hq⟩ := hopen _ (by omega) _ _ h3
        refine ⟨y, fun _ => ⟨hq, fun j hj => ?_⟩⟩
        have h4 := (World.cells?_some h2).2.2 j hj
        have ha : (a.add (i * m)).add j = a.add (i * m + j) := Addr.add_add _ _ _
        rw [← ha, h4]
      · exact ⟨default, fun h => absurd h hi⟩
    have hx3 : ∃ g : Nat → α, ∀ i, i < len → Q (g i) ∧ ∀ j, j < m → W.cell? (a.add (i * m + j)) = (f (g i))[j]? := ⟨fun i => (hx2 i).choose, fun i => (hx2 i).choose_spec⟩
    obtain ⟨g, hg⟩ := hx3
    refine ⟨⟨some a, len, cap⟩, (List.range len).map g, e5, by simp, by (show len ≤ 9223372036854775807); unfold maxLen at hcm; omega, ⟨(fun e => by cases e), fun h0 => ?_⟩, (fun y hy => ?_)⟩
    · rw [flat_len hfl, List.length_map, List.length_range] at h0
      have hl0 : 0 < len := Nat.pos_of_mul_pos_right h0
      obtain ⟨b, o, spot⟩ := a
      have h1 := (hg 0 hl0).2 0 hm0
      rw [List.getElem?_eq_getElem (by rw [hfl]; exact hm0)] at h1
      have hs : spot = none := by simpa [Addr.add] using World.cell?_spot h1
      subst hs
      have hbl : b < W.heap.size := by simpa [Addr.add] using World.block_lt_of_cell? _ _ h1
      refine ⟨b, o, rfl, hbl, hbl, fun j hj => ?_⟩
      have hj2 := hj
      rw [flat_len hfl, List.length_map, List.length_range] at hj2
      have hq : j / m < len := Nat.div_lt_of_lt_mul (by rw [Nat.mul_comm]; exact hj2)
      have hr : j % m < m := Nat.mod_lt _ hm0
      have e : j / m * m + j % m = j := Nat.div_add_mod' j m
      have h2 := (hg _ hq).2 _ hr
      rw [addr_add, e] at h2
      rw [h2, ← List.getElem?_eq_getElem hj]
      have h3 := flat_get hfl ((List.range len).map g) (j / m) (j % m) (by simpa using hq) hr
      rw [e] at h3
      rw [h3]
      simp
    · obtain ⟨i, hi, rfl⟩ := List.mem_map.1 hy
      exact (hg i (List.mem_range.1 hi)).1
theorem cell_of_part {l : List Value} {i : Nat} {c : Value} (h : (l.drop i).take 1 = [c]) : l[i]? = some c := by
  have := congrArg (·[0]?) h
  simpa using this
instance : Inhabited WT := ⟨⟨0, 0⟩⟩
set_option maxRecDepth 10000 in
theorem open_way {cs : List Value} {fuel : Nat} {x : DataW H × List MemPlace} (h : DataW.trod enc Tryd.prog W 0 (fun _ => true) true fuel 46 cs = some x) : ∃ y : WT, cs = y.cells ∧ I64 y.to ∧ y.val < 18446744073709551616 := by
  obtain ⟨xs, n, rfl, hx, hlen, hxl, hf⟩ := DataW.trod_struct Tryd.underlying46 h
  have c2 : Tryd.prog.cellsOf 46 = 2 := by kernel_rfl
  have cu : Tryd.prog.cellsOf 33 = 1 := by kernel_rfl
  have ci : Tryd.prog.cellsOf 3 = 1 := by kernel_rfl
  rw [c2] at hlen
  have hxl2 : xs.length = 2 := hxl
  have f0 : DataW.trod enc Tryd.prog W 0 (fun _ => true) true n 33 ((cs.drop 0).take (Tryd.prog.cellsOf 33)) = xs[0]? := hf 0 _ rfl
  have f1 : DataW.trod enc Tryd.prog W 0 (fun _ => true) true n 3 ((cs.drop 1).take (Tryd.prog.cellsOf 3)) = xs[1]? := hf 1 _ rfl
  rw [cu, List.getElem?_eq_getElem (by omega)] at f0
  rw [ci, List.getElem?_eq_getElem (by omega)] at f1
  obtain ⟨v, e0, _, w0⟩ := DataW.trod_int Tryd.underlying33 f0
  obtain ⟨t, e1, _, w1⟩ := DataW.trod_int Tryd.underlying3 f1
  have b0 := bounds_u64 w0
  have b1 := bounds_i64 w1
  refine ⟨⟨v.toNat, t⟩, ?_, b1, by show v.toNat < _; omega⟩
  match cs, hlen with
  | [q0, q1], _ =>
    simp at e0 e1
    subst e0 e1
    show _ = [Value.int .u64 ((v.toNat : Nat) : Int), Value.int .i64 t]
    rw [show ((v.toNat : Nat) : Int) = v by omega]
/-- A step with 256 bytes. -/
def SQ : Type := { x : ST // x.bs.length = 256 }
def SQ.cells (x : SQ) : List Value := x.1.cells
instance : Inhabited SQ := ⟨⟨mkS 0 0 0 0, List.length_replicate ..⟩⟩
set_option maxRecDepth 10000 in
theorem open_bytes {cs : List Value} {fuel : Nat} {x : DataW H × List MemPlace} (h : DataW.trod enc Tryd.prog W 0 (fun _ => true) true fuel 35 cs = some x) : ∃ l : List UInt8, l.length = 256 ∧ cs = l.map isB := by
  obtain ⟨xs, m, rfl, hx, hlen, hn, hel⟩ := DataW.trod_array Tryd.underlying35 h
  have c4 : Tryd.prog.cellsOf 35 = 256 := by kernel_rfl
  have c1 : Tryd.prog.cellsOf 5 = 1 := by kernel_rfl
  rw [c4] at hlen
  have hc : ∀ i, ∃ c : UInt8, i < 256 → cs[i]? = some (isB c) := by
    intro i
    by_cases hi : i < 256
    · have h1 := hel i hi
      rw [c1, Nat.mul_one, List.getElem?_eq_getElem (by omega)] at h1
      obtain ⟨n, e1, _, hw⟩ := DataW.trod_int Tryd.underlying5 h1
      have hb := bounds_u8 hw
      refine ⟨UInt8.ofNat n.toNat, fun _ => ?_⟩
      rw [cell_of_part e1]
      simp only [isB, UInt8.toNat_ofNat']
      congr 2
      omega
    · exact ⟨0, fun h => absurd h hi⟩
  have hg : ∃ g : Nat → UInt8, ∀ i, i < 256 → cs[i]? = some (isB (g i)) := ⟨fun i => (hc i).choose, fun i => (hc i).choose_spec⟩
  obtain ⟨g, hg⟩ := hg
  refine ⟨(List.range 256).map g, by simp, ?_⟩
  apply List.ext_getElem?
  intro i
  by_cases hi : i < 256
  · rw [hg i hi, List.getElem?_map, List.getElem?_map, List.getElem?_range hi]
    rfl
  · rw [List.getElem?_eq_none (by omega), List.getElem?_eq_none (by simp; omega)]
set_option maxRecDepth 10000 in
theorem open_step {cs : List Value} {fuel : Nat} {x : DataW H × List MemPlace} (h : DataW.trod enc Tryd.prog W 0 (fun _ => true) true fuel 37 cs = some x) : ∃ y : SQ, cs = y.cells ∧ StOk W (· < W.heap.size) y.1 ∧ StNum y.1 := by
  obtain ⟨xs, n, rfl, hx, hlen, hxl, hf⟩ := DataW.trod_struct Tryd.underlying37 h
  have cS : Tryd.prog.cellsOf 37 = 265 := by kernel_rfl
  have cu : Tryd.prog.cellsOf 33 = 1 := by kernel_rfl
  have ci : Tryd.prog.cellsOf 3 = 1 := by kernel_rfl
  have cb : Tryd.prog.cellsOf 4 = 1 := by kernel_rfl
  have cw : Tryd.prog.cellsOf 34 = 1 := by kernel_rfl
  have cW : Tryd.prog.cellsOf 46 = 2 := by kernel_rfl
  have cy : Tryd.prog.cellsOf 35 = 256 := by kernel_rfl
  rw [cS] at hlen
  have hxl2 : xs.length = 10 := hxl
  have f0 : DataW.trod enc Tryd.prog W 0 (fun _ => true) true n 3 ((cs.drop 0).take (Tryd.prog.cellsOf 3)) = xs[0]? := hf 0 _ rfl
  have f1 : DataW.trod enc Tryd.prog W 0 (fun _ => true) true n 3 ((cs.drop 1).take (Tryd.prog.cellsOf 3)) = xs[1]? := hf 1 _ rfl
  have f2 : DataW.trod enc Tryd.prog W 0 (fun _ => true) true n 3 ((cs.drop 2).take (Tryd.prog.cellsOf 3)) = xs[2]? := hf 2 _ rfl
  have f3 : DataW.trod enc Tryd.prog W 0 (fun _ => true) true n 4 ((cs.drop 3).take (Tryd.prog.cellsOf 4)) = xs[3]? := hf 3 _ rfl
  have f4 : DataW.trod enc Tryd.prog W 0 (fun _ => true) true n 33 ((cs.drop 4).take (Tryd.prog.cellsOf 33)) = xs[4]? := hf 4 _ rfl
  have f5 : DataW.trod enc Tryd.prog W 0 (fun _ => true) true n 33 ((cs.drop 5).take (Tryd.prog.cellsOf 33)) = xs[5]? := hf 5 _ rfl
  have f6 : DataW.trod enc Tryd.prog W 0 (fun _ => true) true n 33 ((cs.drop 6).take (Tryd.prog.cellsOf 33)) = xs[6]? := hf 6 _ rfl
  have f7 : DataW.trod enc Tryd.prog W 0 (fun _ => true) true n 33 ((cs.drop 7).take (Tryd.prog.cellsOf 33)) = xs[7]? := hf 7 _ rfl
  have f8 : DataW.trod enc Tryd.prog W 0 (fun _ => true) true n 34 ((cs.drop 8).take (Tryd.prog.cellsOf 34)) = xs[8]? := hf 8 _ rfl
  have f9 : DataW.trod enc Tryd.prog W 0 (fun _ => true) true n 35 ((cs.drop 9).take (Tryd.prog.cellsOf 35)) = xs[9]? := hf 9 _ rfl
  rw [ci, List.getElem?_eq_getElem (by omega)] at f0 f1 f2
  rw [cb, List.getElem?_eq_getElem (by omega)] at f3
  rw [cu, List.getElem?_eq_getElem (by omega)] at f4 f5 f6 f7
  rw [cw, List.getElem?_eq_getElem (by omega)] at f8
  rw [cy, List.getElem?_eq_getElem (by omega)] at f9
  obtain ⟨k, e0, _, w0⟩ := DataW.trod_int Tryd.underlying3 f0
  obtain ⟨a, e1, _, w1⟩ := DataW.trod_int Tryd.underlying3 f1
  obtain ⟨b, e2, _, w2⟩ := DataW.trod_int Tryd.underlying3 f2
  obtain ⟨fl, e3, _⟩ := DataW.trod_bool Tryd.underlying4 f3
  obtain ⟨mn, e4, _, w4⟩ := DataW.trod_int Tryd.underlying33 f4
  obtain ⟨mx, e5, _, w5⟩ := DataW.trod_int Tryd.underlying33 f5
  obtain ⟨mu, e6, _, w6⟩ := DataW.trod_int Tryd.underlying33 f6
  obtain ⟨ad, e7, _, w7⟩ := DataW.trod_int Tryd.underlying33 f7
  obtain ⟨S, l, e8, sn, _, sr, sq⟩ := open_listF WT.cells 2 (by decide) (fun _ => rfl) (fun y => I64 y.to ∧ y.val < 18446744073709551616) Tryd.underlying34 cW (fun fu _ cs x h => open_way h) f8
  obtain ⟨bs, hbl, e9⟩ := open_bytes f9
  have b4 := bounds_u64 w4
  have b5 := bounds_u64 w5
  have b6 := bounds_u64 w6
  have b7 := bounds_u64 w7
  refine ⟨⟨⟨k, a, b, fl, mn.toNat, mx.toNat, mu.toNat, ad.toNat, l, bs, S⟩, hbl⟩, ?_, ⟨sn, sr, hbl⟩, ⟨bounds_i64 w1, bounds_i64 w2, sq⟩⟩
  rw [show mn = ((mn.toNat : Nat) : Int) by omega] at e4
  rw [show mx = ((mx.toNat : Nat) : Int) by omega] at e5
  rw [show mu = ((mu.toNat : Nat) : Int) by omega] at e6
  rw [show ad = ((ad.toNat : Nat) : Int) by omega] at e7
  apply List.ext_getElem?
  intro i
  have hlow : ∀ i, i < 9 → (SQ.cells ⟨⟨k, a, b, fl, mn.toNat, mx.toNat, mu.toNat, ad.toNat, l, bs, S⟩, hbl⟩)[i]? = ([.int .i64 k, .int .i64 a, .int .i64 b, .bool fl, .int .u64 (mn.toNat : Int), .int .u64 (mx.toNat : Int), .int .u64 (mu.toNat : Int), .int .u64 (ad.toNat : Int), .slice S.A S.n S.c] : List Value)[i]? := fun i hi => by
    unfold SQ.cells ST.cells
    rw [List.getElem?_append_left (by show i < 9; exact hi)]
    rfl
  by_cases hi : i < 9
  · rw [hlow i hi]
    obtain rfl | rfl | rfl | rfl | rfl | rfl | rfl | rfl | rfl : i = 0 ∨ i = 1 ∨ i = 2 ∨ i = 3 ∨ i = 4 ∨ i = 5 ∨ i = 6 ∨ i = 7 ∨ i = 8 := by omega
    · exact cell_of_part e0
    · exact cell_of_part e1
    · exact cell_of_part e2
    · exact cell_of_part e3
    · exact cell_of_part e4
    · exact cell_of_part e5
    · exact cell_of_part e6
    · exact cell_of_part e7
    · exact cell_of_part e8
  · by_cases hi2 : i < 265
    · have h1 := part_at e9 (i := i - 9) (by omega)
      rw [show 9 + (i - 9) = i by omega] at h1
      rw [h1]
      unfold SQ.cells ST.cells
      rw [List.getElem?_append_right (by show 9 ≤ i; omega)]
      rfl
    · rw [List.getElem?_eq_none (by omega), List.getElem?_eq_none]
      show (ST.cells _).length ≤ i
      rw [st_len hbl]
      omega
set_option maxRecDepth 10000 in
/-- A program that came in. -/
theorem open_prog {v : Value} {d : DataW H} {p : List MemPlace} (h : DataW.Trod enc Tryd.prog W 0 (fun _ => true) true 24 v d p) : ∃ q : PT, v = q.val ∧ PtOk W (· < W.heap.size) q ∧ q.S.n ≤ 9223372036854775807 ∧ (∀ x ∈ q.ss, StNum x) ∧ I64 q.sl ∧ I64 q.su ∧ I64 q.au := by
  obtain ⟨fuel, h⟩ := h
  obtain ⟨xs, n, rfl, hx, hlen, hxl, hf⟩ := DataW.trod_struct Tryd.underlying24 h
  have cP : Tryd.prog.cellsOf 24 = 4 := by kernel_rfl
  have cS : Tryd.prog.cellsOf 37 = 265 := by kernel_rfl
  have ci : Tryd.prog.cellsOf 3 = 1 := by kernel_rfl
  have cs1 : Tryd.prog.cellsOf 22 = 1 := by kernel_rfl
  rw [cP] at hlen
  have hxl2 : xs.length = 4 := hxl
  have f0 : DataW.trod enc Tryd.prog W 0 (fun _ => true) true n 22 ((v.cells.toList.drop 0).take (Tryd.prog.cellsOf 22)) = xs[0]? := hf 0 _ rfl
  have f1 : DataW.trod enc Tryd.prog W 0 (fun _ => true) true n 3 ((v.cells.toList.drop 1).take (Tryd.prog.cellsOf 3)) = xs[1]? := hf 1 _ rfl
  have f2 : DataW.trod enc Tryd.prog W 0 (fun _ => true) true n 3 ((v.cells.toList.drop 2).take (Tryd.prog.cellsOf 3)) = xs[2]? := hf 2 _ rfl
  have f3 : DataW.trod enc Tryd.prog W 0 (fun _ => true) true n 3 ((v.cells.toList.drop 3).take (Tryd.prog.cellsOf 3)) = xs[3]? := hf 3 _ rfl
  rw [cs1, List.getElem?_eq_getElem (by omega)] at f0
  rw [ci, List.getElem?_eq_getElem (by omega)] at f1 f2 f3
  obtain ⟨S, l, e0, sn, sb, sr, sq⟩ := open_listF SQ.cells 265 (by decide) (fun y => st_len y.2) (fun y => StOk W (· < W.heap.size) y.1 ∧ StNum y.1) Tryd.underlying22 cS (fun fu _ cs x h => open_step h) f0
  obtain ⟨sl, e1, _, w1⟩ := DataW.trod_int Tryd.underlying3 f1
  obtain ⟨su, e2, _, w2⟩ := DataW.trod_int Tryd.underlying3 f2
  obtain ⟨au, e3, _, w3⟩ := DataW.trod_int Tryd.underlying3 f3
  have hfl : l.flatMap SQ.cells = flatS (l.map (·.1)) := by
    unfold flatS
    rw [List.flatMap_map]
    rfl
  refine ⟨⟨l.map (·.1), S, sl, su, au⟩, ?_, ⟨by show S.n = (l.map (·.1)).length; rw [List.length_map]; exact sn, by rw [← hfl]; exact sr, fun x hx => ?_⟩, sb, fun x hx => ?_, bounds_i64 w1, bounds_i64 w2, bounds_i64 w3⟩
  · have e : v.cells.toList = [.slice S.A S.n S.c, .int .i64 sl, .int .i64 su, .int .i64 au] := by
      apply List.ext_getElem?
      intro i
      by_cases hi : i < 4
      · obtain rfl | rfl | rfl | rfl : i = 0 ∨ i = 1 ∨ i = 2 ∨ i = 3 := by omega
        · exact cell_of_part e0
        · exact cell_of_part e1
        · exact cell_of_part e2
        · exact cell_of_part e3
      · rw [List.getElem?_eq_none (by omega), List.getElem?_eq_none (by show 4 ≤ i; omega)]
    clear h
    cases v with
    | agg cs =>
      obtain ⟨l2⟩ := cs
      have e : l2 = _ := e
      rw [e]
      rfl
    | _ => simp [Value.cells] at hlen
  · obtain ⟨y, hy, rfl⟩ := List.mem_map.1 hx
    exact (sq y hy).1
  · obtain ⟨y, hy, rfl⟩ := List.mem_map.1 hx
    exact (sq y hy).2
end
end Go.Proofs.YtpbkdokhlimpfaaDoor
