/- code: the law's right is what Check asks of a step. -/
import Derived.Test.YtpbkdokhlimpfaaDoorCdH
namespace Go.Proofs.YtpbkdokhlimpfaaDoor
set_option linter.unusedSimpArgs false
set_option linter.unusedVariables false
open Go.RowKit

theorem nmS_other {k : Int} (h : k ≤ 0 ∨ 21 ≤ k) : nmS k = ⟨#[]⟩ := by
  unfold nmS
  split
  · rename_i hh
    unfold amg at hh
    simp at hh
    have h0 : k = 0 := by omega
    rw [h0]
    rfl
  · rfl
theorem ret_bool {a b : Bool} (h : a = b) : Ending.returned (.bool a) = .returned (.bool b) := by rw [h]
theorem entR1 (args : Array Value) (w : World) : (callFunc 39 args).run Tryd.prog w = .ok (.enter 39 args) w := by kernel_rfl
set_option maxRecDepth 100000 in
set_option maxHeartbeats 1000000 in
theorem to_any (p : PT) (g : Nat) (i : Int) (w : World) (hB : BoxP w g p) : Calls Tryd.prog 39 #[.int .i64 i, .pointer (some ⟨g, 0, none⟩)] w fun e w' => e = .returned (.bool (amg i p.S.n)) ∧ w' = w := by
  obtain ⟨x0, x1, x2, x3⟩ := hB.four
  clear hB
  obtain ⟨ss, ⟨A, n, c⟩, sl, su, au⟩ := p
  simp only at *
  by_cases h1 : 0 ≤ i
  · by_cases h2 : i < (n : Int)
    · go_enter Tryd.func39, Tryd.ntmps39
      go_wp2_with fail
      go_ret
      exact ⟨by simp [amg, h1, h2], rfl⟩
    · go_enter Tryd.func39, Tryd.ntmps39
      go_wp2_with fail
      go_ret
      exact ⟨by simp [amg, h1, h2], rfl⟩
  · go_enter Tryd.func39, Tryd.ntmps39
    go_wp2_with fail
    go_ret
    exact ⟨by unfold amg; rw [show decide (0 ≤ i) = false from decide_eq_false (by omega)]; rfl, rfl⟩
set_option maxRecDepth 100000 in
set_option maxHeartbeats 16000000 in
theorem right_any (p : PT) (x : ST) (w : World) {P : Nat → Prop} (hW : StOk w P x) (hn : p.S.n = p.ss.length) (hl : x.ws.length ≤ 1000000) (hsl : 0 ≤ p.sl) : Calls Tryd.prog 26 #[p.val, x.val] w fun e w' => e = .returned (.bool (mayS p x)) ∧ Below w.heap.size w w' := by
  obtain ⟨hb0, h0⟩ := box_prog w p
  obtain ⟨X, hX⟩ : ∃ X, X = x.cells.toArray := ⟨_, rfl⟩
  have hb1 : Below (w.alloc (.cells p.cells.toArray 24)).heap.size (w.alloc (.cells p.cells.toArray 24)) ((w.alloc (.cells p.cells.toArray 24)).alloc (.cells X 37)) := (Below.refl _ _).alloc (Nat.le_refl _) _
  have hk : Blk ((w.alloc (.cells p.cells.toArray 24)).alloc (.cells X 37)) (w.heap.size + 1) 37 x.cells.toArray.toList := by
    have := heap_alloc_new (w.alloc (.cells p.cells.toArray 24)) (.cells X 37)
    rw [World.size_alloc] at this
    rw [← hX]
    simpa [Blk] using this
  have h1 : BoxP _ w.heap.size p := Blk.keep h0 hb1
  have hb := below_then' hb0 hb1
  have hpc : p.cells.toArray = #[.slice p.S.A p.S.n p.S.c, .int .i64 p.sl, .int .i64 p.su, .int .i64 p.au] := rfl
  rw [hpc] at hb h1 hk
  have hAt := At.ofBlk hk
  have HX := hid h1
  have HB := hid hb
  have HA := hid hAt
  have HW := hid (hW.keep hb)
  have HWn := hid hW.wn
  have HNe := hid hn
  have hent := entR1
  have HTo := hid (fun i W (hh : BoxP W w.heap.size p) => to_any p w.heap.size i W hh)
  obtain ⟨RR, hRR⟩ : ∃ RR : Ending → World → Prop, RR = fun e w' => e = .returned (.bool (mayS p x)) ∧ Below w.heap.size w w' := ⟨_, rfl⟩
  rw [← hRR]
  have HRR := hid hRR
  obtain ⟨R, hR⟩ : ∃ R, R = mayS p x := ⟨_, rfl⟩
  rw [← hR] at HRR
  have HR := hid hR
  have hsz : X.size = 265 := by rw [hX]; simpa using hW.len
  have HLow := hid (fun W (hh : Below _ _ W) => (hAt.keep (hh.block _ hAt.lt)).low)
  obtain ⟨x0, x1, x2, x3⟩ := h1.four
  obtain ⟨W0, hWW⟩ : ∃ W0, W0 = x.W := ⟨_, rfl⟩
  have c8 := hAt.low.c8
  rw [← hWW] at c8
  have HWe := hid hWW
  obtain ⟨wA, wN, wC⟩ := W0
  have hwn : wN = x.ws.length := by have := HWn.out; rw [← hWW] at this; exact this
  have HWl := hid hwn
  have hnb : wN ≤ 1000000 := by omega
  simp only [Nat.zero_add] at c8
  unfold ST.val
  rw [← hX]
  clear hb0 hb1 h0 h1 hk hb hpc hW hn hRR hR hX hWW hwn hl hAt
  unfold PT.val
  obtain ⟨ss, ⟨A, n, c⟩, sl, su, au⟩ := p
  simp only at *
  go_enter Tryd.func26, Tryd.ntmps26
  go_upto_region 4 with (fail)
  generalize (w.alloc (.cells #[.slice A n c, .int .i64 sl, .int .i64 su, .int .i64 au] 24)).alloc (.cells X 37) = w1 at *
  clear x0 x1 x2 x3 c8
  go_wp2_with fail
  obtain ⟨d0, hd0⟩ : ∃ d0, d0 = decide ((wN : Int) ≤ 255) := ⟨_, rfl⟩
  rw [← hd0]
  have HD0 := hid hd0
  clear hd0
  go_loopw [6, 19] (fun t i wr => ∃ (q : Nat) (cur : Bool), q ≤ wN ∧ t = .bool cur ∧ i = .int .i64 q ∧ Hid (cur = (d0 && (x.ws.take q).all (fun y => amg y.to ss.length))) ∧ Hid (Below w1.heap.size w1 wr)) (fun _ i _ => wN - (intOf i).toNat)
  case atStart => exact ⟨0, d0, by omega, rfl, rfl, hid (by simp), hid (Below.refl _ _)⟩
  case round =>
    obtain ⟨q, cur, hq, rfl, rfl, HT, HBr⟩ := hrel
    have HXr := hid (show BoxP wr w.heap.size ⟨ss, ⟨A, n, c⟩, sl, su, au⟩ from Blk.keep HX.out HBr.out)
    by_cases hlt : q < wN
    · have hlt' : (q : Int) < (wN : Int) := by omega
      have hql : q < x.ws.length := by rw [← HWl.out]; exact hlt
      obtain ⟨b1, o1, hwA, hbl, _, e0, e1⟩ := way_at (HW.out.keep HBr.out) hql
      rw [← HWe.out] at hwA
      have hwA : wA = some ⟨b1, o1, none⟩ := hwA
      have HTk := hid (all_take (fun y => amg y.to ss.length) x.ws hql)
      obtain ⟨y, hy⟩ : ∃ y, y = x.ws[q] := ⟨_, rfl⟩
      rw [← hy] at e0 e1 HTk
      have HSf := hid (way_size y)
      have HOf := hid (way_one y)
      clear hbl hy hql
      rw [hwA]
      go_upto_region 6 with (first
        | ((refine wpList_box rfl 46 _ _ rfl _ 46 y.cells.toArray ?_ ?_ HSf.out ?_ HOf.out ?_); exact rfl; exact rfl; exact rfl; intro W4 HB4 HK4))
      have HB5 := hid (below_then' HBr.out HB4.out)
      have z0 := Blk.at HK4.out 0
      have z1 := Blk.at HK4.out 1
      simp only [WT.cells, List.getElem?_cons_zero, List.getElem?_cons_succ] at z0 z1
      have HCt := hid (HTo.out y.to W4 (Blk.keep HXr.out HB4.out))
      clear e0 e1
      cases cur
      · go_wp2_with fail
        exact ⟨⟨q + 1, false, by omega, rfl, by go_num, hid (by rw [HTk.out, ← Bool.and_assoc, ← HT.out]; rfl), HB5⟩, by simp [intOf]; omega⟩
      · go_wp2_with ((with_reducible refine HCt.out.mono ?_); rintro e w6 ⟨rfl, rfl⟩)
        exact ⟨⟨q + 1, _, by omega, rfl, by go_num, hid (by rw [HTk.out, ← Bool.and_assoc, ← HT.out, HNe.out]; rfl), HB5⟩, by simp [intOf]; omega⟩
    · obtain rfl : q = wN := by omega
      have e : x.ws.take q = x.ws := by rw [HWl.out, List.take_length]
      rw [e] at HT
      clear e hlt
      have HFr := hid (show frkS ⟨ss, ⟨A, n, c⟩, sl, su, au⟩ x = cur by
        rw [HT.out, HD0.out, HWl.out]
        unfold frkS
        rw [Bool.and_comm]
        congr 1
        simp
        omega)
      have c0 := (HLow.out _ HBr.out).c0
      try simp only [Nat.zero_add] at c0
      have HBl := hid HW.out.bl
      clear HWe HW HA
      obtain ⟨k, a, xb, fl, mn, mx, mu, ad, ws, bs, W⟩ := x
      try simp only at c0
      by_cases h1k : k = 1
      · subst h1k
        obtain ⟨S, hS⟩ : ∃ S, S = nmS 1 := ⟨_, rfl⟩
        have HNm := hid (show Calls Tryd.prog 23 #[.int .i64 1] wr (fun e w' => e = .returned (.string S) ∧ Below wr.heap.size wr w') from by rw [hS]; exact Name_any 1 wr)
        have q1 : (S.toList == ({ data := #[111, 112, 101, 110] } : ByteArray).toList) = true := by rw [hS, ByteArray.toList_eq, ByteArray.toList_eq]; decide +kernel
        have q2 : (S.toList == ({ data := #[99, 108, 111, 115, 101] } : ByteArray).toList) = false := by rw [hS, ByteArray.toList_eq, ByteArray.toList_eq]; decide +kernel
        have q3 : (S.toList == ({ data := #[102, 105, 120, 101, 100] } : ByteArray).toList) = false := by rw [hS, ByteArray.toList_eq, ByteArray.toList_eq]; decide +kernel
        have q4 : (S.toList == ({ data := #[118, 97, 114, 105, 110, 116] } : ByteArray).toList) = false := by rw [hS, ByteArray.toList_eq, ByteArray.toList_eq]; decide +kernel
        have q5 : (S.toList == ({ data := #[116, 111, 107, 101, 110] } : ByteArray).toList) = false := by rw [hS, ByteArray.toList_eq, ByteArray.toList_eq]; decide +kernel
        have q6 : (S.toList == ({ data := #[98, 108, 111, 98] } : ByteArray).toList) = false := by rw [hS, ByteArray.toList_eq, ByteArray.toList_eq]; decide +kernel
        have q7 : (S.toList == ({ data := #[101, 110, 116, 101, 114] } : ByteArray).toList) = false := by rw [hS, ByteArray.toList_eq, ByteArray.toList_eq]; decide +kernel
        have q8 : (S.toList == ({ data := #[108, 101, 97, 118, 101] } : ByteArray).toList) = false := by rw [hS, ByteArray.toList_eq, ByteArray.toList_eq]; decide +kernel
        have q9 : (S.toList == ({ data := #[99, 111, 117, 110, 116] } : ByteArray).toList) = false := by rw [hS, ByteArray.toList_eq, ByteArray.toList_eq]; decide +kernel
        have q10 : (S.toList == ({ data := #[110, 101, 120, 116] } : ByteArray).toList) = false := by rw [hS, ByteArray.toList_eq, ByteArray.toList_eq]; decide +kernel
        have q11 : (S.toList == ({ data := #[106, 117, 109, 112] } : ByteArray).toList) = false := by rw [hS, ByteArray.toList_eq, ByteArray.toList_eq]; decide +kernel
        have q12 : (S.toList == ({ data := #[109, 97, 110, 121] } : ByteArray).toList) = false := by rw [hS, ByteArray.toList_eq, ByteArray.toList_eq]; decide +kernel
        have q13 : (S.toList == ({ data := #[115, 119, 105, 116, 99, 104] } : ByteArray).toList) = false := by rw [hS, ByteArray.toList_eq, ByteArray.toList_eq]; decide +kernel
        have q14 : (S.toList == ({ data := #[99, 104, 111, 105, 99, 101] } : ByteArray).toList) = false := by rw [hS, ByteArray.toList_eq, ByteArray.toList_eq]; decide +kernel
        have q15 : (S.toList == ({ data := #[99, 97, 108, 108] } : ByteArray).toList) = false := by rw [hS, ByteArray.toList_eq, ByteArray.toList_eq]; decide +kernel
        have q16 : (S.toList == ({ data := #[114, 101, 116, 117, 114, 110] } : ByteArray).toList) = false := by rw [hS, ByteArray.toList_eq, ByteArray.toList_eq]; decide +kernel
        have q17 : (S.toList == ({ data := #[109, 97, 114, 107] } : ByteArray).toList) = false := by rw [hS, ByteArray.toList_eq, ByteArray.toList_eq]; decide +kernel
        have q18 : (S.toList == ({ data := #[115, 116, 111, 112] } : ByteArray).toList) = false := by rw [hS, ByteArray.toList_eq, ByteArray.toList_eq]; decide +kernel
        have q19 : (S.toList == ({ data := #[115, 117, 109] } : ByteArray).toList) = false := by rw [hS, ByteArray.toList_eq, ByteArray.toList_eq]; decide +kernel
        have q20 : (S.toList == ({ data := #[101, 110, 100] } : ByteArray).toList) = false := by rw [hS, ByteArray.toList_eq, ByteArray.toList_eq]; decide +kernel
        clear hS
        go_upto_region 9 with (go_at_call 23; (with_reducible refine HNm.out.mono ?_); rintro e w2 ⟨rfl, hb2⟩; have HB2 := hid hb2; clear hb2 c0)
        have HB3 := hid (below_then' HBr.out HB2.out)
        have HTa := hid (HTo.out a w2 (Blk.keep HXr.out HB2.out))
        have HTb := hid (HTo.out xb w2 (Blk.keep HXr.out HB2.out))
        obtain ⟨x0, x1, x2, x3⟩ := BoxP.four (Blk.keep HXr.out HB2.out)
        obtain ⟨c0, c1, c2, c4, c5, c8, _⟩ := HLow.out _ HB3.out
        simp only [Nat.zero_add] at x0 x1 x2 x3 c0 c1 c2 c4 c5 c8
        generalize (ByteArray.mk #[111, 112, 101, 110]) = C1 at *
        generalize (ByteArray.mk #[99, 108, 111, 115, 101]) = C2 at *
        generalize (ByteArray.mk #[102, 105, 120, 101, 100]) = C3 at *
        generalize (ByteArray.mk #[118, 97, 114, 105, 110, 116]) = C4 at *
        generalize (ByteArray.mk #[116, 111, 107, 101, 110]) = C5 at *
        generalize (ByteArray.mk #[98, 108, 111, 98]) = C6 at *
        generalize (ByteArray.mk #[101, 110, 116, 101, 114]) = C7 at *
        generalize (ByteArray.mk #[108, 101, 97, 118, 101]) = C8 at *
        generalize (ByteArray.mk #[99, 111, 117, 110, 116]) = C9 at *
        generalize (ByteArray.mk #[110, 101, 120, 116]) = C10 at *
        generalize (ByteArray.mk #[106, 117, 109, 112]) = C11 at *
        generalize (ByteArray.mk #[109, 97, 110, 121]) = C12 at *
        generalize (ByteArray.mk #[115, 119, 105, 116, 99, 104]) = C13 at *
        generalize (ByteArray.mk #[99, 104, 111, 105, 99, 101]) = C14 at *
        generalize (ByteArray.mk #[99, 97, 108, 108]) = C15 at *
        generalize (ByteArray.mk #[114, 101, 116, 117, 114, 110]) = C16 at *
        generalize (ByteArray.mk #[109, 97, 114, 107]) = C17 at *
        generalize (ByteArray.mk #[115, 116, 111, 112]) = C18 at *
        generalize (ByteArray.mk #[115, 117, 109]) = C19 at *
        generalize (ByteArray.mk #[101, 110, 100]) = C20 at *
        go_wp2_with fail
        show RR (.returned (.bool _)) _
        rw [HRR.out, HR.out]
        exact ⟨by simp [mayS], below_then' HB.out HB3.out⟩
      by_cases h2k : k = 2
      · subst h2k
        obtain ⟨S, hS⟩ : ∃ S, S = nmS 2 := ⟨_, rfl⟩
        have HNm := hid (show Calls Tryd.prog 23 #[.int .i64 2] wr (fun e w' => e = .returned (.string S) ∧ Below wr.heap.size wr w') from by rw [hS]; exact Name_any 2 wr)
        have q1 : (S.toList == ({ data := #[111, 112, 101, 110] } : ByteArray).toList) = false := by rw [hS, ByteArray.toList_eq, ByteArray.toList_eq]; decide +kernel
        have q2 : (S.toList == ({ data := #[99, 108, 111, 115, 101] } : ByteArray).toList) = true := by rw [hS, ByteArray.toList_eq, ByteArray.toList_eq]; decide +kernel
        have q3 : (S.toList == ({ data := #[102, 105, 120, 101, 100] } : ByteArray).toList) = false := by rw [hS, ByteArray.toList_eq, ByteArray.toList_eq]; decide +kernel
        have q4 : (S.toList == ({ data := #[118, 97, 114, 105, 110, 116] } : ByteArray).toList) = false := by rw [hS, ByteArray.toList_eq, ByteArray.toList_eq]; decide +kernel
        have q5 : (S.toList == ({ data := #[116, 111, 107, 101, 110] } : ByteArray).toList) = false := by rw [hS, ByteArray.toList_eq, ByteArray.toList_eq]; decide +kernel
        have q6 : (S.toList == ({ data := #[98, 108, 111, 98] } : ByteArray).toList) = false := by rw [hS, ByteArray.toList_eq, ByteArray.toList_eq]; decide +kernel
        have q7 : (S.toList == ({ data := #[101, 110, 116, 101, 114] } : ByteArray).toList) = false := by rw [hS, ByteArray.toList_eq, ByteArray.toList_eq]; decide +kernel
        have q8 : (S.toList == ({ data := #[108, 101, 97, 118, 101] } : ByteArray).toList) = false := by rw [hS, ByteArray.toList_eq, ByteArray.toList_eq]; decide +kernel
        have q9 : (S.toList == ({ data := #[99, 111, 117, 110, 116] } : ByteArray).toList) = false := by rw [hS, ByteArray.toList_eq, ByteArray.toList_eq]; decide +kernel
        have q10 : (S.toList == ({ data := #[110, 101, 120, 116] } : ByteArray).toList) = false := by rw [hS, ByteArray.toList_eq, ByteArray.toList_eq]; decide +kernel
        have q11 : (S.toList == ({ data := #[106, 117, 109, 112] } : ByteArray).toList) = false := by rw [hS, ByteArray.toList_eq, ByteArray.toList_eq]; decide +kernel
        have q12 : (S.toList == ({ data := #[109, 97, 110, 121] } : ByteArray).toList) = false := by rw [hS, ByteArray.toList_eq, ByteArray.toList_eq]; decide +kernel
        have q13 : (S.toList == ({ data := #[115, 119, 105, 116, 99, 104] } : ByteArray).toList) = false := by rw [hS, ByteArray.toList_eq, ByteArray.toList_eq]; decide +kernel
        have q14 : (S.toList == ({ data := #[99, 104, 111, 105, 99, 101] } : ByteArray).toList) = false := by rw [hS, ByteArray.toList_eq, ByteArray.toList_eq]; decide +kernel
        have q15 : (S.toList == ({ data := #[99, 97, 108, 108] } : ByteArray).toList) = false := by rw [hS, ByteArray.toList_eq, ByteArray.toList_eq]; decide +kernel
        have q16 : (S.toList == ({ data := #[114, 101, 116, 117, 114, 110] } : ByteArray).toList) = false := by rw [hS, ByteArray.toList_eq, ByteArray.toList_eq]; decide +kernel
        have q17 : (S.toList == ({ data := #[109, 97, 114, 107] } : ByteArray).toList) = false := by rw [hS, ByteArray.toList_eq, ByteArray.toList_eq]; decide +kernel
        have q18 : (S.toList == ({ data := #[115, 116, 111, 112] } : ByteArray).toList) = false := by rw [hS, ByteArray.toList_eq, ByteArray.toList_eq]; decide +kernel
        have q19 : (S.toList == ({ data := #[115, 117, 109] } : ByteArray).toList) = false := by rw [hS, ByteArray.toList_eq, ByteArray.toList_eq]; decide +kernel
        have q20 : (S.toList == ({ data := #[101, 110, 100] } : ByteArray).toList) = false := by rw [hS, ByteArray.toList_eq, ByteArray.toList_eq]; decide +kernel
        clear hS
        go_upto_region 9 with (go_at_call 23; (with_reducible refine HNm.out.mono ?_); rintro e w2 ⟨rfl, hb2⟩; have HB2 := hid hb2; clear hb2 c0)
        have HB3 := hid (below_then' HBr.out HB2.out)
        have HTa := hid (HTo.out a w2 (Blk.keep HXr.out HB2.out))
        have HTb := hid (HTo.out xb w2 (Blk.keep HXr.out HB2.out))
        obtain ⟨x0, x1, x2, x3⟩ := BoxP.four (Blk.keep HXr.out HB2.out)
        obtain ⟨c0, c1, c2, c4, c5, c8, _⟩ := HLow.out _ HB3.out
        simp only [Nat.zero_add] at x0 x1 x2 x3 c0 c1 c2 c4 c5 c8
        generalize (ByteArray.mk #[111, 112, 101, 110]) = C1 at *
        generalize (ByteArray.mk #[99, 108, 111, 115, 101]) = C2 at *
        generalize (ByteArray.mk #[102, 105, 120, 101, 100]) = C3 at *
        generalize (ByteArray.mk #[118, 97, 114, 105, 110, 116]) = C4 at *
        generalize (ByteArray.mk #[116, 111, 107, 101, 110]) = C5 at *
        generalize (ByteArray.mk #[98, 108, 111, 98]) = C6 at *
        generalize (ByteArray.mk #[101, 110, 116, 101, 114]) = C7 at *
        generalize (ByteArray.mk #[108, 101, 97, 118, 101]) = C8 at *
        generalize (ByteArray.mk #[99, 111, 117, 110, 116]) = C9 at *
        generalize (ByteArray.mk #[110, 101, 120, 116]) = C10 at *
        generalize (ByteArray.mk #[106, 117, 109, 112]) = C11 at *
        generalize (ByteArray.mk #[109, 97, 110, 121]) = C12 at *
        generalize (ByteArray.mk #[115, 119, 105, 116, 99, 104]) = C13 at *
        generalize (ByteArray.mk #[99, 104, 111, 105, 99, 101]) = C14 at *
        generalize (ByteArray.mk #[99, 97, 108, 108]) = C15 at *
        generalize (ByteArray.mk #[114, 101, 116, 117, 114, 110]) = C16 at *
        generalize (ByteArray.mk #[109, 97, 114, 107]) = C17 at *
        generalize (ByteArray.mk #[115, 116, 111, 112]) = C18 at *
        generalize (ByteArray.mk #[115, 117, 109]) = C19 at *
        generalize (ByteArray.mk #[101, 110, 100]) = C20 at *
        go_wp2_with fail
        show RR (.returned (.bool _)) _
        rw [HRR.out, HR.out]
        exact ⟨by simp [mayS], below_then' HB.out HB3.out⟩
      by_cases h8k : k = 8
      · subst h8k
        obtain ⟨S, hS⟩ : ∃ S, S = nmS 8 := ⟨_, rfl⟩
        have HNm := hid (show Calls Tryd.prog 23 #[.int .i64 8] wr (fun e w' => e = .returned (.string S) ∧ Below wr.heap.size wr w') from by rw [hS]; exact Name_any 8 wr)
        have q1 : (S.toList == ({ data := #[111, 112, 101, 110] } : ByteArray).toList) = false := by rw [hS, ByteArray.toList_eq, ByteArray.toList_eq]; decide +kernel
        have q2 : (S.toList == ({ data := #[99, 108, 111, 115, 101] } : ByteArray).toList) = false := by rw [hS, ByteArray.toList_eq, ByteArray.toList_eq]; decide +kernel
        have q3 : (S.toList == ({ data := #[102, 105, 120, 101, 100] } : ByteArray).toList) = false := by rw [hS, ByteArray.toList_eq, ByteArray.toList_eq]; decide +kernel
        have q4 : (S.toList == ({ data := #[118, 97, 114, 105, 110, 116] } : ByteArray).toList) = false := by rw [hS, ByteArray.toList_eq, ByteArray.toList_eq]; decide +kernel
        have q5 : (S.toList == ({ data := #[116, 111, 107, 101, 110] } : ByteArray).toList) = false := by rw [hS, ByteArray.toList_eq, ByteArray.toList_eq]; decide +kernel
        have q6 : (S.toList == ({ data := #[98, 108, 111, 98] } : ByteArray).toList) = false := by rw [hS, ByteArray.toList_eq, ByteArray.toList_eq]; decide +kernel
        have q7 : (S.toList == ({ data := #[101, 110, 116, 101, 114] } : ByteArray).toList) = false := by rw [hS, ByteArray.toList_eq, ByteArray.toList_eq]; decide +kernel
        have q8 : (S.toList == ({ data := #[108, 101, 97, 118, 101] } : ByteArray).toList) = true := by rw [hS, ByteArray.toList_eq, ByteArray.toList_eq]; decide +kernel
        have q9 : (S.toList == ({ data := #[99, 111, 117, 110, 116] } : ByteArray).toList) = false := by rw [hS, ByteArray.toList_eq, ByteArray.toList_eq]; decide +kernel
        have q10 : (S.toList == ({ data := #[110, 101, 120, 116] } : ByteArray).toList) = false := by rw [hS, ByteArray.toList_eq, ByteArray.toList_eq]; decide +kernel
        have q11 : (S.toList == ({ data := #[106, 117, 109, 112] } : ByteArray).toList) = false := by rw [hS, ByteArray.toList_eq, ByteArray.toList_eq]; decide +kernel
        have q12 : (S.toList == ({ data := #[109, 97, 110, 121] } : ByteArray).toList) = false := by rw [hS, ByteArray.toList_eq, ByteArray.toList_eq]; decide +kernel
        have q13 : (S.toList == ({ data := #[115, 119, 105, 116, 99, 104] } : ByteArray).toList) = false := by rw [hS, ByteArray.toList_eq, ByteArray.toList_eq]; decide +kernel
        have q14 : (S.toList == ({ data := #[99, 104, 111, 105, 99, 101] } : ByteArray).toList) = false := by rw [hS, ByteArray.toList_eq, ByteArray.toList_eq]; decide +kernel
        have q15 : (S.toList == ({ data := #[99, 97, 108, 108] } : ByteArray).toList) = false := by rw [hS, ByteArray.toList_eq, ByteArray.toList_eq]; decide +kernel
        have q16 : (S.toList == ({ data := #[114, 101, 116, 117, 114, 110] } : ByteArray).toList) = false := by rw [hS, ByteArray.toList_eq, ByteArray.toList_eq]; decide +kernel
        have q17 : (S.toList == ({ data := #[109, 97, 114, 107] } : ByteArray).toList) = false := by rw [hS, ByteArray.toList_eq, ByteArray.toList_eq]; decide +kernel
        have q18 : (S.toList == ({ data := #[115, 116, 111, 112] } : ByteArray).toList) = false := by rw [hS, ByteArray.toList_eq, ByteArray.toList_eq]; decide +kernel
        have q19 : (S.toList == ({ data := #[115, 117, 109] } : ByteArray).toList) = false := by rw [hS, ByteArray.toList_eq, ByteArray.toList_eq]; decide +kernel
        have q20 : (S.toList == ({ data := #[101, 110, 100] } : ByteArray).toList) = false := by rw [hS, ByteArray.toList_eq, ByteArray.toList_eq]; decide +kernel
        clear hS
        go_upto_region 9 with (go_at_call 23; (with_reducible refine HNm.out.mono ?_); rintro e w2 ⟨rfl, hb2⟩; have HB2 := hid hb2; clear hb2 c0)
        have HB3 := hid (below_then' HBr.out HB2.out)
        have HTa := hid (HTo.out a w2 (Blk.keep HXr.out HB2.out))
        have HTb := hid (HTo.out xb w2 (Blk.keep HXr.out HB2.out))
        obtain ⟨x0, x1, x2, x3⟩ := BoxP.four (Blk.keep HXr.out HB2.out)
        obtain ⟨c0, c1, c2, c4, c5, c8, _⟩ := HLow.out _ HB3.out
        simp only [Nat.zero_add] at x0 x1 x2 x3 c0 c1 c2 c4 c5 c8
        generalize (ByteArray.mk #[111, 112, 101, 110]) = C1 at *
        generalize (ByteArray.mk #[99, 108, 111, 115, 101]) = C2 at *
        generalize (ByteArray.mk #[102, 105, 120, 101, 100]) = C3 at *
        generalize (ByteArray.mk #[118, 97, 114, 105, 110, 116]) = C4 at *
        generalize (ByteArray.mk #[116, 111, 107, 101, 110]) = C5 at *
        generalize (ByteArray.mk #[98, 108, 111, 98]) = C6 at *
        generalize (ByteArray.mk #[101, 110, 116, 101, 114]) = C7 at *
        generalize (ByteArray.mk #[108, 101, 97, 118, 101]) = C8 at *
        generalize (ByteArray.mk #[99, 111, 117, 110, 116]) = C9 at *
        generalize (ByteArray.mk #[110, 101, 120, 116]) = C10 at *
        generalize (ByteArray.mk #[106, 117, 109, 112]) = C11 at *
        generalize (ByteArray.mk #[109, 97, 110, 121]) = C12 at *
        generalize (ByteArray.mk #[115, 119, 105, 116, 99, 104]) = C13 at *
        generalize (ByteArray.mk #[99, 104, 111, 105, 99, 101]) = C14 at *
        generalize (ByteArray.mk #[99, 97, 108, 108]) = C15 at *
        generalize (ByteArray.mk #[114, 101, 116, 117, 114, 110]) = C16 at *
        generalize (ByteArray.mk #[109, 97, 114, 107]) = C17 at *
        generalize (ByteArray.mk #[115, 116, 111, 112]) = C18 at *
        generalize (ByteArray.mk #[115, 117, 109]) = C19 at *
        generalize (ByteArray.mk #[101, 110, 100]) = C20 at *
        go_wp2_with fail
        show RR (.returned (.bool _)) _
        rw [HRR.out, HR.out]
        exact ⟨by simp [mayS], below_then' HB.out HB3.out⟩
      by_cases h16k : k = 16
      · subst h16k
        obtain ⟨S, hS⟩ : ∃ S, S = nmS 16 := ⟨_, rfl⟩
        have HNm := hid (show Calls Tryd.prog 23 #[.int .i64 16] wr (fun e w' => e = .returned (.string S) ∧ Below wr.heap.size wr w') from by rw [hS]; exact Name_any 16 wr)
        have q1 : (S.toList == ({ data := #[111, 112, 101, 110] } : ByteArray).toList) = false := by rw [hS, ByteArray.toList_eq, ByteArray.toList_eq]; decide +kernel
        have q2 : (S.toList == ({ data := #[99, 108, 111, 115, 101] } : ByteArray).toList) = false := by rw [hS, ByteArray.toList_eq, ByteArray.toList_eq]; decide +kernel
        have q3 : (S.toList == ({ data := #[102, 105, 120, 101, 100] } : ByteArray).toList) = false := by rw [hS, ByteArray.toList_eq, ByteArray.toList_eq]; decide +kernel
        have q4 : (S.toList == ({ data := #[118, 97, 114, 105, 110, 116] } : ByteArray).toList) = false := by rw [hS, ByteArray.toList_eq, ByteArray.toList_eq]; decide +kernel
        have q5 : (S.toList == ({ data := #[116, 111, 107, 101, 110] } : ByteArray).toList) = false := by rw [hS, ByteArray.toList_eq, ByteArray.toList_eq]; decide +kernel
        have q6 : (S.toList == ({ data := #[98, 108, 111, 98] } : ByteArray).toList) = false := by rw [hS, ByteArray.toList_eq, ByteArray.toList_eq]; decide +kernel
        have q7 : (S.toList == ({ data := #[101, 110, 116, 101, 114] } : ByteArray).toList) = false := by rw [hS, ByteArray.toList_eq, ByteArray.toList_eq]; decide +kernel
        have q8 : (S.toList == ({ data := #[108, 101, 97, 118, 101] } : ByteArray).toList) = false := by rw [hS, ByteArray.toList_eq, ByteArray.toList_eq]; decide +kernel
        have q9 : (S.toList == ({ data := #[99, 111, 117, 110, 116] } : ByteArray).toList) = false := by rw [hS, ByteArray.toList_eq, ByteArray.toList_eq]; decide +kernel
        have q10 : (S.toList == ({ data := #[110, 101, 120, 116] } : ByteArray).toList) = false := by rw [hS, ByteArray.toList_eq, ByteArray.toList_eq]; decide +kernel
        have q11 : (S.toList == ({ data := #[106, 117, 109, 112] } : ByteArray).toList) = false := by rw [hS, ByteArray.toList_eq, ByteArray.toList_eq]; decide +kernel
        have q12 : (S.toList == ({ data := #[109, 97, 110, 121] } : ByteArray).toList) = false := by rw [hS, ByteArray.toList_eq, ByteArray.toList_eq]; decide +kernel
        have q13 : (S.toList == ({ data := #[115, 119, 105, 116, 99, 104] } : ByteArray).toList) = false := by rw [hS, ByteArray.toList_eq, ByteArray.toList_eq]; decide +kernel
        have q14 : (S.toList == ({ data := #[99, 104, 111, 105, 99, 101] } : ByteArray).toList) = false := by rw [hS, ByteArray.toList_eq, ByteArray.toList_eq]; decide +kernel
        have q15 : (S.toList == ({ data := #[99, 97, 108, 108] } : ByteArray).toList) = false := by rw [hS, ByteArray.toList_eq, ByteArray.toList_eq]; decide +kernel
        have q16 : (S.toList == ({ data := #[114, 101, 116, 117, 114, 110] } : ByteArray).toList) = true := by rw [hS, ByteArray.toList_eq, ByteArray.toList_eq]; decide +kernel
        have q17 : (S.toList == ({ data := #[109, 97, 114, 107] } : ByteArray).toList) = false := by rw [hS, ByteArray.toList_eq, ByteArray.toList_eq]; decide +kernel
        have q18 : (S.toList == ({ data := #[115, 116, 111, 112] } : ByteArray).toList) = false := by rw [hS, ByteArray.toList_eq, ByteArray.toList_eq]; decide +kernel
        have q19 : (S.toList == ({ data := #[115, 117, 109] } : ByteArray).toList) = false := by rw [hS, ByteArray.toList_eq, ByteArray.toList_eq]; decide +kernel
        have q20 : (S.toList == ({ data := #[101, 110, 100] } : ByteArray).toList) = false := by rw [hS, ByteArray.toList_eq, ByteArray.toList_eq]; decide +kernel
        clear hS
        go_upto_region 9 with (go_at_call 23; (with_reducible refine HNm.out.mono ?_); rintro e w2 ⟨rfl, hb2⟩; have HB2 := hid hb2; clear hb2 c0)
        have HB3 := hid (below_then' HBr.out HB2.out)
        have HTa := hid (HTo.out a w2 (Blk.keep HXr.out HB2.out))
        have HTb := hid (HTo.out xb w2 (Blk.keep HXr.out HB2.out))
        obtain ⟨x0, x1, x2, x3⟩ := BoxP.four (Blk.keep HXr.out HB2.out)
        obtain ⟨c0, c1, c2, c4, c5, c8, _⟩ := HLow.out _ HB3.out
        simp only [Nat.zero_add] at x0 x1 x2 x3 c0 c1 c2 c4 c5 c8
        generalize (ByteArray.mk #[111, 112, 101, 110]) = C1 at *
        generalize (ByteArray.mk #[99, 108, 111, 115, 101]) = C2 at *
        generalize (ByteArray.mk #[102, 105, 120, 101, 100]) = C3 at *
        generalize (ByteArray.mk #[118, 97, 114, 105, 110, 116]) = C4 at *
        generalize (ByteArray.mk #[116, 111, 107, 101, 110]) = C5 at *
        generalize (ByteArray.mk #[98, 108, 111, 98]) = C6 at *
        generalize (ByteArray.mk #[101, 110, 116, 101, 114]) = C7 at *
        generalize (ByteArray.mk #[108, 101, 97, 118, 101]) = C8 at *
        generalize (ByteArray.mk #[99, 111, 117, 110, 116]) = C9 at *
        generalize (ByteArray.mk #[110, 101, 120, 116]) = C10 at *
        generalize (ByteArray.mk #[106, 117, 109, 112]) = C11 at *
        generalize (ByteArray.mk #[109, 97, 110, 121]) = C12 at *
        generalize (ByteArray.mk #[115, 119, 105, 116, 99, 104]) = C13 at *
        generalize (ByteArray.mk #[99, 104, 111, 105, 99, 101]) = C14 at *
        generalize (ByteArray.mk #[99, 97, 108, 108]) = C15 at *
        generalize (ByteArray.mk #[114, 101, 116, 117, 114, 110]) = C16 at *
        generalize (ByteArray.mk #[109, 97, 114, 107]) = C17 at *
        generalize (ByteArray.mk #[115, 116, 111, 112]) = C18 at *
        generalize (ByteArray.mk #[115, 117, 109]) = C19 at *
        generalize (ByteArray.mk #[101, 110, 100]) = C20 at *
        go_wp2_with fail
        show RR (.returned (.bool _)) _
        rw [HRR.out, HR.out]
        exact ⟨by simp [mayS], below_then' HB.out HB3.out⟩
      by_cases h20k : k = 20
      · subst h20k
        obtain ⟨S, hS⟩ : ∃ S, S = nmS 20 := ⟨_, rfl⟩
        have HNm := hid (show Calls Tryd.prog 23 #[.int .i64 20] wr (fun e w' => e = .returned (.string S) ∧ Below wr.heap.size wr w') from by rw [hS]; exact Name_any 20 wr)
        have q1 : (S.toList == ({ data := #[111, 112, 101, 110] } : ByteArray).toList) = false := by rw [hS, ByteArray.toList_eq, ByteArray.toList_eq]; decide +kernel
        have q2 : (S.toList == ({ data := #[99, 108, 111, 115, 101] } : ByteArray).toList) = false := by rw [hS, ByteArray.toList_eq, ByteArray.toList_eq]; decide +kernel
        have q3 : (S.toList == ({ data := #[102, 105, 120, 101, 100] } : ByteArray).toList) = false := by rw [hS, ByteArray.toList_eq, ByteArray.toList_eq]; decide +kernel
        have q4 : (S.toList == ({ data := #[118, 97, 114, 105, 110, 116] } : ByteArray).toList) = false := by rw [hS, ByteArray.toList_eq, ByteArray.toList_eq]; decide +kernel
        have q5 : (S.toList == ({ data := #[116, 111, 107, 101, 110] } : ByteArray).toList) = false := by rw [hS, ByteArray.toList_eq, ByteArray.toList_eq]; decide +kernel
        have q6 : (S.toList == ({ data := #[98, 108, 111, 98] } : ByteArray).toList) = false := by rw [hS, ByteArray.toList_eq, ByteArray.toList_eq]; decide +kernel
        have q7 : (S.toList == ({ data := #[101, 110, 116, 101, 114] } : ByteArray).toList) = false := by rw [hS, ByteArray.toList_eq, ByteArray.toList_eq]; decide +kernel
        have q8 : (S.toList == ({ data := #[108, 101, 97, 118, 101] } : ByteArray).toList) = false := by rw [hS, ByteArray.toList_eq, ByteArray.toList_eq]; decide +kernel
        have q9 : (S.toList == ({ data := #[99, 111, 117, 110, 116] } : ByteArray).toList) = false := by rw [hS, ByteArray.toList_eq, ByteArray.toList_eq]; decide +kernel
        have q10 : (S.toList == ({ data := #[110, 101, 120, 116] } : ByteArray).toList) = false := by rw [hS, ByteArray.toList_eq, ByteArray.toList_eq]; decide +kernel
        have q11 : (S.toList == ({ data := #[106, 117, 109, 112] } : ByteArray).toList) = false := by rw [hS, ByteArray.toList_eq, ByteArray.toList_eq]; decide +kernel
        have q12 : (S.toList == ({ data := #[109, 97, 110, 121] } : ByteArray).toList) = false := by rw [hS, ByteArray.toList_eq, ByteArray.toList_eq]; decide +kernel
        have q13 : (S.toList == ({ data := #[115, 119, 105, 116, 99, 104] } : ByteArray).toList) = false := by rw [hS, ByteArray.toList_eq, ByteArray.toList_eq]; decide +kernel
        have q14 : (S.toList == ({ data := #[99, 104, 111, 105, 99, 101] } : ByteArray).toList) = false := by rw [hS, ByteArray.toList_eq, ByteArray.toList_eq]; decide +kernel
        have q15 : (S.toList == ({ data := #[99, 97, 108, 108] } : ByteArray).toList) = false := by rw [hS, ByteArray.toList_eq, ByteArray.toList_eq]; decide +kernel
        have q16 : (S.toList == ({ data := #[114, 101, 116, 117, 114, 110] } : ByteArray).toList) = false := by rw [hS, ByteArray.toList_eq, ByteArray.toList_eq]; decide +kernel
        have q17 : (S.toList == ({ data := #[109, 97, 114, 107] } : ByteArray).toList) = false := by rw [hS, ByteArray.toList_eq, ByteArray.toList_eq]; decide +kernel
        have q18 : (S.toList == ({ data := #[115, 116, 111, 112] } : ByteArray).toList) = false := by rw [hS, ByteArray.toList_eq, ByteArray.toList_eq]; decide +kernel
        have q19 : (S.toList == ({ data := #[115, 117, 109] } : ByteArray).toList) = false := by rw [hS, ByteArray.toList_eq, ByteArray.toList_eq]; decide +kernel
        have q20 : (S.toList == ({ data := #[101, 110, 100] } : ByteArray).toList) = true := by rw [hS, ByteArray.toList_eq, ByteArray.toList_eq]; decide +kernel
        clear hS
        go_upto_region 9 with (go_at_call 23; (with_reducible refine HNm.out.mono ?_); rintro e w2 ⟨rfl, hb2⟩; have HB2 := hid hb2; clear hb2 c0)
        have HB3 := hid (below_then' HBr.out HB2.out)
        have HTa := hid (HTo.out a w2 (Blk.keep HXr.out HB2.out))
        have HTb := hid (HTo.out xb w2 (Blk.keep HXr.out HB2.out))
        obtain ⟨x0, x1, x2, x3⟩ := BoxP.four (Blk.keep HXr.out HB2.out)
        obtain ⟨c0, c1, c2, c4, c5, c8, _⟩ := HLow.out _ HB3.out
        simp only [Nat.zero_add] at x0 x1 x2 x3 c0 c1 c2 c4 c5 c8
        generalize (ByteArray.mk #[111, 112, 101, 110]) = C1 at *
        generalize (ByteArray.mk #[99, 108, 111, 115, 101]) = C2 at *
        generalize (ByteArray.mk #[102, 105, 120, 101, 100]) = C3 at *
        generalize (ByteArray.mk #[118, 97, 114, 105, 110, 116]) = C4 at *
        generalize (ByteArray.mk #[116, 111, 107, 101, 110]) = C5 at *
        generalize (ByteArray.mk #[98, 108, 111, 98]) = C6 at *
        generalize (ByteArray.mk #[101, 110, 116, 101, 114]) = C7 at *
        generalize (ByteArray.mk #[108, 101, 97, 118, 101]) = C8 at *
        generalize (ByteArray.mk #[99, 111, 117, 110, 116]) = C9 at *
        generalize (ByteArray.mk #[110, 101, 120, 116]) = C10 at *
        generalize (ByteArray.mk #[106, 117, 109, 112]) = C11 at *
        generalize (ByteArray.mk #[109, 97, 110, 121]) = C12 at *
        generalize (ByteArray.mk #[115, 119, 105, 116, 99, 104]) = C13 at *
        generalize (ByteArray.mk #[99, 104, 111, 105, 99, 101]) = C14 at *
        generalize (ByteArray.mk #[99, 97, 108, 108]) = C15 at *
        generalize (ByteArray.mk #[114, 101, 116, 117, 114, 110]) = C16 at *
        generalize (ByteArray.mk #[109, 97, 114, 107]) = C17 at *
        generalize (ByteArray.mk #[115, 116, 111, 112]) = C18 at *
        generalize (ByteArray.mk #[115, 117, 109]) = C19 at *
        generalize (ByteArray.mk #[101, 110, 100]) = C20 at *
        go_wp2_with fail
        show RR (.returned (.bool _)) _
        rw [HRR.out, HR.out]
        exact ⟨by simp [mayS], below_then' HB.out HB3.out⟩
      by_cases h3k : k = 3
      · subst h3k
        obtain ⟨S, hS⟩ : ∃ S, S = nmS 3 := ⟨_, rfl⟩
        have HNm := hid (show Calls Tryd.prog 23 #[.int .i64 3] wr (fun e w' => e = .returned (.string S) ∧ Below wr.heap.size wr w') from by rw [hS]; exact Name_any 3 wr)
        have q1 : (S.toList == ({ data := #[111, 112, 101, 110] } : ByteArray).toList) = false := by rw [hS, ByteArray.toList_eq, ByteArray.toList_eq]; decide +kernel
        have q2 : (S.toList == ({ data := #[99, 108, 111, 115, 101] } : ByteArray).toList) = false := by rw [hS, ByteArray.toList_eq, ByteArray.toList_eq]; decide +kernel
        have q3 : (S.toList == ({ data := #[102, 105, 120, 101, 100] } : ByteArray).toList) = true := by rw [hS, ByteArray.toList_eq, ByteArray.toList_eq]; decide +kernel
        have q4 : (S.toList == ({ data := #[118, 97, 114, 105, 110, 116] } : ByteArray).toList) = false := by rw [hS, ByteArray.toList_eq, ByteArray.toList_eq]; decide +kernel
        have q5 : (S.toList == ({ data := #[116, 111, 107, 101, 110] } : ByteArray).toList) = false := by rw [hS, ByteArray.toList_eq, ByteArray.toList_eq]; decide +kernel
        have q6 : (S.toList == ({ data := #[98, 108, 111, 98] } : ByteArray).toList) = false := by rw [hS, ByteArray.toList_eq, ByteArray.toList_eq]; decide +kernel
        have q7 : (S.toList == ({ data := #[101, 110, 116, 101, 114] } : ByteArray).toList) = false := by rw [hS, ByteArray.toList_eq, ByteArray.toList_eq]; decide +kernel
        have q8 : (S.toList == ({ data := #[108, 101, 97, 118, 101] } : ByteArray).toList) = false := by rw [hS, ByteArray.toList_eq, ByteArray.toList_eq]; decide +kernel
        have q9 : (S.toList == ({ data := #[99, 111, 117, 110, 116] } : ByteArray).toList) = false := by rw [hS, ByteArray.toList_eq, ByteArray.toList_eq]; decide +kernel
        have q10 : (S.toList == ({ data := #[110, 101, 120, 116] } : ByteArray).toList) = false := by rw [hS, ByteArray.toList_eq, ByteArray.toList_eq]; decide +kernel
        have q11 : (S.toList == ({ data := #[106, 117, 109, 112] } : ByteArray).toList) = false := by rw [hS, ByteArray.toList_eq, ByteArray.toList_eq]; decide +kernel
        have q12 : (S.toList == ({ data := #[109, 97, 110, 121] } : ByteArray).toList) = false := by rw [hS, ByteArray.toList_eq, ByteArray.toList_eq]; decide +kernel
        have q13 : (S.toList == ({ data := #[115, 119, 105, 116, 99, 104] } : ByteArray).toList) = false := by rw [hS, ByteArray.toList_eq, ByteArray.toList_eq]; decide +kernel
        have q14 : (S.toList == ({ data := #[99, 104, 111, 105, 99, 101] } : ByteArray).toList) = false := by rw [hS, ByteArray.toList_eq, ByteArray.toList_eq]; decide +kernel
        have q15 : (S.toList == ({ data := #[99, 97, 108, 108] } : ByteArray).toList) = false := by rw [hS, ByteArray.toList_eq, ByteArray.toList_eq]; decide +kernel
        have q16 : (S.toList == ({ data := #[114, 101, 116, 117, 114, 110] } : ByteArray).toList) = false := by rw [hS, ByteArray.toList_eq, ByteArray.toList_eq]; decide +kernel
        have q17 : (S.toList == ({ data := #[109, 97, 114, 107] } : ByteArray).toList) = false := by rw [hS, ByteArray.toList_eq, ByteArray.toList_eq]; decide +kernel
        have q18 : (S.toList == ({ data := #[115, 116, 111, 112] } : ByteArray).toList) = false := by rw [hS, ByteArray.toList_eq, ByteArray.toList_eq]; decide +kernel
        have q19 : (S.toList == ({ data := #[115, 117, 109] } : ByteArray).toList) = false := by rw [hS, ByteArray.toList_eq, ByteArray.toList_eq]; decide +kernel
        have q20 : (S.toList == ({ data := #[101, 110, 100] } : ByteArray).toList) = false := by rw [hS, ByteArray.toList_eq, ByteArray.toList_eq]; decide +kernel
        clear hS
        go_upto_region 9 with (go_at_call 23; (with_reducible refine HNm.out.mono ?_); rintro e w2 ⟨rfl, hb2⟩; have HB2 := hid hb2; clear hb2 c0)
        have HB3 := hid (below_then' HBr.out HB2.out)
        have HTa := hid (HTo.out a w2 (Blk.keep HXr.out HB2.out))
        have HTb := hid (HTo.out xb w2 (Blk.keep HXr.out HB2.out))
        obtain ⟨x0, x1, x2, x3⟩ := BoxP.four (Blk.keep HXr.out HB2.out)
        obtain ⟨c0, c1, c2, c4, c5, c8, _⟩ := HLow.out _ HB3.out
        simp only [Nat.zero_add] at x0 x1 x2 x3 c0 c1 c2 c4 c5 c8
        generalize (ByteArray.mk #[111, 112, 101, 110]) = C1 at *
        generalize (ByteArray.mk #[99, 108, 111, 115, 101]) = C2 at *
        generalize (ByteArray.mk #[102, 105, 120, 101, 100]) = C3 at *
        generalize (ByteArray.mk #[118, 97, 114, 105, 110, 116]) = C4 at *
        generalize (ByteArray.mk #[116, 111, 107, 101, 110]) = C5 at *
        generalize (ByteArray.mk #[98, 108, 111, 98]) = C6 at *
        generalize (ByteArray.mk #[101, 110, 116, 101, 114]) = C7 at *
        generalize (ByteArray.mk #[108, 101, 97, 118, 101]) = C8 at *
        generalize (ByteArray.mk #[99, 111, 117, 110, 116]) = C9 at *
        generalize (ByteArray.mk #[110, 101, 120, 116]) = C10 at *
        generalize (ByteArray.mk #[106, 117, 109, 112]) = C11 at *
        generalize (ByteArray.mk #[109, 97, 110, 121]) = C12 at *
        generalize (ByteArray.mk #[115, 119, 105, 116, 99, 104]) = C13 at *
        generalize (ByteArray.mk #[99, 104, 111, 105, 99, 101]) = C14 at *
        generalize (ByteArray.mk #[99, 97, 108, 108]) = C15 at *
        generalize (ByteArray.mk #[114, 101, 116, 117, 114, 110]) = C16 at *
        generalize (ByteArray.mk #[109, 97, 114, 107]) = C17 at *
        generalize (ByteArray.mk #[115, 116, 111, 112]) = C18 at *
        generalize (ByteArray.mk #[115, 117, 109]) = C19 at *
        generalize (ByteArray.mk #[101, 110, 100]) = C20 at *
        go_wp2_with fail
        all_goals
          show RR (.returned (.bool _)) _
          rw [HRR.out, HR.out]
          exact ⟨by (apply ret_bool; rw [Bool.eq_iff_iff]; first | (simp [mayS, numS, amg]; done) | (simp [mayS, numS, amg]; omega)), below_then' HB.out HB3.out⟩
      by_cases h4k : k = 4
      · subst h4k
        obtain ⟨S, hS⟩ : ∃ S, S = nmS 4 := ⟨_, rfl⟩
        have HNm := hid (show Calls Tryd.prog 23 #[.int .i64 4] wr (fun e w' => e = .returned (.string S) ∧ Below wr.heap.size wr w') from by rw [hS]; exact Name_any 4 wr)
        have q1 : (S.toList == ({ data := #[111, 112, 101, 110] } : ByteArray).toList) = false := by rw [hS, ByteArray.toList_eq, ByteArray.toList_eq]; decide +kernel
        have q2 : (S.toList == ({ data := #[99, 108, 111, 115, 101] } : ByteArray).toList) = false := by rw [hS, ByteArray.toList_eq, ByteArray.toList_eq]; decide +kernel
        have q3 : (S.toList == ({ data := #[102, 105, 120, 101, 100] } : ByteArray).toList) = false := by rw [hS, ByteArray.toList_eq, ByteArray.toList_eq]; decide +kernel
        have q4 : (S.toList == ({ data := #[118, 97, 114, 105, 110, 116] } : ByteArray).toList) = true := by rw [hS, ByteArray.toList_eq, ByteArray.toList_eq]; decide +kernel
        have q5 : (S.toList == ({ data := #[116, 111, 107, 101, 110] } : ByteArray).toList) = false := by rw [hS, ByteArray.toList_eq, ByteArray.toList_eq]; decide +kernel
        have q6 : (S.toList == ({ data := #[98, 108, 111, 98] } : ByteArray).toList) = false := by rw [hS, ByteArray.toList_eq, ByteArray.toList_eq]; decide +kernel
        have q7 : (S.toList == ({ data := #[101, 110, 116, 101, 114] } : ByteArray).toList) = false := by rw [hS, ByteArray.toList_eq, ByteArray.toList_eq]; decide +kernel
        have q8 : (S.toList == ({ data := #[108, 101, 97, 118, 101] } : ByteArray).toList) = false := by rw [hS, ByteArray.toList_eq, ByteArray.toList_eq]; decide +kernel
        have q9 : (S.toList == ({ data := #[99, 111, 117, 110, 116] } : ByteArray).toList) = false := by rw [hS, ByteArray.toList_eq, ByteArray.toList_eq]; decide +kernel
        have q10 : (S.toList == ({ data := #[110, 101, 120, 116] } : ByteArray).toList) = false := by rw [hS, ByteArray.toList_eq, ByteArray.toList_eq]; decide +kernel
        have q11 : (S.toList == ({ data := #[106, 117, 109, 112] } : ByteArray).toList) = false := by rw [hS, ByteArray.toList_eq, ByteArray.toList_eq]; decide +kernel
        have q12 : (S.toList == ({ data := #[109, 97, 110, 121] } : ByteArray).toList) = false := by rw [hS, ByteArray.toList_eq, ByteArray.toList_eq]; decide +kernel
        have q13 : (S.toList == ({ data := #[115, 119, 105, 116, 99, 104] } : ByteArray).toList) = false := by rw [hS, ByteArray.toList_eq, ByteArray.toList_eq]; decide +kernel
        have q14 : (S.toList == ({ data := #[99, 104, 111, 105, 99, 101] } : ByteArray).toList) = false := by rw [hS, ByteArray.toList_eq, ByteArray.toList_eq]; decide +kernel
        have q15 : (S.toList == ({ data := #[99, 97, 108, 108] } : ByteArray).toList) = false := by rw [hS, ByteArray.toList_eq, ByteArray.toList_eq]; decide +kernel
        have q16 : (S.toList == ({ data := #[114, 101, 116, 117, 114, 110] } : ByteArray).toList) = false := by rw [hS, ByteArray.toList_eq, ByteArray.toList_eq]; decide +kernel
        have q17 : (S.toList == ({ data := #[109, 97, 114, 107] } : ByteArray).toList) = false := by rw [hS, ByteArray.toList_eq, ByteArray.toList_eq]; decide +kernel
        have q18 : (S.toList == ({ data := #[115, 116, 111, 112] } : ByteArray).toList) = false := by rw [hS, ByteArray.toList_eq, ByteArray.toList_eq]; decide +kernel
        have q19 : (S.toList == ({ data := #[115, 117, 109] } : ByteArray).toList) = false := by rw [hS, ByteArray.toList_eq, ByteArray.toList_eq]; decide +kernel
        have q20 : (S.toList == ({ data := #[101, 110, 100] } : ByteArray).toList) = false := by rw [hS, ByteArray.toList_eq, ByteArray.toList_eq]; decide +kernel
        clear hS
        go_upto_region 9 with (go_at_call 23; (with_reducible refine HNm.out.mono ?_); rintro e w2 ⟨rfl, hb2⟩; have HB2 := hid hb2; clear hb2 c0)
        have HB3 := hid (below_then' HBr.out HB2.out)
        have HTa := hid (HTo.out a w2 (Blk.keep HXr.out HB2.out))
        have HTb := hid (HTo.out xb w2 (Blk.keep HXr.out HB2.out))
        obtain ⟨x0, x1, x2, x3⟩ := BoxP.four (Blk.keep HXr.out HB2.out)
        obtain ⟨c0, c1, c2, c4, c5, c8, _⟩ := HLow.out _ HB3.out
        simp only [Nat.zero_add] at x0 x1 x2 x3 c0 c1 c2 c4 c5 c8
        generalize (ByteArray.mk #[111, 112, 101, 110]) = C1 at *
        generalize (ByteArray.mk #[99, 108, 111, 115, 101]) = C2 at *
        generalize (ByteArray.mk #[102, 105, 120, 101, 100]) = C3 at *
        generalize (ByteArray.mk #[118, 97, 114, 105, 110, 116]) = C4 at *
        generalize (ByteArray.mk #[116, 111, 107, 101, 110]) = C5 at *
        generalize (ByteArray.mk #[98, 108, 111, 98]) = C6 at *
        generalize (ByteArray.mk #[101, 110, 116, 101, 114]) = C7 at *
        generalize (ByteArray.mk #[108, 101, 97, 118, 101]) = C8 at *
        generalize (ByteArray.mk #[99, 111, 117, 110, 116]) = C9 at *
        generalize (ByteArray.mk #[110, 101, 120, 116]) = C10 at *
        generalize (ByteArray.mk #[106, 117, 109, 112]) = C11 at *
        generalize (ByteArray.mk #[109, 97, 110, 121]) = C12 at *
        generalize (ByteArray.mk #[115, 119, 105, 116, 99, 104]) = C13 at *
        generalize (ByteArray.mk #[99, 104, 111, 105, 99, 101]) = C14 at *
        generalize (ByteArray.mk #[99, 97, 108, 108]) = C15 at *
        generalize (ByteArray.mk #[114, 101, 116, 117, 114, 110]) = C16 at *
        generalize (ByteArray.mk #[109, 97, 114, 107]) = C17 at *
        generalize (ByteArray.mk #[115, 116, 111, 112]) = C18 at *
        generalize (ByteArray.mk #[115, 117, 109]) = C19 at *
        generalize (ByteArray.mk #[101, 110, 100]) = C20 at *
        go_wp2_with fail
        all_goals
          show RR (.returned (.bool _)) _
          rw [HRR.out, HR.out]
          exact ⟨by (apply ret_bool; rw [Bool.eq_iff_iff]; first | (simp [mayS, numS, amg]; done) | (simp [mayS, numS, amg]; omega)), below_then' HB.out HB3.out⟩
      by_cases h5k : k = 5
      · subst h5k
        obtain ⟨S, hS⟩ : ∃ S, S = nmS 5 := ⟨_, rfl⟩
        have HNm := hid (show Calls Tryd.prog 23 #[.int .i64 5] wr (fun e w' => e = .returned (.string S) ∧ Below wr.heap.size wr w') from by rw [hS]; exact Name_any 5 wr)
        have q1 : (S.toList == ({ data := #[111, 112, 101, 110] } : ByteArray).toList) = false := by rw [hS, ByteArray.toList_eq, ByteArray.toList_eq]; decide +kernel
        have q2 : (S.toList == ({ data := #[99, 108, 111, 115, 101] } : ByteArray).toList) = false := by rw [hS, ByteArray.toList_eq, ByteArray.toList_eq]; decide +kernel
        have q3 : (S.toList == ({ data := #[102, 105, 120, 101, 100] } : ByteArray).toList) = false := by rw [hS, ByteArray.toList_eq, ByteArray.toList_eq]; decide +kernel
        have q4 : (S.toList == ({ data := #[118, 97, 114, 105, 110, 116] } : ByteArray).toList) = false := by rw [hS, ByteArray.toList_eq, ByteArray.toList_eq]; decide +kernel
        have q5 : (S.toList == ({ data := #[116, 111, 107, 101, 110] } : ByteArray).toList) = true := by rw [hS, ByteArray.toList_eq, ByteArray.toList_eq]; decide +kernel
        have q6 : (S.toList == ({ data := #[98, 108, 111, 98] } : ByteArray).toList) = false := by rw [hS, ByteArray.toList_eq, ByteArray.toList_eq]; decide +kernel
        have q7 : (S.toList == ({ data := #[101, 110, 116, 101, 114] } : ByteArray).toList) = false := by rw [hS, ByteArray.toList_eq, ByteArray.toList_eq]; decide +kernel
        have q8 : (S.toList == ({ data := #[108, 101, 97, 118, 101] } : ByteArray).toList) = false := by rw [hS, ByteArray.toList_eq, ByteArray.toList_eq]; decide +kernel
        have q9 : (S.toList == ({ data := #[99, 111, 117, 110, 116] } : ByteArray).toList) = false := by rw [hS, ByteArray.toList_eq, ByteArray.toList_eq]; decide +kernel
        have q10 : (S.toList == ({ data := #[110, 101, 120, 116] } : ByteArray).toList) = false := by rw [hS, ByteArray.toList_eq, ByteArray.toList_eq]; decide +kernel
        have q11 : (S.toList == ({ data := #[106, 117, 109, 112] } : ByteArray).toList) = false := by rw [hS, ByteArray.toList_eq, ByteArray.toList_eq]; decide +kernel
        have q12 : (S.toList == ({ data := #[109, 97, 110, 121] } : ByteArray).toList) = false := by rw [hS, ByteArray.toList_eq, ByteArray.toList_eq]; decide +kernel
        have q13 : (S.toList == ({ data := #[115, 119, 105, 116, 99, 104] } : ByteArray).toList) = false := by rw [hS, ByteArray.toList_eq, ByteArray.toList_eq]; decide +kernel
        have q14 : (S.toList == ({ data := #[99, 104, 111, 105, 99, 101] } : ByteArray).toList) = false := by rw [hS, ByteArray.toList_eq, ByteArray.toList_eq]; decide +kernel
        have q15 : (S.toList == ({ data := #[99, 97, 108, 108] } : ByteArray).toList) = false := by rw [hS, ByteArray.toList_eq, ByteArray.toList_eq]; decide +kernel
        have q16 : (S.toList == ({ data := #[114, 101, 116, 117, 114, 110] } : ByteArray).toList) = false := by rw [hS, ByteArray.toList_eq, ByteArray.toList_eq]; decide +kernel
        have q17 : (S.toList == ({ data := #[109, 97, 114, 107] } : ByteArray).toList) = false := by rw [hS, ByteArray.toList_eq, ByteArray.toList_eq]; decide +kernel
        have q18 : (S.toList == ({ data := #[115, 116, 111, 112] } : ByteArray).toList) = false := by rw [hS, ByteArray.toList_eq, ByteArray.toList_eq]; decide +kernel
        have q19 : (S.toList == ({ data := #[115, 117, 109] } : ByteArray).toList) = false := by rw [hS, ByteArray.toList_eq, ByteArray.toList_eq]; decide +kernel
        have q20 : (S.toList == ({ data := #[101, 110, 100] } : ByteArray).toList) = false := by rw [hS, ByteArray.toList_eq, ByteArray.toList_eq]; decide +kernel
        clear hS
        go_upto_region 9 with (go_at_call 23; (with_reducible refine HNm.out.mono ?_); rintro e w2 ⟨rfl, hb2⟩; have HB2 := hid hb2; clear hb2 c0)
        have HB3 := hid (below_then' HBr.out HB2.out)
        have HTa := hid (HTo.out a w2 (Blk.keep HXr.out HB2.out))
        have HTb := hid (HTo.out xb w2 (Blk.keep HXr.out HB2.out))
        obtain ⟨x0, x1, x2, x3⟩ := BoxP.four (Blk.keep HXr.out HB2.out)
        obtain ⟨c0, c1, c2, c4, c5, c8, _⟩ := HLow.out _ HB3.out
        simp only [Nat.zero_add] at x0 x1 x2 x3 c0 c1 c2 c4 c5 c8
        generalize (ByteArray.mk #[111, 112, 101, 110]) = C1 at *
        generalize (ByteArray.mk #[99, 108, 111, 115, 101]) = C2 at *
        generalize (ByteArray.mk #[102, 105, 120, 101, 100]) = C3 at *
        generalize (ByteArray.mk #[118, 97, 114, 105, 110, 116]) = C4 at *
        generalize (ByteArray.mk #[116, 111, 107, 101, 110]) = C5 at *
        generalize (ByteArray.mk #[98, 108, 111, 98]) = C6 at *
        generalize (ByteArray.mk #[101, 110, 116, 101, 114]) = C7 at *
        generalize (ByteArray.mk #[108, 101, 97, 118, 101]) = C8 at *
        generalize (ByteArray.mk #[99, 111, 117, 110, 116]) = C9 at *
        generalize (ByteArray.mk #[110, 101, 120, 116]) = C10 at *
        generalize (ByteArray.mk #[106, 117, 109, 112]) = C11 at *
        generalize (ByteArray.mk #[109, 97, 110, 121]) = C12 at *
        generalize (ByteArray.mk #[115, 119, 105, 116, 99, 104]) = C13 at *
        generalize (ByteArray.mk #[99, 104, 111, 105, 99, 101]) = C14 at *
        generalize (ByteArray.mk #[99, 97, 108, 108]) = C15 at *
        generalize (ByteArray.mk #[114, 101, 116, 117, 114, 110]) = C16 at *
        generalize (ByteArray.mk #[109, 97, 114, 107]) = C17 at *
        generalize (ByteArray.mk #[115, 116, 111, 112]) = C18 at *
        generalize (ByteArray.mk #[115, 117, 109]) = C19 at *
        generalize (ByteArray.mk #[101, 110, 100]) = C20 at *
        go_wp2_with fail
        all_goals
          show RR (.returned (.bool _)) _
          rw [HRR.out, HR.out]
          exact ⟨by (apply ret_bool; rw [Bool.eq_iff_iff]; first | (simp [mayS, numS, amg]; done) | (simp [mayS, numS, amg]; omega)), below_then' HB.out HB3.out⟩
      by_cases h6k : k = 6
      · subst h6k
        obtain ⟨S, hS⟩ : ∃ S, S = nmS 6 := ⟨_, rfl⟩
        have HNm := hid (show Calls Tryd.prog 23 #[.int .i64 6] wr (fun e w' => e = .returned (.string S) ∧ Below wr.heap.size wr w') from by rw [hS]; exact Name_any 6 wr)
        have q1 : (S.toList == ({ data := #[111, 112, 101, 110] } : ByteArray).toList) = false := by rw [hS, ByteArray.toList_eq, ByteArray.toList_eq]; decide +kernel
        have q2 : (S.toList == ({ data := #[99, 108, 111, 115, 101] } : ByteArray).toList) = false := by rw [hS, ByteArray.toList_eq, ByteArray.toList_eq]; decide +kernel
        have q3 : (S.toList == ({ data := #[102, 105, 120, 101, 100] } : ByteArray).toList) = false := by rw [hS, ByteArray.toList_eq, ByteArray.toList_eq]; decide +kernel
        have q4 : (S.toList == ({ data := #[118, 97, 114, 105, 110, 116] } : ByteArray).toList) = false := by rw [hS, ByteArray.toList_eq, ByteArray.toList_eq]; decide +kernel
        have q5 : (S.toList == ({ data := #[116, 111, 107, 101, 110] } : ByteArray).toList) = false := by rw [hS, ByteArray.toList_eq, ByteArray.toList_eq]; decide +kernel
        have q6 : (S.toList == ({ data := #[98, 108, 111, 98] } : ByteArray).toList) = true := by rw [hS, ByteArray.toList_eq, ByteArray.toList_eq]; decide +kernel
        have q7 : (S.toList == ({ data := #[101, 110, 116, 101, 114] } : ByteArray).toList) = false := by rw [hS, ByteArray.toList_eq, ByteArray.toList_eq]; decide +kernel
        have q8 : (S.toList == ({ data := #[108, 101, 97, 118, 101] } : ByteArray).toList) = false := by rw [hS, ByteArray.toList_eq, ByteArray.toList_eq]; decide +kernel
        have q9 : (S.toList == ({ data := #[99, 111, 117, 110, 116] } : ByteArray).toList) = false := by rw [hS, ByteArray.toList_eq, ByteArray.toList_eq]; decide +kernel
        have q10 : (S.toList == ({ data := #[110, 101, 120, 116] } : ByteArray).toList) = false := by rw [hS, ByteArray.toList_eq, ByteArray.toList_eq]; decide +kernel
        have q11 : (S.toList == ({ data := #[106, 117, 109, 112] } : ByteArray).toList) = false := by rw [hS, ByteArray.toList_eq, ByteArray.toList_eq]; decide +kernel
        have q12 : (S.toList == ({ data := #[109, 97, 110, 121] } : ByteArray).toList) = false := by rw [hS, ByteArray.toList_eq, ByteArray.toList_eq]; decide +kernel
        have q13 : (S.toList == ({ data := #[115, 119, 105, 116, 99, 104] } : ByteArray).toList) = false := by rw [hS, ByteArray.toList_eq, ByteArray.toList_eq]; decide +kernel
        have q14 : (S.toList == ({ data := #[99, 104, 111, 105, 99, 101] } : ByteArray).toList) = false := by rw [hS, ByteArray.toList_eq, ByteArray.toList_eq]; decide +kernel
        have q15 : (S.toList == ({ data := #[99, 97, 108, 108] } : ByteArray).toList) = false := by rw [hS, ByteArray.toList_eq, ByteArray.toList_eq]; decide +kernel
        have q16 : (S.toList == ({ data := #[114, 101, 116, 117, 114, 110] } : ByteArray).toList) = false := by rw [hS, ByteArray.toList_eq, ByteArray.toList_eq]; decide +kernel
        have q17 : (S.toList == ({ data := #[109, 97, 114, 107] } : ByteArray).toList) = false := by rw [hS, ByteArray.toList_eq, ByteArray.toList_eq]; decide +kernel
        have q18 : (S.toList == ({ data := #[115, 116, 111, 112] } : ByteArray).toList) = false := by rw [hS, ByteArray.toList_eq, ByteArray.toList_eq]; decide +kernel
        have q19 : (S.toList == ({ data := #[115, 117, 109] } : ByteArray).toList) = false := by rw [hS, ByteArray.toList_eq, ByteArray.toList_eq]; decide +kernel
        have q20 : (S.toList == ({ data := #[101, 110, 100] } : ByteArray).toList) = false := by rw [hS, ByteArray.toList_eq, ByteArray.toList_eq]; decide +kernel
        clear hS
        go_upto_region 9 with (go_at_call 23; (with_reducible refine HNm.out.mono ?_); rintro e w2 ⟨rfl, hb2⟩; have HB2 := hid hb2; clear hb2 c0)
        have HB3 := hid (below_then' HBr.out HB2.out)
        have HTa := hid (HTo.out a w2 (Blk.keep HXr.out HB2.out))
        have HTb := hid (HTo.out xb w2 (Blk.keep HXr.out HB2.out))
        obtain ⟨x0, x1, x2, x3⟩ := BoxP.four (Blk.keep HXr.out HB2.out)
        obtain ⟨c0, c1, c2, c4, c5, c8, _⟩ := HLow.out _ HB3.out
        simp only [Nat.zero_add] at x0 x1 x2 x3 c0 c1 c2 c4 c5 c8
        generalize (ByteArray.mk #[111, 112, 101, 110]) = C1 at *
        generalize (ByteArray.mk #[99, 108, 111, 115, 101]) = C2 at *
        generalize (ByteArray.mk #[102, 105, 120, 101, 100]) = C3 at *
        generalize (ByteArray.mk #[118, 97, 114, 105, 110, 116]) = C4 at *
        generalize (ByteArray.mk #[116, 111, 107, 101, 110]) = C5 at *
        generalize (ByteArray.mk #[98, 108, 111, 98]) = C6 at *
        generalize (ByteArray.mk #[101, 110, 116, 101, 114]) = C7 at *
        generalize (ByteArray.mk #[108, 101, 97, 118, 101]) = C8 at *
        generalize (ByteArray.mk #[99, 111, 117, 110, 116]) = C9 at *
        generalize (ByteArray.mk #[110, 101, 120, 116]) = C10 at *
        generalize (ByteArray.mk #[106, 117, 109, 112]) = C11 at *
        generalize (ByteArray.mk #[109, 97, 110, 121]) = C12 at *
        generalize (ByteArray.mk #[115, 119, 105, 116, 99, 104]) = C13 at *
        generalize (ByteArray.mk #[99, 104, 111, 105, 99, 101]) = C14 at *
        generalize (ByteArray.mk #[99, 97, 108, 108]) = C15 at *
        generalize (ByteArray.mk #[114, 101, 116, 117, 114, 110]) = C16 at *
        generalize (ByteArray.mk #[109, 97, 114, 107]) = C17 at *
        generalize (ByteArray.mk #[115, 116, 111, 112]) = C18 at *
        generalize (ByteArray.mk #[115, 117, 109]) = C19 at *
        generalize (ByteArray.mk #[101, 110, 100]) = C20 at *
        go_wp2_with fail
        all_goals
          show RR (.returned (.bool _)) _
          rw [HRR.out, HR.out]
          exact ⟨by (apply ret_bool; rw [Bool.eq_iff_iff]; first | (simp [mayS, numS, amg]; done) | (simp [mayS, numS, amg]; omega)), below_then' HB.out HB3.out⟩
      by_cases h7k : k = 7
      · subst h7k
        obtain ⟨S, hS⟩ : ∃ S, S = nmS 7 := ⟨_, rfl⟩
        have HNm := hid (show Calls Tryd.prog 23 #[.int .i64 7] wr (fun e w' => e = .returned (.string S) ∧ Below wr.heap.size wr w') from by rw [hS]; exact Name_any 7 wr)
        have q1 : (S.toList == ({ data := #[111, 112, 101, 110] } : ByteArray).toList) = false := by rw [hS, ByteArray.toList_eq, ByteArray.toList_eq]; decide +kernel
        have q2 : (S.toList == ({ data := #[99, 108, 111, 115, 101] } : ByteArray).toList) = false := by rw [hS, ByteArray.toList_eq, ByteArray.toList_eq]; decide +kernel
        have q3 : (S.toList == ({ data := #[102, 105, 120, 101, 100] } : ByteArray).toList) = false := by rw [hS, ByteArray.toList_eq, ByteArray.toList_eq]; decide +kernel
        have q4 : (S.toList == ({ data := #[118, 97, 114, 105, 110, 116] } : ByteArray).toList) = false := by rw [hS, ByteArray.toList_eq, ByteArray.toList_eq]; decide +kernel
        have q5 : (S.toList == ({ data := #[116, 111, 107, 101, 110] } : ByteArray).toList) = false := by rw [hS, ByteArray.toList_eq, ByteArray.toList_eq]; decide +kernel
        have q6 : (S.toList == ({ data := #[98, 108, 111, 98] } : ByteArray).toList) = false := by rw [hS, ByteArray.toList_eq, ByteArray.toList_eq]; decide +kernel
        have q7 : (S.toList == ({ data := #[101, 110, 116, 101, 114] } : ByteArray).toList) = true := by rw [hS, ByteArray.toList_eq, ByteArray.toList_eq]; decide +kernel
        have q8 : (S.toList == ({ data := #[108, 101, 97, 118, 101] } : ByteArray).toList) = false := by rw [hS, ByteArray.toList_eq, ByteArray.toList_eq]; decide +kernel
        have q9 : (S.toList == ({ data := #[99, 111, 117, 110, 116] } : ByteArray).toList) = false := by rw [hS, ByteArray.toList_eq, ByteArray.toList_eq]; decide +kernel
        have q10 : (S.toList == ({ data := #[110, 101, 120, 116] } : ByteArray).toList) = false := by rw [hS, ByteArray.toList_eq, ByteArray.toList_eq]; decide +kernel
        have q11 : (S.toList == ({ data := #[106, 117, 109, 112] } : ByteArray).toList) = false := by rw [hS, ByteArray.toList_eq, ByteArray.toList_eq]; decide +kernel
        have q12 : (S.toList == ({ data := #[109, 97, 110, 121] } : ByteArray).toList) = false := by rw [hS, ByteArray.toList_eq, ByteArray.toList_eq]; decide +kernel
        have q13 : (S.toList == ({ data := #[115, 119, 105, 116, 99, 104] } : ByteArray).toList) = false := by rw [hS, ByteArray.toList_eq, ByteArray.toList_eq]; decide +kernel
        have q14 : (S.toList == ({ data := #[99, 104, 111, 105, 99, 101] } : ByteArray).toList) = false := by rw [hS, ByteArray.toList_eq, ByteArray.toList_eq]; decide +kernel
        have q15 : (S.toList == ({ data := #[99, 97, 108, 108] } : ByteArray).toList) = false := by rw [hS, ByteArray.toList_eq, ByteArray.toList_eq]; decide +kernel
        have q16 : (S.toList == ({ data := #[114, 101, 116, 117, 114, 110] } : ByteArray).toList) = false := by rw [hS, ByteArray.toList_eq, ByteArray.toList_eq]; decide +kernel
        have q17 : (S.toList == ({ data := #[109, 97, 114, 107] } : ByteArray).toList) = false := by rw [hS, ByteArray.toList_eq, ByteArray.toList_eq]; decide +kernel
        have q18 : (S.toList == ({ data := #[115, 116, 111, 112] } : ByteArray).toList) = false := by rw [hS, ByteArray.toList_eq, ByteArray.toList_eq]; decide +kernel
        have q19 : (S.toList == ({ data := #[115, 117, 109] } : ByteArray).toList) = false := by rw [hS, ByteArray.toList_eq, ByteArray.toList_eq]; decide +kernel
        have q20 : (S.toList == ({ data := #[101, 110, 100] } : ByteArray).toList) = false := by rw [hS, ByteArray.toList_eq, ByteArray.toList_eq]; decide +kernel
        clear hS
        go_upto_region 9 with (go_at_call 23; (with_reducible refine HNm.out.mono ?_); rintro e w2 ⟨rfl, hb2⟩; have HB2 := hid hb2; clear hb2 c0)
        have HB3 := hid (below_then' HBr.out HB2.out)
        have HTa := hid (HTo.out a w2 (Blk.keep HXr.out HB2.out))
        have HTb := hid (HTo.out xb w2 (Blk.keep HXr.out HB2.out))
        obtain ⟨x0, x1, x2, x3⟩ := BoxP.four (Blk.keep HXr.out HB2.out)
        obtain ⟨c0, c1, c2, c4, c5, c8, _⟩ := HLow.out _ HB3.out
        simp only [Nat.zero_add] at x0 x1 x2 x3 c0 c1 c2 c4 c5 c8
        generalize (ByteArray.mk #[111, 112, 101, 110]) = C1 at *
        generalize (ByteArray.mk #[99, 108, 111, 115, 101]) = C2 at *
        generalize (ByteArray.mk #[102, 105, 120, 101, 100]) = C3 at *
        generalize (ByteArray.mk #[118, 97, 114, 105, 110, 116]) = C4 at *
        generalize (ByteArray.mk #[116, 111, 107, 101, 110]) = C5 at *
        generalize (ByteArray.mk #[98, 108, 111, 98]) = C6 at *
        generalize (ByteArray.mk #[101, 110, 116, 101, 114]) = C7 at *
        generalize (ByteArray.mk #[108, 101, 97, 118, 101]) = C8 at *
        generalize (ByteArray.mk #[99, 111, 117, 110, 116]) = C9 at *
        generalize (ByteArray.mk #[110, 101, 120, 116]) = C10 at *
        generalize (ByteArray.mk #[106, 117, 109, 112]) = C11 at *
        generalize (ByteArray.mk #[109, 97, 110, 121]) = C12 at *
        generalize (ByteArray.mk #[115, 119, 105, 116, 99, 104]) = C13 at *
        generalize (ByteArray.mk #[99, 104, 111, 105, 99, 101]) = C14 at *
        generalize (ByteArray.mk #[99, 97, 108, 108]) = C15 at *
        generalize (ByteArray.mk #[114, 101, 116, 117, 114, 110]) = C16 at *
        generalize (ByteArray.mk #[109, 97, 114, 107]) = C17 at *
        generalize (ByteArray.mk #[115, 116, 111, 112]) = C18 at *
        generalize (ByteArray.mk #[115, 117, 109]) = C19 at *
        generalize (ByteArray.mk #[101, 110, 100]) = C20 at *
        go_wp2_with fail
        all_goals
          show RR (.returned (.bool _)) _
          rw [HRR.out, HR.out]
          exact ⟨by (apply ret_bool; rw [Bool.eq_iff_iff]; first | (simp [mayS, numS, amg]; done) | (simp [mayS, numS, amg]; omega)), below_then' HB.out HB3.out⟩
      by_cases h9k : k = 9
      · subst h9k
        obtain ⟨S, hS⟩ : ∃ S, S = nmS 9 := ⟨_, rfl⟩
        have HNm := hid (show Calls Tryd.prog 23 #[.int .i64 9] wr (fun e w' => e = .returned (.string S) ∧ Below wr.heap.size wr w') from by rw [hS]; exact Name_any 9 wr)
        have q1 : (S.toList == ({ data := #[111, 112, 101, 110] } : ByteArray).toList) = false := by rw [hS, ByteArray.toList_eq, ByteArray.toList_eq]; decide +kernel
        have q2 : (S.toList == ({ data := #[99, 108, 111, 115, 101] } : ByteArray).toList) = false := by rw [hS, ByteArray.toList_eq, ByteArray.toList_eq]; decide +kernel
        have q3 : (S.toList == ({ data := #[102, 105, 120, 101, 100] } : ByteArray).toList) = false := by rw [hS, ByteArray.toList_eq, ByteArray.toList_eq]; decide +kernel
        have q4 : (S.toList == ({ data := #[118, 97, 114, 105, 110, 116] } : ByteArray).toList) = false := by rw [hS, ByteArray.toList_eq, ByteArray.toList_eq]; decide +kernel
        have q5 : (S.toList == ({ data := #[116, 111, 107, 101, 110] } : ByteArray).toList) = false := by rw [hS, ByteArray.toList_eq, ByteArray.toList_eq]; decide +kernel
        have q6 : (S.toList == ({ data := #[98, 108, 111, 98] } : ByteArray).toList) = false := by rw [hS, ByteArray.toList_eq, ByteArray.toList_eq]; decide +kernel
        have q7 : (S.toList == ({ data := #[101, 110, 116, 101, 114] } : ByteArray).toList) = false := by rw [hS, ByteArray.toList_eq, ByteArray.toList_eq]; decide +kernel
        have q8 : (S.toList == ({ data := #[108, 101, 97, 118, 101] } : ByteArray).toList) = false := by rw [hS, ByteArray.toList_eq, ByteArray.toList_eq]; decide +kernel
        have q9 : (S.toList == ({ data := #[99, 111, 117, 110, 116] } : ByteArray).toList) = true := by rw [hS, ByteArray.toList_eq, ByteArray.toList_eq]; decide +kernel
        have q10 : (S.toList == ({ data := #[110, 101, 120, 116] } : ByteArray).toList) = false := by rw [hS, ByteArray.toList_eq, ByteArray.toList_eq]; decide +kernel
        have q11 : (S.toList == ({ data := #[106, 117, 109, 112] } : ByteArray).toList) = false := by rw [hS, ByteArray.toList_eq, ByteArray.toList_eq]; decide +kernel
        have q12 : (S.toList == ({ data := #[109, 97, 110, 121] } : ByteArray).toList) = false := by rw [hS, ByteArray.toList_eq, ByteArray.toList_eq]; decide +kernel
        have q13 : (S.toList == ({ data := #[115, 119, 105, 116, 99, 104] } : ByteArray).toList) = false := by rw [hS, ByteArray.toList_eq, ByteArray.toList_eq]; decide +kernel
        have q14 : (S.toList == ({ data := #[99, 104, 111, 105, 99, 101] } : ByteArray).toList) = false := by rw [hS, ByteArray.toList_eq, ByteArray.toList_eq]; decide +kernel
        have q15 : (S.toList == ({ data := #[99, 97, 108, 108] } : ByteArray).toList) = false := by rw [hS, ByteArray.toList_eq, ByteArray.toList_eq]; decide +kernel
        have q16 : (S.toList == ({ data := #[114, 101, 116, 117, 114, 110] } : ByteArray).toList) = false := by rw [hS, ByteArray.toList_eq, ByteArray.toList_eq]; decide +kernel
        have q17 : (S.toList == ({ data := #[109, 97, 114, 107] } : ByteArray).toList) = false := by rw [hS, ByteArray.toList_eq, ByteArray.toList_eq]; decide +kernel
        have q18 : (S.toList == ({ data := #[115, 116, 111, 112] } : ByteArray).toList) = false := by rw [hS, ByteArray.toList_eq, ByteArray.toList_eq]; decide +kernel
        have q19 : (S.toList == ({ data := #[115, 117, 109] } : ByteArray).toList) = false := by rw [hS, ByteArray.toList_eq, ByteArray.toList_eq]; decide +kernel
        have q20 : (S.toList == ({ data := #[101, 110, 100] } : ByteArray).toList) = false := by rw [hS, ByteArray.toList_eq, ByteArray.toList_eq]; decide +kernel
        clear hS
        go_upto_region 9 with (go_at_call 23; (with_reducible refine HNm.out.mono ?_); rintro e w2 ⟨rfl, hb2⟩; have HB2 := hid hb2; clear hb2 c0)
        have HB3 := hid (below_then' HBr.out HB2.out)
        have HTa := hid (HTo.out a w2 (Blk.keep HXr.out HB2.out))
        have HTb := hid (HTo.out xb w2 (Blk.keep HXr.out HB2.out))
        obtain ⟨x0, x1, x2, x3⟩ := BoxP.four (Blk.keep HXr.out HB2.out)
        obtain ⟨c0, c1, c2, c4, c5, c8, _⟩ := HLow.out _ HB3.out
        simp only [Nat.zero_add] at x0 x1 x2 x3 c0 c1 c2 c4 c5 c8
        generalize (ByteArray.mk #[111, 112, 101, 110]) = C1 at *
        generalize (ByteArray.mk #[99, 108, 111, 115, 101]) = C2 at *
        generalize (ByteArray.mk #[102, 105, 120, 101, 100]) = C3 at *
        generalize (ByteArray.mk #[118, 97, 114, 105, 110, 116]) = C4 at *
        generalize (ByteArray.mk #[116, 111, 107, 101, 110]) = C5 at *
        generalize (ByteArray.mk #[98, 108, 111, 98]) = C6 at *
        generalize (ByteArray.mk #[101, 110, 116, 101, 114]) = C7 at *
        generalize (ByteArray.mk #[108, 101, 97, 118, 101]) = C8 at *
        generalize (ByteArray.mk #[99, 111, 117, 110, 116]) = C9 at *
        generalize (ByteArray.mk #[110, 101, 120, 116]) = C10 at *
        generalize (ByteArray.mk #[106, 117, 109, 112]) = C11 at *
        generalize (ByteArray.mk #[109, 97, 110, 121]) = C12 at *
        generalize (ByteArray.mk #[115, 119, 105, 116, 99, 104]) = C13 at *
        generalize (ByteArray.mk #[99, 104, 111, 105, 99, 101]) = C14 at *
        generalize (ByteArray.mk #[99, 97, 108, 108]) = C15 at *
        generalize (ByteArray.mk #[114, 101, 116, 117, 114, 110]) = C16 at *
        generalize (ByteArray.mk #[109, 97, 114, 107]) = C17 at *
        generalize (ByteArray.mk #[115, 116, 111, 112]) = C18 at *
        generalize (ByteArray.mk #[115, 117, 109]) = C19 at *
        generalize (ByteArray.mk #[101, 110, 100]) = C20 at *
        go_wp2_with fail
        all_goals
          show RR (.returned (.bool _)) _
          rw [HRR.out, HR.out]
          exact ⟨by (apply ret_bool; rw [Bool.eq_iff_iff]; first | (simp [mayS, numS, amg]; done) | (simp [mayS, numS, amg]; omega)), below_then' HB.out HB3.out⟩
      by_cases h10k : k = 10
      · subst h10k
        obtain ⟨S, hS⟩ : ∃ S, S = nmS 10 := ⟨_, rfl⟩
        have HNm := hid (show Calls Tryd.prog 23 #[.int .i64 10] wr (fun e w' => e = .returned (.string S) ∧ Below wr.heap.size wr w') from by rw [hS]; exact Name_any 10 wr)
        have q1 : (S.toList == ({ data := #[111, 112, 101, 110] } : ByteArray).toList) = false := by rw [hS, ByteArray.toList_eq, ByteArray.toList_eq]; decide +kernel
        have q2 : (S.toList == ({ data := #[99, 108, 111, 115, 101] } : ByteArray).toList) = false := by rw [hS, ByteArray.toList_eq, ByteArray.toList_eq]; decide +kernel
        have q3 : (S.toList == ({ data := #[102, 105, 120, 101, 100] } : ByteArray).toList) = false := by rw [hS, ByteArray.toList_eq, ByteArray.toList_eq]; decide +kernel
        have q4 : (S.toList == ({ data := #[118, 97, 114, 105, 110, 116] } : ByteArray).toList) = false := by rw [hS, ByteArray.toList_eq, ByteArray.toList_eq]; decide +kernel
        have q5 : (S.toList == ({ data := #[116, 111, 107, 101, 110] } : ByteArray).toList) = false := by rw [hS, ByteArray.toList_eq, ByteArray.toList_eq]; decide +kernel
        have q6 : (S.toList == ({ data := #[98, 108, 111, 98] } : ByteArray).toList) = false := by rw [hS, ByteArray.toList_eq, ByteArray.toList_eq]; decide +kernel
        have q7 : (S.toList == ({ data := #[101, 110, 116, 101, 114] } : ByteArray).toList) = false := by rw [hS, ByteArray.toList_eq, ByteArray.toList_eq]; decide +kernel
        have q8 : (S.toList == ({ data := #[108, 101, 97, 118, 101] } : ByteArray).toList) = false := by rw [hS, ByteArray.toList_eq, ByteArray.toList_eq]; decide +kernel
        have q9 : (S.toList == ({ data := #[99, 111, 117, 110, 116] } : ByteArray).toList) = false := by rw [hS, ByteArray.toList_eq, ByteArray.toList_eq]; decide +kernel
        have q10 : (S.toList == ({ data := #[110, 101, 120, 116] } : ByteArray).toList) = true := by rw [hS, ByteArray.toList_eq, ByteArray.toList_eq]; decide +kernel
        have q11 : (S.toList == ({ data := #[106, 117, 109, 112] } : ByteArray).toList) = false := by rw [hS, ByteArray.toList_eq, ByteArray.toList_eq]; decide +kernel
        have q12 : (S.toList == ({ data := #[109, 97, 110, 121] } : ByteArray).toList) = false := by rw [hS, ByteArray.toList_eq, ByteArray.toList_eq]; decide +kernel
        have q13 : (S.toList == ({ data := #[115, 119, 105, 116, 99, 104] } : ByteArray).toList) = false := by rw [hS, ByteArray.toList_eq, ByteArray.toList_eq]; decide +kernel
        have q14 : (S.toList == ({ data := #[99, 104, 111, 105, 99, 101] } : ByteArray).toList) = false := by rw [hS, ByteArray.toList_eq, ByteArray.toList_eq]; decide +kernel
        have q15 : (S.toList == ({ data := #[99, 97, 108, 108] } : ByteArray).toList) = false := by rw [hS, ByteArray.toList_eq, ByteArray.toList_eq]; decide +kernel
        have q16 : (S.toList == ({ data := #[114, 101, 116, 117, 114, 110] } : ByteArray).toList) = false := by rw [hS, ByteArray.toList_eq, ByteArray.toList_eq]; decide +kernel
        have q17 : (S.toList == ({ data := #[109, 97, 114, 107] } : ByteArray).toList) = false := by rw [hS, ByteArray.toList_eq, ByteArray.toList_eq]; decide +kernel
        have q18 : (S.toList == ({ data := #[115, 116, 111, 112] } : ByteArray).toList) = false := by rw [hS, ByteArray.toList_eq, ByteArray.toList_eq]; decide +kernel
        have q19 : (S.toList == ({ data := #[115, 117, 109] } : ByteArray).toList) = false := by rw [hS, ByteArray.toList_eq, ByteArray.toList_eq]; decide +kernel
        have q20 : (S.toList == ({ data := #[101, 110, 100] } : ByteArray).toList) = false := by rw [hS, ByteArray.toList_eq, ByteArray.toList_eq]; decide +kernel
        clear hS
        go_upto_region 9 with (go_at_call 23; (with_reducible refine HNm.out.mono ?_); rintro e w2 ⟨rfl, hb2⟩; have HB2 := hid hb2; clear hb2 c0)
        have HB3 := hid (below_then' HBr.out HB2.out)
        have HTa := hid (HTo.out a w2 (Blk.keep HXr.out HB2.out))
        have HTb := hid (HTo.out xb w2 (Blk.keep HXr.out HB2.out))
        obtain ⟨x0, x1, x2, x3⟩ := BoxP.four (Blk.keep HXr.out HB2.out)
        obtain ⟨c0, c1, c2, c4, c5, c8, _⟩ := HLow.out _ HB3.out
        simp only [Nat.zero_add] at x0 x1 x2 x3 c0 c1 c2 c4 c5 c8
        generalize (ByteArray.mk #[111, 112, 101, 110]) = C1 at *
        generalize (ByteArray.mk #[99, 108, 111, 115, 101]) = C2 at *
        generalize (ByteArray.mk #[102, 105, 120, 101, 100]) = C3 at *
        generalize (ByteArray.mk #[118, 97, 114, 105, 110, 116]) = C4 at *
        generalize (ByteArray.mk #[116, 111, 107, 101, 110]) = C5 at *
        generalize (ByteArray.mk #[98, 108, 111, 98]) = C6 at *
        generalize (ByteArray.mk #[101, 110, 116, 101, 114]) = C7 at *
        generalize (ByteArray.mk #[108, 101, 97, 118, 101]) = C8 at *
        generalize (ByteArray.mk #[99, 111, 117, 110, 116]) = C9 at *
        generalize (ByteArray.mk #[110, 101, 120, 116]) = C10 at *
        generalize (ByteArray.mk #[106, 117, 109, 112]) = C11 at *
        generalize (ByteArray.mk #[109, 97, 110, 121]) = C12 at *
        generalize (ByteArray.mk #[115, 119, 105, 116, 99, 104]) = C13 at *
        generalize (ByteArray.mk #[99, 104, 111, 105, 99, 101]) = C14 at *
        generalize (ByteArray.mk #[99, 97, 108, 108]) = C15 at *
        generalize (ByteArray.mk #[114, 101, 116, 117, 114, 110]) = C16 at *
        generalize (ByteArray.mk #[109, 97, 114, 107]) = C17 at *
        generalize (ByteArray.mk #[115, 116, 111, 112]) = C18 at *
        generalize (ByteArray.mk #[115, 117, 109]) = C19 at *
        generalize (ByteArray.mk #[101, 110, 100]) = C20 at *
        go_wp2_with ((with_reducible refine HTa.out.mono ?_); rintro e w6 ⟨rfl, rfl⟩)
        show RR (.returned (.bool _)) _
        rw [HRR.out, HR.out]
        exact ⟨by simp [mayS, HNe.out], below_then' HB.out HB3.out⟩
      by_cases h11k : k = 11
      · subst h11k
        obtain ⟨S, hS⟩ : ∃ S, S = nmS 11 := ⟨_, rfl⟩
        have HNm := hid (show Calls Tryd.prog 23 #[.int .i64 11] wr (fun e w' => e = .returned (.string S) ∧ Below wr.heap.size wr w') from by rw [hS]; exact Name_any 11 wr)
        have q1 : (S.toList == ({ data := #[111, 112, 101, 110] } : ByteArray).toList) = false := by rw [hS, ByteArray.toList_eq, ByteArray.toList_eq]; decide +kernel
        have q2 : (S.toList == ({ data := #[99, 108, 111, 115, 101] } : ByteArray).toList) = false := by rw [hS, ByteArray.toList_eq, ByteArray.toList_eq]; decide +kernel
        have q3 : (S.toList == ({ data := #[102, 105, 120, 101, 100] } : ByteArray).toList) = false := by rw [hS, ByteArray.toList_eq, ByteArray.toList_eq]; decide +kernel
        have q4 : (S.toList == ({ data := #[118, 97, 114, 105, 110, 116] } : ByteArray).toList) = false := by rw [hS, ByteArray.toList_eq, ByteArray.toList_eq]; decide +kernel
        have q5 : (S.toList == ({ data := #[116, 111, 107, 101, 110] } : ByteArray).toList) = false := by rw [hS, ByteArray.toList_eq, ByteArray.toList_eq]; decide +kernel
        have q6 : (S.toList == ({ data := #[98, 108, 111, 98] } : ByteArray).toList) = false := by rw [hS, ByteArray.toList_eq, ByteArray.toList_eq]; decide +kernel
        have q7 : (S.toList == ({ data := #[101, 110, 116, 101, 114] } : ByteArray).toList) = false := by rw [hS, ByteArray.toList_eq, ByteArray.toList_eq]; decide +kernel
        have q8 : (S.toList == ({ data := #[108, 101, 97, 118, 101] } : ByteArray).toList) = false := by rw [hS, ByteArray.toList_eq, ByteArray.toList_eq]; decide +kernel
        have q9 : (S.toList == ({ data := #[99, 111, 117, 110, 116] } : ByteArray).toList) = false := by rw [hS, ByteArray.toList_eq, ByteArray.toList_eq]; decide +kernel
        have q10 : (S.toList == ({ data := #[110, 101, 120, 116] } : ByteArray).toList) = false := by rw [hS, ByteArray.toList_eq, ByteArray.toList_eq]; decide +kernel
        have q11 : (S.toList == ({ data := #[106, 117, 109, 112] } : ByteArray).toList) = true := by rw [hS, ByteArray.toList_eq, ByteArray.toList_eq]; decide +kernel
        have q12 : (S.toList == ({ data := #[109, 97, 110, 121] } : ByteArray).toList) = false := by rw [hS, ByteArray.toList_eq, ByteArray.toList_eq]; decide +kernel
        have q13 : (S.toList == ({ data := #[115, 119, 105, 116, 99, 104] } : ByteArray).toList) = false := by rw [hS, ByteArray.toList_eq, ByteArray.toList_eq]; decide +kernel
        have q14 : (S.toList == ({ data := #[99, 104, 111, 105, 99, 101] } : ByteArray).toList) = false := by rw [hS, ByteArray.toList_eq, ByteArray.toList_eq]; decide +kernel
        have q15 : (S.toList == ({ data := #[99, 97, 108, 108] } : ByteArray).toList) = false := by rw [hS, ByteArray.toList_eq, ByteArray.toList_eq]; decide +kernel
        have q16 : (S.toList == ({ data := #[114, 101, 116, 117, 114, 110] } : ByteArray).toList) = false := by rw [hS, ByteArray.toList_eq, ByteArray.toList_eq]; decide +kernel
        have q17 : (S.toList == ({ data := #[109, 97, 114, 107] } : ByteArray).toList) = false := by rw [hS, ByteArray.toList_eq, ByteArray.toList_eq]; decide +kernel
        have q18 : (S.toList == ({ data := #[115, 116, 111, 112] } : ByteArray).toList) = false := by rw [hS, ByteArray.toList_eq, ByteArray.toList_eq]; decide +kernel
        have q19 : (S.toList == ({ data := #[115, 117, 109] } : ByteArray).toList) = false := by rw [hS, ByteArray.toList_eq, ByteArray.toList_eq]; decide +kernel
        have q20 : (S.toList == ({ data := #[101, 110, 100] } : ByteArray).toList) = false := by rw [hS, ByteArray.toList_eq, ByteArray.toList_eq]; decide +kernel
        clear hS
        go_upto_region 9 with (go_at_call 23; (with_reducible refine HNm.out.mono ?_); rintro e w2 ⟨rfl, hb2⟩; have HB2 := hid hb2; clear hb2 c0)
        have HB3 := hid (below_then' HBr.out HB2.out)
        have HTa := hid (HTo.out a w2 (Blk.keep HXr.out HB2.out))
        have HTb := hid (HTo.out xb w2 (Blk.keep HXr.out HB2.out))
        obtain ⟨x0, x1, x2, x3⟩ := BoxP.four (Blk.keep HXr.out HB2.out)
        obtain ⟨c0, c1, c2, c4, c5, c8, _⟩ := HLow.out _ HB3.out
        simp only [Nat.zero_add] at x0 x1 x2 x3 c0 c1 c2 c4 c5 c8
        generalize (ByteArray.mk #[111, 112, 101, 110]) = C1 at *
        generalize (ByteArray.mk #[99, 108, 111, 115, 101]) = C2 at *
        generalize (ByteArray.mk #[102, 105, 120, 101, 100]) = C3 at *
        generalize (ByteArray.mk #[118, 97, 114, 105, 110, 116]) = C4 at *
        generalize (ByteArray.mk #[116, 111, 107, 101, 110]) = C5 at *
        generalize (ByteArray.mk #[98, 108, 111, 98]) = C6 at *
        generalize (ByteArray.mk #[101, 110, 116, 101, 114]) = C7 at *
        generalize (ByteArray.mk #[108, 101, 97, 118, 101]) = C8 at *
        generalize (ByteArray.mk #[99, 111, 117, 110, 116]) = C9 at *
        generalize (ByteArray.mk #[110, 101, 120, 116]) = C10 at *
        generalize (ByteArray.mk #[106, 117, 109, 112]) = C11 at *
        generalize (ByteArray.mk #[109, 97, 110, 121]) = C12 at *
        generalize (ByteArray.mk #[115, 119, 105, 116, 99, 104]) = C13 at *
        generalize (ByteArray.mk #[99, 104, 111, 105, 99, 101]) = C14 at *
        generalize (ByteArray.mk #[99, 97, 108, 108]) = C15 at *
        generalize (ByteArray.mk #[114, 101, 116, 117, 114, 110]) = C16 at *
        generalize (ByteArray.mk #[109, 97, 114, 107]) = C17 at *
        generalize (ByteArray.mk #[115, 116, 111, 112]) = C18 at *
        generalize (ByteArray.mk #[115, 117, 109]) = C19 at *
        generalize (ByteArray.mk #[101, 110, 100]) = C20 at *
        go_wp2_with ((with_reducible refine HTa.out.mono ?_); rintro e w6 ⟨rfl, rfl⟩)
        show RR (.returned (.bool _)) _
        rw [HRR.out, HR.out]
        exact ⟨by simp [mayS, HNe.out], below_then' HB.out HB3.out⟩
      by_cases h12k : k = 12
      · subst h12k
        obtain ⟨S, hS⟩ : ∃ S, S = nmS 12 := ⟨_, rfl⟩
        have HNm := hid (show Calls Tryd.prog 23 #[.int .i64 12] wr (fun e w' => e = .returned (.string S) ∧ Below wr.heap.size wr w') from by rw [hS]; exact Name_any 12 wr)
        have q1 : (S.toList == ({ data := #[111, 112, 101, 110] } : ByteArray).toList) = false := by rw [hS, ByteArray.toList_eq, ByteArray.toList_eq]; decide +kernel
        have q2 : (S.toList == ({ data := #[99, 108, 111, 115, 101] } : ByteArray).toList) = false := by rw [hS, ByteArray.toList_eq, ByteArray.toList_eq]; decide +kernel
        have q3 : (S.toList == ({ data := #[102, 105, 120, 101, 100] } : ByteArray).toList) = false := by rw [hS, ByteArray.toList_eq, ByteArray.toList_eq]; decide +kernel
        have q4 : (S.toList == ({ data := #[118, 97, 114, 105, 110, 116] } : ByteArray).toList) = false := by rw [hS, ByteArray.toList_eq, ByteArray.toList_eq]; decide +kernel
        have q5 : (S.toList == ({ data := #[116, 111, 107, 101, 110] } : ByteArray).toList) = false := by rw [hS, ByteArray.toList_eq, ByteArray.toList_eq]; decide +kernel
        have q6 : (S.toList == ({ data := #[98, 108, 111, 98] } : ByteArray).toList) = false := by rw [hS, ByteArray.toList_eq, ByteArray.toList_eq]; decide +kernel
        have q7 : (S.toList == ({ data := #[101, 110, 116, 101, 114] } : ByteArray).toList) = false := by rw [hS, ByteArray.toList_eq, ByteArray.toList_eq]; decide +kernel
        have q8 : (S.toList == ({ data := #[108, 101, 97, 118, 101] } : ByteArray).toList) = false := by rw [hS, ByteArray.toList_eq, ByteArray.toList_eq]; decide +kernel
        have q9 : (S.toList == ({ data := #[99, 111, 117, 110, 116] } : ByteArray).toList) = false := by rw [hS, ByteArray.toList_eq, ByteArray.toList_eq]; decide +kernel
        have q10 : (S.toList == ({ data := #[110, 101, 120, 116] } : ByteArray).toList) = false := by rw [hS, ByteArray.toList_eq, ByteArray.toList_eq]; decide +kernel
        have q11 : (S.toList == ({ data := #[106, 117, 109, 112] } : ByteArray).toList) = false := by rw [hS, ByteArray.toList_eq, ByteArray.toList_eq]; decide +kernel
        have q12 : (S.toList == ({ data := #[109, 97, 110, 121] } : ByteArray).toList) = true := by rw [hS, ByteArray.toList_eq, ByteArray.toList_eq]; decide +kernel
        have q13 : (S.toList == ({ data := #[115, 119, 105, 116, 99, 104] } : ByteArray).toList) = false := by rw [hS, ByteArray.toList_eq, ByteArray.toList_eq]; decide +kernel
        have q14 : (S.toList == ({ data := #[99, 104, 111, 105, 99, 101] } : ByteArray).toList) = false := by rw [hS, ByteArray.toList_eq, ByteArray.toList_eq]; decide +kernel
        have q15 : (S.toList == ({ data := #[99, 97, 108, 108] } : ByteArray).toList) = false := by rw [hS, ByteArray.toList_eq, ByteArray.toList_eq]; decide +kernel
        have q16 : (S.toList == ({ data := #[114, 101, 116, 117, 114, 110] } : ByteArray).toList) = false := by rw [hS, ByteArray.toList_eq, ByteArray.toList_eq]; decide +kernel
        have q17 : (S.toList == ({ data := #[109, 97, 114, 107] } : ByteArray).toList) = false := by rw [hS, ByteArray.toList_eq, ByteArray.toList_eq]; decide +kernel
        have q18 : (S.toList == ({ data := #[115, 116, 111, 112] } : ByteArray).toList) = false := by rw [hS, ByteArray.toList_eq, ByteArray.toList_eq]; decide +kernel
        have q19 : (S.toList == ({ data := #[115, 117, 109] } : ByteArray).toList) = false := by rw [hS, ByteArray.toList_eq, ByteArray.toList_eq]; decide +kernel
        have q20 : (S.toList == ({ data := #[101, 110, 100] } : ByteArray).toList) = false := by rw [hS, ByteArray.toList_eq, ByteArray.toList_eq]; decide +kernel
        clear hS
        go_upto_region 9 with (go_at_call 23; (with_reducible refine HNm.out.mono ?_); rintro e w2 ⟨rfl, hb2⟩; have HB2 := hid hb2; clear hb2 c0)
        have HB3 := hid (below_then' HBr.out HB2.out)
        have HTa := hid (HTo.out a w2 (Blk.keep HXr.out HB2.out))
        have HTb := hid (HTo.out xb w2 (Blk.keep HXr.out HB2.out))
        obtain ⟨x0, x1, x2, x3⟩ := BoxP.four (Blk.keep HXr.out HB2.out)
        obtain ⟨c0, c1, c2, c4, c5, c8, _⟩ := HLow.out _ HB3.out
        simp only [Nat.zero_add] at x0 x1 x2 x3 c0 c1 c2 c4 c5 c8
        generalize (ByteArray.mk #[111, 112, 101, 110]) = C1 at *
        generalize (ByteArray.mk #[99, 108, 111, 115, 101]) = C2 at *
        generalize (ByteArray.mk #[102, 105, 120, 101, 100]) = C3 at *
        generalize (ByteArray.mk #[118, 97, 114, 105, 110, 116]) = C4 at *
        generalize (ByteArray.mk #[116, 111, 107, 101, 110]) = C5 at *
        generalize (ByteArray.mk #[98, 108, 111, 98]) = C6 at *
        generalize (ByteArray.mk #[101, 110, 116, 101, 114]) = C7 at *
        generalize (ByteArray.mk #[108, 101, 97, 118, 101]) = C8 at *
        generalize (ByteArray.mk #[99, 111, 117, 110, 116]) = C9 at *
        generalize (ByteArray.mk #[110, 101, 120, 116]) = C10 at *
        generalize (ByteArray.mk #[106, 117, 109, 112]) = C11 at *
        generalize (ByteArray.mk #[109, 97, 110, 121]) = C12 at *
        generalize (ByteArray.mk #[115, 119, 105, 116, 99, 104]) = C13 at *
        generalize (ByteArray.mk #[99, 104, 111, 105, 99, 101]) = C14 at *
        generalize (ByteArray.mk #[99, 97, 108, 108]) = C15 at *
        generalize (ByteArray.mk #[114, 101, 116, 117, 114, 110]) = C16 at *
        generalize (ByteArray.mk #[109, 97, 114, 107]) = C17 at *
        generalize (ByteArray.mk #[115, 116, 111, 112]) = C18 at *
        generalize (ByteArray.mk #[115, 117, 109]) = C19 at *
        generalize (ByteArray.mk #[101, 110, 100]) = C20 at *
        go_wp2_with ((with_reducible refine HTa.out.mono ?_); rintro e w6 ⟨rfl, rfl⟩)
        show RR (.returned (.bool _)) _
        rw [HRR.out, HR.out]
        exact ⟨by simp [mayS, HNe.out], below_then' HB.out HB3.out⟩
      by_cases h15k : k = 15
      · subst h15k
        obtain ⟨S, hS⟩ : ∃ S, S = nmS 15 := ⟨_, rfl⟩
        have HNm := hid (show Calls Tryd.prog 23 #[.int .i64 15] wr (fun e w' => e = .returned (.string S) ∧ Below wr.heap.size wr w') from by rw [hS]; exact Name_any 15 wr)
        have q1 : (S.toList == ({ data := #[111, 112, 101, 110] } : ByteArray).toList) = false := by rw [hS, ByteArray.toList_eq, ByteArray.toList_eq]; decide +kernel
        have q2 : (S.toList == ({ data := #[99, 108, 111, 115, 101] } : ByteArray).toList) = false := by rw [hS, ByteArray.toList_eq, ByteArray.toList_eq]; decide +kernel
        have q3 : (S.toList == ({ data := #[102, 105, 120, 101, 100] } : ByteArray).toList) = false := by rw [hS, ByteArray.toList_eq, ByteArray.toList_eq]; decide +kernel
        have q4 : (S.toList == ({ data := #[118, 97, 114, 105, 110, 116] } : ByteArray).toList) = false := by rw [hS, ByteArray.toList_eq, ByteArray.toList_eq]; decide +kernel
        have q5 : (S.toList == ({ data := #[116, 111, 107, 101, 110] } : ByteArray).toList) = false := by rw [hS, ByteArray.toList_eq, ByteArray.toList_eq]; decide +kernel
        have q6 : (S.toList == ({ data := #[98, 108, 111, 98] } : ByteArray).toList) = false := by rw [hS, ByteArray.toList_eq, ByteArray.toList_eq]; decide +kernel
        have q7 : (S.toList == ({ data := #[101, 110, 116, 101, 114] } : ByteArray).toList) = false := by rw [hS, ByteArray.toList_eq, ByteArray.toList_eq]; decide +kernel
        have q8 : (S.toList == ({ data := #[108, 101, 97, 118, 101] } : ByteArray).toList) = false := by rw [hS, ByteArray.toList_eq, ByteArray.toList_eq]; decide +kernel
        have q9 : (S.toList == ({ data := #[99, 111, 117, 110, 116] } : ByteArray).toList) = false := by rw [hS, ByteArray.toList_eq, ByteArray.toList_eq]; decide +kernel
        have q10 : (S.toList == ({ data := #[110, 101, 120, 116] } : ByteArray).toList) = false := by rw [hS, ByteArray.toList_eq, ByteArray.toList_eq]; decide +kernel
        have q11 : (S.toList == ({ data := #[106, 117, 109, 112] } : ByteArray).toList) = false := by rw [hS, ByteArray.toList_eq, ByteArray.toList_eq]; decide +kernel
        have q12 : (S.toList == ({ data := #[109, 97, 110, 121] } : ByteArray).toList) = false := by rw [hS, ByteArray.toList_eq, ByteArray.toList_eq]; decide +kernel
        have q13 : (S.toList == ({ data := #[115, 119, 105, 116, 99, 104] } : ByteArray).toList) = false := by rw [hS, ByteArray.toList_eq, ByteArray.toList_eq]; decide +kernel
        have q14 : (S.toList == ({ data := #[99, 104, 111, 105, 99, 101] } : ByteArray).toList) = false := by rw [hS, ByteArray.toList_eq, ByteArray.toList_eq]; decide +kernel
        have q15 : (S.toList == ({ data := #[99, 97, 108, 108] } : ByteArray).toList) = true := by rw [hS, ByteArray.toList_eq, ByteArray.toList_eq]; decide +kernel
        have q16 : (S.toList == ({ data := #[114, 101, 116, 117, 114, 110] } : ByteArray).toList) = false := by rw [hS, ByteArray.toList_eq, ByteArray.toList_eq]; decide +kernel
        have q17 : (S.toList == ({ data := #[109, 97, 114, 107] } : ByteArray).toList) = false := by rw [hS, ByteArray.toList_eq, ByteArray.toList_eq]; decide +kernel
        have q18 : (S.toList == ({ data := #[115, 116, 111, 112] } : ByteArray).toList) = false := by rw [hS, ByteArray.toList_eq, ByteArray.toList_eq]; decide +kernel
        have q19 : (S.toList == ({ data := #[115, 117, 109] } : ByteArray).toList) = false := by rw [hS, ByteArray.toList_eq, ByteArray.toList_eq]; decide +kernel
        have q20 : (S.toList == ({ data := #[101, 110, 100] } : ByteArray).toList) = false := by rw [hS, ByteArray.toList_eq, ByteArray.toList_eq]; decide +kernel
        clear hS
        go_upto_region 9 with (go_at_call 23; (with_reducible refine HNm.out.mono ?_); rintro e w2 ⟨rfl, hb2⟩; have HB2 := hid hb2; clear hb2 c0)
        have HB3 := hid (below_then' HBr.out HB2.out)
        have HTa := hid (HTo.out a w2 (Blk.keep HXr.out HB2.out))
        have HTb := hid (HTo.out xb w2 (Blk.keep HXr.out HB2.out))
        obtain ⟨x0, x1, x2, x3⟩ := BoxP.four (Blk.keep HXr.out HB2.out)
        obtain ⟨c0, c1, c2, c4, c5, c8, _⟩ := HLow.out _ HB3.out
        simp only [Nat.zero_add] at x0 x1 x2 x3 c0 c1 c2 c4 c5 c8
        generalize (ByteArray.mk #[111, 112, 101, 110]) = C1 at *
        generalize (ByteArray.mk #[99, 108, 111, 115, 101]) = C2 at *
        generalize (ByteArray.mk #[102, 105, 120, 101, 100]) = C3 at *
        generalize (ByteArray.mk #[118, 97, 114, 105, 110, 116]) = C4 at *
        generalize (ByteArray.mk #[116, 111, 107, 101, 110]) = C5 at *
        generalize (ByteArray.mk #[98, 108, 111, 98]) = C6 at *
        generalize (ByteArray.mk #[101, 110, 116, 101, 114]) = C7 at *
        generalize (ByteArray.mk #[108, 101, 97, 118, 101]) = C8 at *
        generalize (ByteArray.mk #[99, 111, 117, 110, 116]) = C9 at *
        generalize (ByteArray.mk #[110, 101, 120, 116]) = C10 at *
        generalize (ByteArray.mk #[106, 117, 109, 112]) = C11 at *
        generalize (ByteArray.mk #[109, 97, 110, 121]) = C12 at *
        generalize (ByteArray.mk #[115, 119, 105, 116, 99, 104]) = C13 at *
        generalize (ByteArray.mk #[99, 104, 111, 105, 99, 101]) = C14 at *
        generalize (ByteArray.mk #[99, 97, 108, 108]) = C15 at *
        generalize (ByteArray.mk #[114, 101, 116, 117, 114, 110]) = C16 at *
        generalize (ByteArray.mk #[109, 97, 114, 107]) = C17 at *
        generalize (ByteArray.mk #[115, 116, 111, 112]) = C18 at *
        generalize (ByteArray.mk #[115, 117, 109]) = C19 at *
        generalize (ByteArray.mk #[101, 110, 100]) = C20 at *
        go_wp2_with ((with_reducible refine HTa.out.mono ?_); rintro e w6 ⟨rfl, rfl⟩)
        show RR (.returned (.bool _)) _
        rw [HRR.out, HR.out]
        exact ⟨by simp [mayS, HNe.out], below_then' HB.out HB3.out⟩
      by_cases h17k : k = 17
      · subst h17k
        obtain ⟨S, hS⟩ : ∃ S, S = nmS 17 := ⟨_, rfl⟩
        have HNm := hid (show Calls Tryd.prog 23 #[.int .i64 17] wr (fun e w' => e = .returned (.string S) ∧ Below wr.heap.size wr w') from by rw [hS]; exact Name_any 17 wr)
        have q1 : (S.toList == ({ data := #[111, 112, 101, 110] } : ByteArray).toList) = false := by rw [hS, ByteArray.toList_eq, ByteArray.toList_eq]; decide +kernel
        have q2 : (S.toList == ({ data := #[99, 108, 111, 115, 101] } : ByteArray).toList) = false := by rw [hS, ByteArray.toList_eq, ByteArray.toList_eq]; decide +kernel
        have q3 : (S.toList == ({ data := #[102, 105, 120, 101, 100] } : ByteArray).toList) = false := by rw [hS, ByteArray.toList_eq, ByteArray.toList_eq]; decide +kernel
        have q4 : (S.toList == ({ data := #[118, 97, 114, 105, 110, 116] } : ByteArray).toList) = false := by rw [hS, ByteArray.toList_eq, ByteArray.toList_eq]; decide +kernel
        have q5 : (S.toList == ({ data := #[116, 111, 107, 101, 110] } : ByteArray).toList) = false := by rw [hS, ByteArray.toList_eq, ByteArray.toList_eq]; decide +kernel
        have q6 : (S.toList == ({ data := #[98, 108, 111, 98] } : ByteArray).toList) = false := by rw [hS, ByteArray.toList_eq, ByteArray.toList_eq]; decide +kernel
        have q7 : (S.toList == ({ data := #[101, 110, 116, 101, 114] } : ByteArray).toList) = false := by rw [hS, ByteArray.toList_eq, ByteArray.toList_eq]; decide +kernel
        have q8 : (S.toList == ({ data := #[108, 101, 97, 118, 101] } : ByteArray).toList) = false := by rw [hS, ByteArray.toList_eq, ByteArray.toList_eq]; decide +kernel
        have q9 : (S.toList == ({ data := #[99, 111, 117, 110, 116] } : ByteArray).toList) = false := by rw [hS, ByteArray.toList_eq, ByteArray.toList_eq]; decide +kernel
        have q10 : (S.toList == ({ data := #[110, 101, 120, 116] } : ByteArray).toList) = false := by rw [hS, ByteArray.toList_eq, ByteArray.toList_eq]; decide +kernel
        have q11 : (S.toList == ({ data := #[106, 117, 109, 112] } : ByteArray).toList) = false := by rw [hS, ByteArray.toList_eq, ByteArray.toList_eq]; decide +kernel
        have q12 : (S.toList == ({ data := #[109, 97, 110, 121] } : ByteArray).toList) = false := by rw [hS, ByteArray.toList_eq, ByteArray.toList_eq]; decide +kernel
        have q13 : (S.toList == ({ data := #[115, 119, 105, 116, 99, 104] } : ByteArray).toList) = false := by rw [hS, ByteArray.toList_eq, ByteArray.toList_eq]; decide +kernel
        have q14 : (S.toList == ({ data := #[99, 104, 111, 105, 99, 101] } : ByteArray).toList) = false := by rw [hS, ByteArray.toList_eq, ByteArray.toList_eq]; decide +kernel
        have q15 : (S.toList == ({ data := #[99, 97, 108, 108] } : ByteArray).toList) = false := by rw [hS, ByteArray.toList_eq, ByteArray.toList_eq]; decide +kernel
        have q16 : (S.toList == ({ data := #[114, 101, 116, 117, 114, 110] } : ByteArray).toList) = false := by rw [hS, ByteArray.toList_eq, ByteArray.toList_eq]; decide +kernel
        have q17 : (S.toList == ({ data := #[109, 97, 114, 107] } : ByteArray).toList) = true := by rw [hS, ByteArray.toList_eq, ByteArray.toList_eq]; decide +kernel
        have q18 : (S.toList == ({ data := #[115, 116, 111, 112] } : ByteArray).toList) = false := by rw [hS, ByteArray.toList_eq, ByteArray.toList_eq]; decide +kernel
        have q19 : (S.toList == ({ data := #[115, 117, 109] } : ByteArray).toList) = false := by rw [hS, ByteArray.toList_eq, ByteArray.toList_eq]; decide +kernel
        have q20 : (S.toList == ({ data := #[101, 110, 100] } : ByteArray).toList) = false := by rw [hS, ByteArray.toList_eq, ByteArray.toList_eq]; decide +kernel
        clear hS
        go_upto_region 9 with (go_at_call 23; (with_reducible refine HNm.out.mono ?_); rintro e w2 ⟨rfl, hb2⟩; have HB2 := hid hb2; clear hb2 c0)
        have HB3 := hid (below_then' HBr.out HB2.out)
        have HTa := hid (HTo.out a w2 (Blk.keep HXr.out HB2.out))
        have HTb := hid (HTo.out xb w2 (Blk.keep HXr.out HB2.out))
        obtain ⟨x0, x1, x2, x3⟩ := BoxP.four (Blk.keep HXr.out HB2.out)
        obtain ⟨c0, c1, c2, c4, c5, c8, _⟩ := HLow.out _ HB3.out
        simp only [Nat.zero_add] at x0 x1 x2 x3 c0 c1 c2 c4 c5 c8
        generalize (ByteArray.mk #[111, 112, 101, 110]) = C1 at *
        generalize (ByteArray.mk #[99, 108, 111, 115, 101]) = C2 at *
        generalize (ByteArray.mk #[102, 105, 120, 101, 100]) = C3 at *
        generalize (ByteArray.mk #[118, 97, 114, 105, 110, 116]) = C4 at *
        generalize (ByteArray.mk #[116, 111, 107, 101, 110]) = C5 at *
        generalize (ByteArray.mk #[98, 108, 111, 98]) = C6 at *
        generalize (ByteArray.mk #[101, 110, 116, 101, 114]) = C7 at *
        generalize (ByteArray.mk #[108, 101, 97, 118, 101]) = C8 at *
        generalize (ByteArray.mk #[99, 111, 117, 110, 116]) = C9 at *
        generalize (ByteArray.mk #[110, 101, 120, 116]) = C10 at *
        generalize (ByteArray.mk #[106, 117, 109, 112]) = C11 at *
        generalize (ByteArray.mk #[109, 97, 110, 121]) = C12 at *
        generalize (ByteArray.mk #[115, 119, 105, 116, 99, 104]) = C13 at *
        generalize (ByteArray.mk #[99, 104, 111, 105, 99, 101]) = C14 at *
        generalize (ByteArray.mk #[99, 97, 108, 108]) = C15 at *
        generalize (ByteArray.mk #[114, 101, 116, 117, 114, 110]) = C16 at *
        generalize (ByteArray.mk #[109, 97, 114, 107]) = C17 at *
        generalize (ByteArray.mk #[115, 116, 111, 112]) = C18 at *
        generalize (ByteArray.mk #[115, 117, 109]) = C19 at *
        generalize (ByteArray.mk #[101, 110, 100]) = C20 at *
        go_wp2_with fail
        all_goals
          show RR (.returned (.bool _)) _
          rw [HRR.out, HR.out]
          exact ⟨by (apply ret_bool; rw [Bool.eq_iff_iff]; first | (simp [mayS, numS, amg]; done) | (simp [mayS, numS, amg]; omega)), below_then' HB.out HB3.out⟩
      by_cases h18k : k = 18
      · subst h18k
        obtain ⟨S, hS⟩ : ∃ S, S = nmS 18 := ⟨_, rfl⟩
        have HNm := hid (show Calls Tryd.prog 23 #[.int .i64 18] wr (fun e w' => e = .returned (.string S) ∧ Below wr.heap.size wr w') from by rw [hS]; exact Name_any 18 wr)
        have q1 : (S.toList == ({ data := #[111, 112, 101, 110] } : ByteArray).toList) = false := by rw [hS, ByteArray.toList_eq, ByteArray.toList_eq]; decide +kernel
        have q2 : (S.toList == ({ data := #[99, 108, 111, 115, 101] } : ByteArray).toList) = false := by rw [hS, ByteArray.toList_eq, ByteArray.toList_eq]; decide +kernel
        have q3 : (S.toList == ({ data := #[102, 105, 120, 101, 100] } : ByteArray).toList) = false := by rw [hS, ByteArray.toList_eq, ByteArray.toList_eq]; decide +kernel
        have q4 : (S.toList == ({ data := #[118, 97, 114, 105, 110, 116] } : ByteArray).toList) = false := by rw [hS, ByteArray.toList_eq, ByteArray.toList_eq]; decide +kernel
        have q5 : (S.toList == ({ data := #[116, 111, 107, 101, 110] } : ByteArray).toList) = false := by rw [hS, ByteArray.toList_eq, ByteArray.toList_eq]; decide +kernel
        have q6 : (S.toList == ({ data := #[98, 108, 111, 98] } : ByteArray).toList) = false := by rw [hS, ByteArray.toList_eq, ByteArray.toList_eq]; decide +kernel
        have q7 : (S.toList == ({ data := #[101, 110, 116, 101, 114] } : ByteArray).toList) = false := by rw [hS, ByteArray.toList_eq, ByteArray.toList_eq]; decide +kernel
        have q8 : (S.toList == ({ data := #[108, 101, 97, 118, 101] } : ByteArray).toList) = false := by rw [hS, ByteArray.toList_eq, ByteArray.toList_eq]; decide +kernel
        have q9 : (S.toList == ({ data := #[99, 111, 117, 110, 116] } : ByteArray).toList) = false := by rw [hS, ByteArray.toList_eq, ByteArray.toList_eq]; decide +kernel
        have q10 : (S.toList == ({ data := #[110, 101, 120, 116] } : ByteArray).toList) = false := by rw [hS, ByteArray.toList_eq, ByteArray.toList_eq]; decide +kernel
        have q11 : (S.toList == ({ data := #[106, 117, 109, 112] } : ByteArray).toList) = false := by rw [hS, ByteArray.toList_eq, ByteArray.toList_eq]; decide +kernel
        have q12 : (S.toList == ({ data := #[109, 97, 110, 121] } : ByteArray).toList) = false := by rw [hS, ByteArray.toList_eq, ByteArray.toList_eq]; decide +kernel
        have q13 : (S.toList == ({ data := #[115, 119, 105, 116, 99, 104] } : ByteArray).toList) = false := by rw [hS, ByteArray.toList_eq, ByteArray.toList_eq]; decide +kernel
        have q14 : (S.toList == ({ data := #[99, 104, 111, 105, 99, 101] } : ByteArray).toList) = false := by rw [hS, ByteArray.toList_eq, ByteArray.toList_eq]; decide +kernel
        have q15 : (S.toList == ({ data := #[99, 97, 108, 108] } : ByteArray).toList) = false := by rw [hS, ByteArray.toList_eq, ByteArray.toList_eq]; decide +kernel
        have q16 : (S.toList == ({ data := #[114, 101, 116, 117, 114, 110] } : ByteArray).toList) = false := by rw [hS, ByteArray.toList_eq, ByteArray.toList_eq]; decide +kernel
        have q17 : (S.toList == ({ data := #[109, 97, 114, 107] } : ByteArray).toList) = false := by rw [hS, ByteArray.toList_eq, ByteArray.toList_eq]; decide +kernel
        have q18 : (S.toList == ({ data := #[115, 116, 111, 112] } : ByteArray).toList) = true := by rw [hS, ByteArray.toList_eq, ByteArray.toList_eq]; decide +kernel
        have q19 : (S.toList == ({ data := #[115, 117, 109] } : ByteArray).toList) = false := by rw [hS, ByteArray.toList_eq, ByteArray.toList_eq]; decide +kernel
        have q20 : (S.toList == ({ data := #[101, 110, 100] } : ByteArray).toList) = false := by rw [hS, ByteArray.toList_eq, ByteArray.toList_eq]; decide +kernel
        clear hS
        go_upto_region 9 with (go_at_call 23; (with_reducible refine HNm.out.mono ?_); rintro e w2 ⟨rfl, hb2⟩; have HB2 := hid hb2; clear hb2 c0)
        have HB3 := hid (below_then' HBr.out HB2.out)
        have HTa := hid (HTo.out a w2 (Blk.keep HXr.out HB2.out))
        have HTb := hid (HTo.out xb w2 (Blk.keep HXr.out HB2.out))
        obtain ⟨x0, x1, x2, x3⟩ := BoxP.four (Blk.keep HXr.out HB2.out)
        obtain ⟨c0, c1, c2, c4, c5, c8, _⟩ := HLow.out _ HB3.out
        simp only [Nat.zero_add] at x0 x1 x2 x3 c0 c1 c2 c4 c5 c8
        generalize (ByteArray.mk #[111, 112, 101, 110]) = C1 at *
        generalize (ByteArray.mk #[99, 108, 111, 115, 101]) = C2 at *
        generalize (ByteArray.mk #[102, 105, 120, 101, 100]) = C3 at *
        generalize (ByteArray.mk #[118, 97, 114, 105, 110, 116]) = C4 at *
        generalize (ByteArray.mk #[116, 111, 107, 101, 110]) = C5 at *
        generalize (ByteArray.mk #[98, 108, 111, 98]) = C6 at *
        generalize (ByteArray.mk #[101, 110, 116, 101, 114]) = C7 at *
        generalize (ByteArray.mk #[108, 101, 97, 118, 101]) = C8 at *
        generalize (ByteArray.mk #[99, 111, 117, 110, 116]) = C9 at *
        generalize (ByteArray.mk #[110, 101, 120, 116]) = C10 at *
        generalize (ByteArray.mk #[106, 117, 109, 112]) = C11 at *
        generalize (ByteArray.mk #[109, 97, 110, 121]) = C12 at *
        generalize (ByteArray.mk #[115, 119, 105, 116, 99, 104]) = C13 at *
        generalize (ByteArray.mk #[99, 104, 111, 105, 99, 101]) = C14 at *
        generalize (ByteArray.mk #[99, 97, 108, 108]) = C15 at *
        generalize (ByteArray.mk #[114, 101, 116, 117, 114, 110]) = C16 at *
        generalize (ByteArray.mk #[109, 97, 114, 107]) = C17 at *
        generalize (ByteArray.mk #[115, 116, 111, 112]) = C18 at *
        generalize (ByteArray.mk #[115, 117, 109]) = C19 at *
        generalize (ByteArray.mk #[101, 110, 100]) = C20 at *
        go_wp2_with fail
        all_goals
          show RR (.returned (.bool _)) _
          rw [HRR.out, HR.out]
          exact ⟨by (apply ret_bool; rw [Bool.eq_iff_iff]; first | (simp [mayS, numS, amg]; done) | (simp [mayS, numS, amg]; omega)), below_then' HB.out HB3.out⟩
      by_cases h19k : k = 19
      · subst h19k
        obtain ⟨S, hS⟩ : ∃ S, S = nmS 19 := ⟨_, rfl⟩
        have HNm := hid (show Calls Tryd.prog 23 #[.int .i64 19] wr (fun e w' => e = .returned (.string S) ∧ Below wr.heap.size wr w') from by rw [hS]; exact Name_any 19 wr)
        have q1 : (S.toList == ({ data := #[111, 112, 101, 110] } : ByteArray).toList) = false := by rw [hS, ByteArray.toList_eq, ByteArray.toList_eq]; decide +kernel
        have q2 : (S.toList == ({ data := #[99, 108, 111, 115, 101] } : ByteArray).toList) = false := by rw [hS, ByteArray.toList_eq, ByteArray.toList_eq]; decide +kernel
        have q3 : (S.toList == ({ data := #[102, 105, 120, 101, 100] } : ByteArray).toList) = false := by rw [hS, ByteArray.toList_eq, ByteArray.toList_eq]; decide +kernel
        have q4 : (S.toList == ({ data := #[118, 97, 114, 105, 110, 116] } : ByteArray).toList) = false := by rw [hS, ByteArray.toList_eq, ByteArray.toList_eq]; decide +kernel
        have q5 : (S.toList == ({ data := #[116, 111, 107, 101, 110] } : ByteArray).toList) = false := by rw [hS, ByteArray.toList_eq, ByteArray.toList_eq]; decide +kernel
        have q6 : (S.toList == ({ data := #[98, 108, 111, 98] } : ByteArray).toList) = false := by rw [hS, ByteArray.toList_eq, ByteArray.toList_eq]; decide +kernel
        have q7 : (S.toList == ({ data := #[101, 110, 116, 101, 114] } : ByteArray).toList) = false := by rw [hS, ByteArray.toList_eq, ByteArray.toList_eq]; decide +kernel
        have q8 : (S.toList == ({ data := #[108, 101, 97, 118, 101] } : ByteArray).toList) = false := by rw [hS, ByteArray.toList_eq, ByteArray.toList_eq]; decide +kernel
        have q9 : (S.toList == ({ data := #[99, 111, 117, 110, 116] } : ByteArray).toList) = false := by rw [hS, ByteArray.toList_eq, ByteArray.toList_eq]; decide +kernel
        have q10 : (S.toList == ({ data := #[110, 101, 120, 116] } : ByteArray).toList) = false := by rw [hS, ByteArray.toList_eq, ByteArray.toList_eq]; decide +kernel
        have q11 : (S.toList == ({ data := #[106, 117, 109, 112] } : ByteArray).toList) = false := by rw [hS, ByteArray.toList_eq, ByteArray.toList_eq]; decide +kernel
        have q12 : (S.toList == ({ data := #[109, 97, 110, 121] } : ByteArray).toList) = false := by rw [hS, ByteArray.toList_eq, ByteArray.toList_eq]; decide +kernel
        have q13 : (S.toList == ({ data := #[115, 119, 105, 116, 99, 104] } : ByteArray).toList) = false := by rw [hS, ByteArray.toList_eq, ByteArray.toList_eq]; decide +kernel
        have q14 : (S.toList == ({ data := #[99, 104, 111, 105, 99, 101] } : ByteArray).toList) = false := by rw [hS, ByteArray.toList_eq, ByteArray.toList_eq]; decide +kernel
        have q15 : (S.toList == ({ data := #[99, 97, 108, 108] } : ByteArray).toList) = false := by rw [hS, ByteArray.toList_eq, ByteArray.toList_eq]; decide +kernel
        have q16 : (S.toList == ({ data := #[114, 101, 116, 117, 114, 110] } : ByteArray).toList) = false := by rw [hS, ByteArray.toList_eq, ByteArray.toList_eq]; decide +kernel
        have q17 : (S.toList == ({ data := #[109, 97, 114, 107] } : ByteArray).toList) = false := by rw [hS, ByteArray.toList_eq, ByteArray.toList_eq]; decide +kernel
        have q18 : (S.toList == ({ data := #[115, 116, 111, 112] } : ByteArray).toList) = false := by rw [hS, ByteArray.toList_eq, ByteArray.toList_eq]; decide +kernel
        have q19 : (S.toList == ({ data := #[115, 117, 109] } : ByteArray).toList) = true := by rw [hS, ByteArray.toList_eq, ByteArray.toList_eq]; decide +kernel
        have q20 : (S.toList == ({ data := #[101, 110, 100] } : ByteArray).toList) = false := by rw [hS, ByteArray.toList_eq, ByteArray.toList_eq]; decide +kernel
        clear hS
        go_upto_region 9 with (go_at_call 23; (with_reducible refine HNm.out.mono ?_); rintro e w2 ⟨rfl, hb2⟩; have HB2 := hid hb2; clear hb2 c0)
        have HB3 := hid (below_then' HBr.out HB2.out)
        have HTa := hid (HTo.out a w2 (Blk.keep HXr.out HB2.out))
        have HTb := hid (HTo.out xb w2 (Blk.keep HXr.out HB2.out))
        obtain ⟨x0, x1, x2, x3⟩ := BoxP.four (Blk.keep HXr.out HB2.out)
        obtain ⟨c0, c1, c2, c4, c5, c8, _⟩ := HLow.out _ HB3.out
        simp only [Nat.zero_add] at x0 x1 x2 x3 c0 c1 c2 c4 c5 c8
        generalize (ByteArray.mk #[111, 112, 101, 110]) = C1 at *
        generalize (ByteArray.mk #[99, 108, 111, 115, 101]) = C2 at *
        generalize (ByteArray.mk #[102, 105, 120, 101, 100]) = C3 at *
        generalize (ByteArray.mk #[118, 97, 114, 105, 110, 116]) = C4 at *
        generalize (ByteArray.mk #[116, 111, 107, 101, 110]) = C5 at *
        generalize (ByteArray.mk #[98, 108, 111, 98]) = C6 at *
        generalize (ByteArray.mk #[101, 110, 116, 101, 114]) = C7 at *
        generalize (ByteArray.mk #[108, 101, 97, 118, 101]) = C8 at *
        generalize (ByteArray.mk #[99, 111, 117, 110, 116]) = C9 at *
        generalize (ByteArray.mk #[110, 101, 120, 116]) = C10 at *
        generalize (ByteArray.mk #[106, 117, 109, 112]) = C11 at *
        generalize (ByteArray.mk #[109, 97, 110, 121]) = C12 at *
        generalize (ByteArray.mk #[115, 119, 105, 116, 99, 104]) = C13 at *
        generalize (ByteArray.mk #[99, 104, 111, 105, 99, 101]) = C14 at *
        generalize (ByteArray.mk #[99, 97, 108, 108]) = C15 at *
        generalize (ByteArray.mk #[114, 101, 116, 117, 114, 110]) = C16 at *
        generalize (ByteArray.mk #[109, 97, 114, 107]) = C17 at *
        generalize (ByteArray.mk #[115, 116, 111, 112]) = C18 at *
        generalize (ByteArray.mk #[115, 117, 109]) = C19 at *
        generalize (ByteArray.mk #[101, 110, 100]) = C20 at *
        go_wp2_with fail
        all_goals
          show RR (.returned (.bool _)) _
          rw [HRR.out, HR.out]
          exact ⟨by (apply ret_bool; rw [Bool.eq_iff_iff]; first | (simp [mayS, numS, amg]; done) | (simp [mayS, numS, amg]; omega)), below_then' HB.out HB3.out⟩
      by_cases h13k : k = 13
      · subst h13k
        obtain ⟨S, hS⟩ : ∃ S, S = nmS 13 := ⟨_, rfl⟩
        have HNm := hid (show Calls Tryd.prog 23 #[.int .i64 13] wr (fun e w' => e = .returned (.string S) ∧ Below wr.heap.size wr w') from by rw [hS]; exact Name_any 13 wr)
        have q1 : (S.toList == ({ data := #[111, 112, 101, 110] } : ByteArray).toList) = false := by rw [hS, ByteArray.toList_eq, ByteArray.toList_eq]; decide +kernel
        have q2 : (S.toList == ({ data := #[99, 108, 111, 115, 101] } : ByteArray).toList) = false := by rw [hS, ByteArray.toList_eq, ByteArray.toList_eq]; decide +kernel
        have q3 : (S.toList == ({ data := #[102, 105, 120, 101, 100] } : ByteArray).toList) = false := by rw [hS, ByteArray.toList_eq, ByteArray.toList_eq]; decide +kernel
        have q4 : (S.toList == ({ data := #[118, 97, 114, 105, 110, 116] } : ByteArray).toList) = false := by rw [hS, ByteArray.toList_eq, ByteArray.toList_eq]; decide +kernel
        have q5 : (S.toList == ({ data := #[116, 111, 107, 101, 110] } : ByteArray).toList) = false := by rw [hS, ByteArray.toList_eq, ByteArray.toList_eq]; decide +kernel
        have q6 : (S.toList == ({ data := #[98, 108, 111, 98] } : ByteArray).toList) = false := by rw [hS, ByteArray.toList_eq, ByteArray.toList_eq]; decide +kernel
        have q7 : (S.toList == ({ data := #[101, 110, 116, 101, 114] } : ByteArray).toList) = false := by rw [hS, ByteArray.toList_eq, ByteArray.toList_eq]; decide +kernel
        have q8 : (S.toList == ({ data := #[108, 101, 97, 118, 101] } : ByteArray).toList) = false := by rw [hS, ByteArray.toList_eq, ByteArray.toList_eq]; decide +kernel
        have q9 : (S.toList == ({ data := #[99, 111, 117, 110, 116] } : ByteArray).toList) = false := by rw [hS, ByteArray.toList_eq, ByteArray.toList_eq]; decide +kernel
        have q10 : (S.toList == ({ data := #[110, 101, 120, 116] } : ByteArray).toList) = false := by rw [hS, ByteArray.toList_eq, ByteArray.toList_eq]; decide +kernel
        have q11 : (S.toList == ({ data := #[106, 117, 109, 112] } : ByteArray).toList) = false := by rw [hS, ByteArray.toList_eq, ByteArray.toList_eq]; decide +kernel
        have q12 : (S.toList == ({ data := #[109, 97, 110, 121] } : ByteArray).toList) = false := by rw [hS, ByteArray.toList_eq, ByteArray.toList_eq]; decide +kernel
        have q13 : (S.toList == ({ data := #[115, 119, 105, 116, 99, 104] } : ByteArray).toList) = true := by rw [hS, ByteArray.toList_eq, ByteArray.toList_eq]; decide +kernel
        have q14 : (S.toList == ({ data := #[99, 104, 111, 105, 99, 101] } : ByteArray).toList) = false := by rw [hS, ByteArray.toList_eq, ByteArray.toList_eq]; decide +kernel
        have q15 : (S.toList == ({ data := #[99, 97, 108, 108] } : ByteArray).toList) = false := by rw [hS, ByteArray.toList_eq, ByteArray.toList_eq]; decide +kernel
        have q16 : (S.toList == ({ data := #[114, 101, 116, 117, 114, 110] } : ByteArray).toList) = false := by rw [hS, ByteArray.toList_eq, ByteArray.toList_eq]; decide +kernel
        have q17 : (S.toList == ({ data := #[109, 97, 114, 107] } : ByteArray).toList) = false := by rw [hS, ByteArray.toList_eq, ByteArray.toList_eq]; decide +kernel
        have q18 : (S.toList == ({ data := #[115, 116, 111, 112] } : ByteArray).toList) = false := by rw [hS, ByteArray.toList_eq, ByteArray.toList_eq]; decide +kernel
        have q19 : (S.toList == ({ data := #[115, 117, 109] } : ByteArray).toList) = false := by rw [hS, ByteArray.toList_eq, ByteArray.toList_eq]; decide +kernel
        have q20 : (S.toList == ({ data := #[101, 110, 100] } : ByteArray).toList) = false := by rw [hS, ByteArray.toList_eq, ByteArray.toList_eq]; decide +kernel
        clear hS
        go_upto_region 9 with (go_at_call 23; (with_reducible refine HNm.out.mono ?_); rintro e w2 ⟨rfl, hb2⟩; have HB2 := hid hb2; clear hb2 c0)
        have HB3 := hid (below_then' HBr.out HB2.out)
        have HTa := hid (HTo.out a w2 (Blk.keep HXr.out HB2.out))
        have HTb := hid (HTo.out xb w2 (Blk.keep HXr.out HB2.out))
        obtain ⟨x0, x1, x2, x3⟩ := BoxP.four (Blk.keep HXr.out HB2.out)
        obtain ⟨c0, c1, c2, c4, c5, c8, _⟩ := HLow.out _ HB3.out
        simp only [Nat.zero_add] at x0 x1 x2 x3 c0 c1 c2 c4 c5 c8
        generalize (ByteArray.mk #[111, 112, 101, 110]) = C1 at *
        generalize (ByteArray.mk #[99, 108, 111, 115, 101]) = C2 at *
        generalize (ByteArray.mk #[102, 105, 120, 101, 100]) = C3 at *
        generalize (ByteArray.mk #[118, 97, 114, 105, 110, 116]) = C4 at *
        generalize (ByteArray.mk #[116, 111, 107, 101, 110]) = C5 at *
        generalize (ByteArray.mk #[98, 108, 111, 98]) = C6 at *
        generalize (ByteArray.mk #[101, 110, 116, 101, 114]) = C7 at *
        generalize (ByteArray.mk #[108, 101, 97, 118, 101]) = C8 at *
        generalize (ByteArray.mk #[99, 111, 117, 110, 116]) = C9 at *
        generalize (ByteArray.mk #[110, 101, 120, 116]) = C10 at *
        generalize (ByteArray.mk #[106, 117, 109, 112]) = C11 at *
        generalize (ByteArray.mk #[109, 97, 110, 121]) = C12 at *
        generalize (ByteArray.mk #[115, 119, 105, 116, 99, 104]) = C13 at *
        generalize (ByteArray.mk #[99, 104, 111, 105, 99, 101]) = C14 at *
        generalize (ByteArray.mk #[99, 97, 108, 108]) = C15 at *
        generalize (ByteArray.mk #[114, 101, 116, 117, 114, 110]) = C16 at *
        generalize (ByteArray.mk #[109, 97, 114, 107]) = C17 at *
        generalize (ByteArray.mk #[115, 116, 111, 112]) = C18 at *
        generalize (ByteArray.mk #[115, 117, 109]) = C19 at *
        generalize (ByteArray.mk #[101, 110, 100]) = C20 at *
        obtain ⟨m2, hm2⟩ : ∃ m2, m2 = amg xb n := ⟨_, rfl⟩
        have HTb := HTb.out
        rw [← hm2] at HTb
        have HTb := hid HTb
        have HM2 := hid hm2
        clear hm2
        cases cur
        · cases m2
          · go_wp2_with ((with_reducible refine HTb.out.mono ?_); rintro e w6 ⟨rfl, rfl⟩)
            all_goals
              show RR (.returned (.bool _)) _
              rw [HRR.out, HR.out]
              exact ⟨by (have hne := HNe.out; have hm2 := HM2.out; apply ret_bool; rw [Bool.eq_iff_iff]; simp [amg] at hm2; first | (simp [mayS, amg, HFr.out]; done) | (simp [mayS, amg, HFr.out]; omega)), below_then' HB.out HB3.out⟩
          · go_wp2_with ((with_reducible refine HTb.out.mono ?_); rintro e w6 ⟨rfl, rfl⟩)
            all_goals
              show RR (.returned (.bool _)) _
              rw [HRR.out, HR.out]
              exact ⟨by (have hne := HNe.out; have hm2 := HM2.out; apply ret_bool; rw [Bool.eq_iff_iff]; simp [amg] at hm2; first | (simp [mayS, amg, HFr.out]; done) | (simp [mayS, amg, HFr.out]; omega)), below_then' HB.out HB3.out⟩
        · cases m2
          · go_wp2_with ((with_reducible refine HTb.out.mono ?_); rintro e w6 ⟨rfl, rfl⟩)
            all_goals
              show RR (.returned (.bool _)) _
              rw [HRR.out, HR.out]
              exact ⟨by (have hne := HNe.out; have hm2 := HM2.out; apply ret_bool; rw [Bool.eq_iff_iff]; simp [amg] at hm2; first | (simp [mayS, amg, HFr.out]; done) | (simp [mayS, amg, HFr.out]; omega)), below_then' HB.out HB3.out⟩
          · go_wp2_with ((with_reducible refine HTb.out.mono ?_); rintro e w6 ⟨rfl, rfl⟩)
            all_goals
              show RR (.returned (.bool _)) _
              rw [HRR.out, HR.out]
              exact ⟨by (have hne := HNe.out; have hm2 := HM2.out; apply ret_bool; rw [Bool.eq_iff_iff]; simp [amg] at hm2; first | (simp [mayS, amg, HFr.out]; done) | (simp [mayS, amg, HFr.out]; omega)), below_then' HB.out HB3.out⟩
      by_cases h14k : k = 14
      · subst h14k
        obtain ⟨S, hS⟩ : ∃ S, S = nmS 14 := ⟨_, rfl⟩
        have HNm := hid (show Calls Tryd.prog 23 #[.int .i64 14] wr (fun e w' => e = .returned (.string S) ∧ Below wr.heap.size wr w') from by rw [hS]; exact Name_any 14 wr)
        have q1 : (S.toList == ({ data := #[111, 112, 101, 110] } : ByteArray).toList) = false := by rw [hS, ByteArray.toList_eq, ByteArray.toList_eq]; decide +kernel
        have q2 : (S.toList == ({ data := #[99, 108, 111, 115, 101] } : ByteArray).toList) = false := by rw [hS, ByteArray.toList_eq, ByteArray.toList_eq]; decide +kernel
        have q3 : (S.toList == ({ data := #[102, 105, 120, 101, 100] } : ByteArray).toList) = false := by rw [hS, ByteArray.toList_eq, ByteArray.toList_eq]; decide +kernel
        have q4 : (S.toList == ({ data := #[118, 97, 114, 105, 110, 116] } : ByteArray).toList) = false := by rw [hS, ByteArray.toList_eq, ByteArray.toList_eq]; decide +kernel
        have q5 : (S.toList == ({ data := #[116, 111, 107, 101, 110] } : ByteArray).toList) = false := by rw [hS, ByteArray.toList_eq, ByteArray.toList_eq]; decide +kernel
        have q6 : (S.toList == ({ data := #[98, 108, 111, 98] } : ByteArray).toList) = false := by rw [hS, ByteArray.toList_eq, ByteArray.toList_eq]; decide +kernel
        have q7 : (S.toList == ({ data := #[101, 110, 116, 101, 114] } : ByteArray).toList) = false := by rw [hS, ByteArray.toList_eq, ByteArray.toList_eq]; decide +kernel
        have q8 : (S.toList == ({ data := #[108, 101, 97, 118, 101] } : ByteArray).toList) = false := by rw [hS, ByteArray.toList_eq, ByteArray.toList_eq]; decide +kernel
        have q9 : (S.toList == ({ data := #[99, 111, 117, 110, 116] } : ByteArray).toList) = false := by rw [hS, ByteArray.toList_eq, ByteArray.toList_eq]; decide +kernel
        have q10 : (S.toList == ({ data := #[110, 101, 120, 116] } : ByteArray).toList) = false := by rw [hS, ByteArray.toList_eq, ByteArray.toList_eq]; decide +kernel
        have q11 : (S.toList == ({ data := #[106, 117, 109, 112] } : ByteArray).toList) = false := by rw [hS, ByteArray.toList_eq, ByteArray.toList_eq]; decide +kernel
        have q12 : (S.toList == ({ data := #[109, 97, 110, 121] } : ByteArray).toList) = false := by rw [hS, ByteArray.toList_eq, ByteArray.toList_eq]; decide +kernel
        have q13 : (S.toList == ({ data := #[115, 119, 105, 116, 99, 104] } : ByteArray).toList) = false := by rw [hS, ByteArray.toList_eq, ByteArray.toList_eq]; decide +kernel
        have q14 : (S.toList == ({ data := #[99, 104, 111, 105, 99, 101] } : ByteArray).toList) = true := by rw [hS, ByteArray.toList_eq, ByteArray.toList_eq]; decide +kernel
        have q15 : (S.toList == ({ data := #[99, 97, 108, 108] } : ByteArray).toList) = false := by rw [hS, ByteArray.toList_eq, ByteArray.toList_eq]; decide +kernel
        have q16 : (S.toList == ({ data := #[114, 101, 116, 117, 114, 110] } : ByteArray).toList) = false := by rw [hS, ByteArray.toList_eq, ByteArray.toList_eq]; decide +kernel
        have q17 : (S.toList == ({ data := #[109, 97, 114, 107] } : ByteArray).toList) = false := by rw [hS, ByteArray.toList_eq, ByteArray.toList_eq]; decide +kernel
        have q18 : (S.toList == ({ data := #[115, 116, 111, 112] } : ByteArray).toList) = false := by rw [hS, ByteArray.toList_eq, ByteArray.toList_eq]; decide +kernel
        have q19 : (S.toList == ({ data := #[115, 117, 109] } : ByteArray).toList) = false := by rw [hS, ByteArray.toList_eq, ByteArray.toList_eq]; decide +kernel
        have q20 : (S.toList == ({ data := #[101, 110, 100] } : ByteArray).toList) = false := by rw [hS, ByteArray.toList_eq, ByteArray.toList_eq]; decide +kernel
        clear hS
        go_upto_region 9 with (go_at_call 23; (with_reducible refine HNm.out.mono ?_); rintro e w2 ⟨rfl, hb2⟩; have HB2 := hid hb2; clear hb2 c0)
        have HB3 := hid (below_then' HBr.out HB2.out)
        have HTa := hid (HTo.out a w2 (Blk.keep HXr.out HB2.out))
        have HTb := hid (HTo.out xb w2 (Blk.keep HXr.out HB2.out))
        obtain ⟨x0, x1, x2, x3⟩ := BoxP.four (Blk.keep HXr.out HB2.out)
        obtain ⟨c0, c1, c2, c4, c5, c8, _⟩ := HLow.out _ HB3.out
        simp only [Nat.zero_add] at x0 x1 x2 x3 c0 c1 c2 c4 c5 c8
        generalize (ByteArray.mk #[111, 112, 101, 110]) = C1 at *
        generalize (ByteArray.mk #[99, 108, 111, 115, 101]) = C2 at *
        generalize (ByteArray.mk #[102, 105, 120, 101, 100]) = C3 at *
        generalize (ByteArray.mk #[118, 97, 114, 105, 110, 116]) = C4 at *
        generalize (ByteArray.mk #[116, 111, 107, 101, 110]) = C5 at *
        generalize (ByteArray.mk #[98, 108, 111, 98]) = C6 at *
        generalize (ByteArray.mk #[101, 110, 116, 101, 114]) = C7 at *
        generalize (ByteArray.mk #[108, 101, 97, 118, 101]) = C8 at *
        generalize (ByteArray.mk #[99, 111, 117, 110, 116]) = C9 at *
        generalize (ByteArray.mk #[110, 101, 120, 116]) = C10 at *
        generalize (ByteArray.mk #[106, 117, 109, 112]) = C11 at *
        generalize (ByteArray.mk #[109, 97, 110, 121]) = C12 at *
        generalize (ByteArray.mk #[115, 119, 105, 116, 99, 104]) = C13 at *
        generalize (ByteArray.mk #[99, 104, 111, 105, 99, 101]) = C14 at *
        generalize (ByteArray.mk #[99, 97, 108, 108]) = C15 at *
        generalize (ByteArray.mk #[114, 101, 116, 117, 114, 110]) = C16 at *
        generalize (ByteArray.mk #[109, 97, 114, 107]) = C17 at *
        generalize (ByteArray.mk #[115, 116, 111, 112]) = C18 at *
        generalize (ByteArray.mk #[115, 117, 109]) = C19 at *
        generalize (ByteArray.mk #[101, 110, 100]) = C20 at *
        obtain ⟨wA2, wN2, wC2⟩ := W
        have HWn2 := hid (show wN2 = ws.length from HWn.out)
        have HBl2 := hid (show bs.length = 256 from HBl.out)
        simp only at c8
        have HBy := hid (show w2.rangeAt (w.heap.size + 1) 9 (bs.map isB) from by have h := (HLow.out _ HB3.out).by_; simpa using h)
        have HSz2 := hid (show (Tryd.prog.info? 35).map (·.size) = some (bs.map isB).length by rw [List.length_map, HBl2.out]; kernel_rfl)
        have HFr2 := hid (show mayS ⟨ss, ⟨A, n, c⟩, sl, su, au⟩ ⟨14, a, xb, fl, mn, mx, mu, ad, ws, bs, ⟨wA2, wN2, wC2⟩⟩ = (cur && bs.all (fun c => decide (c.toNat ≤ ws.length))) by rw [← HFr.out]; rfl)
        go_upto_region 39 with (first | (refine wpList_load_mid rfl 35 _ rfl (w.heap.size + 1) 9 rfl (bs.map isB) _ HBy.out Tryd.underlying35 rfl HSz2.out ?_))
        obtain ⟨Y, hY⟩ : ∃ Y : Array Value, Y = (bs.map isB).toArray := ⟨_, rfl⟩
        rw [← hY]
        have HYh := hid hY
        clear hY
        go_wp2_with fail
        go_loopw [6, 190] (fun t i wr => ∃ (p : Nat) (cr : Bool), p ≤ 256 ∧ t = .bool cr ∧ i = .int .i64 p ∧ Hid (cr = (cur && (bs.take p).all (fun c => decide (c.toNat ≤ ws.length)))) ∧ wr = w2) (fun _ i _ => 256 - (intOf i).toNat)
        case atStart => exact ⟨0, cur, by omega, rfl, rfl, hid (by simp), rfl⟩
        case round =>
          obtain ⟨p, cr, hp, rfl, rfl, HT2, rfl⟩ := hrel
          by_cases hlt : p < 256
          · have hlt' : (p : Int) < 256 := by omega
            have hql : p < bs.length := by rw [HBl2.out]; exact hlt
            obtain ⟨v, hv⟩ : ∃ v, v = bs[p].toNat := ⟨_, rfl⟩
            have hv2 : v < 256 := by rw [hv]; exact UInt8.toNat_lt _
            have hxq : Y[p]? = some (.int .u8 (v : Int)) := by rw [HYh.out]; simp [hql, isB, hv]
            have hidx := run_index256 Y p _ hxq (by rw [HYh.out]; simp [HBl2.out])
            have HTk2 := hid (all_take (fun c => decide (c.toNat ≤ ws.length)) bs hql)
            simp only [← hv] at HTk2
            clear hv hxq hql
            cases cr
            · go_wp2_with fail
              exact ⟨⟨p + 1, false, by omega, rfl, by go_num, hid (by rw [HTk2.out, ← Bool.and_assoc, ← HT2.out]; rfl), by first | rfl | trivial⟩, by simp [intOf]; omega⟩
            · go_wp2_with fail
              exact ⟨⟨p + 1, _, by omega, rfl, by go_num, hid (by rw [HTk2.out, ← Bool.and_assoc, ← HT2.out, ← HWn2.out]; simp), by first | rfl | trivial⟩, by simp [intOf]; omega⟩
          · obtain rfl : p = 256 := by omega
            have e : bs.take 256 = bs := by rw [← HBl2.out, List.take_length]
            rw [e] at HT2
            clear e hlt
            go_wp2_with fail
            show RR (.returned (.bool _)) _
            rw [HRR.out, HR.out, HFr2.out, ← HT2.out]
            exact ⟨rfl, below_then' HB.out HB3.out⟩
      have hS0 : nmS k = ⟨#[]⟩ := nmS_other (by omega)
      obtain ⟨S, hS⟩ : ∃ S, S = nmS k := ⟨_, rfl⟩
      have HNm := hid (show Calls Tryd.prog 23 #[.int .i64 k] wr (fun e w' => e = .returned (.string S) ∧ Below wr.heap.size wr w') from by rw [hS]; exact Name_any k wr)
      rw [hS0] at hS
      have q1 : (S.toList == ({ data := #[111, 112, 101, 110] } : ByteArray).toList) = false := by rw [hS, ByteArray.toList_eq, ByteArray.toList_eq]; decide +kernel
      have q2 : (S.toList == ({ data := #[99, 108, 111, 115, 101] } : ByteArray).toList) = false := by rw [hS, ByteArray.toList_eq, ByteArray.toList_eq]; decide +kernel
      have q3 : (S.toList == ({ data := #[102, 105, 120, 101, 100] } : ByteArray).toList) = false := by rw [hS, ByteArray.toList_eq, ByteArray.toList_eq]; decide +kernel
      have q4 : (S.toList == ({ data := #[118, 97, 114, 105, 110, 116] } : ByteArray).toList) = false := by rw [hS, ByteArray.toList_eq, ByteArray.toList_eq]; decide +kernel
      have q5 : (S.toList == ({ data := #[116, 111, 107, 101, 110] } : ByteArray).toList) = false := by rw [hS, ByteArray.toList_eq, ByteArray.toList_eq]; decide +kernel
      have q6 : (S.toList == ({ data := #[98, 108, 111, 98] } : ByteArray).toList) = false := by rw [hS, ByteArray.toList_eq, ByteArray.toList_eq]; decide +kernel
      have q7 : (S.toList == ({ data := #[101, 110, 116, 101, 114] } : ByteArray).toList) = false := by rw [hS, ByteArray.toList_eq, ByteArray.toList_eq]; decide +kernel
      have q8 : (S.toList == ({ data := #[108, 101, 97, 118, 101] } : ByteArray).toList) = false := by rw [hS, ByteArray.toList_eq, ByteArray.toList_eq]; decide +kernel
      have q9 : (S.toList == ({ data := #[99, 111, 117, 110, 116] } : ByteArray).toList) = false := by rw [hS, ByteArray.toList_eq, ByteArray.toList_eq]; decide +kernel
      have q10 : (S.toList == ({ data := #[110, 101, 120, 116] } : ByteArray).toList) = false := by rw [hS, ByteArray.toList_eq, ByteArray.toList_eq]; decide +kernel
      have q11 : (S.toList == ({ data := #[106, 117, 109, 112] } : ByteArray).toList) = false := by rw [hS, ByteArray.toList_eq, ByteArray.toList_eq]; decide +kernel
      have q12 : (S.toList == ({ data := #[109, 97, 110, 121] } : ByteArray).toList) = false := by rw [hS, ByteArray.toList_eq, ByteArray.toList_eq]; decide +kernel
      have q13 : (S.toList == ({ data := #[115, 119, 105, 116, 99, 104] } : ByteArray).toList) = false := by rw [hS, ByteArray.toList_eq, ByteArray.toList_eq]; decide +kernel
      have q14 : (S.toList == ({ data := #[99, 104, 111, 105, 99, 101] } : ByteArray).toList) = false := by rw [hS, ByteArray.toList_eq, ByteArray.toList_eq]; decide +kernel
      have q15 : (S.toList == ({ data := #[99, 97, 108, 108] } : ByteArray).toList) = false := by rw [hS, ByteArray.toList_eq, ByteArray.toList_eq]; decide +kernel
      have q16 : (S.toList == ({ data := #[114, 101, 116, 117, 114, 110] } : ByteArray).toList) = false := by rw [hS, ByteArray.toList_eq, ByteArray.toList_eq]; decide +kernel
      have q17 : (S.toList == ({ data := #[109, 97, 114, 107] } : ByteArray).toList) = false := by rw [hS, ByteArray.toList_eq, ByteArray.toList_eq]; decide +kernel
      have q18 : (S.toList == ({ data := #[115, 116, 111, 112] } : ByteArray).toList) = false := by rw [hS, ByteArray.toList_eq, ByteArray.toList_eq]; decide +kernel
      have q19 : (S.toList == ({ data := #[115, 117, 109] } : ByteArray).toList) = false := by rw [hS, ByteArray.toList_eq, ByteArray.toList_eq]; decide +kernel
      have q20 : (S.toList == ({ data := #[101, 110, 100] } : ByteArray).toList) = false := by rw [hS, ByteArray.toList_eq, ByteArray.toList_eq]; decide +kernel
      clear hS hS0
      have HKs := hid (show mayS ⟨ss, ⟨A, n, c⟩, sl, su, au⟩ ⟨k, a, xb, fl, mn, mx, mu, ad, ws, bs, W⟩ = false by simp [mayS, h1k, h2k, h8k, h16k, h20k, h3k, h4k, h5k, h6k, h7k, h9k, h10k, h11k, h12k, h15k, h17k, h18k, h19k, h13k, h14k])
      clear h1k h2k h8k h16k h20k h3k h4k h5k h6k h7k h9k h10k h11k h12k h15k h17k h18k h19k h13k h14k
      go_upto_region 9 with (go_at_call 23; (with_reducible refine HNm.out.mono ?_); rintro e w2 ⟨rfl, hb2⟩; have HB2 := hid hb2; clear hb2 c0)
      have HB3 := hid (below_then' HBr.out HB2.out)
      generalize (ByteArray.mk #[111, 112, 101, 110]) = C1 at *
      generalize (ByteArray.mk #[99, 108, 111, 115, 101]) = C2 at *
      generalize (ByteArray.mk #[102, 105, 120, 101, 100]) = C3 at *
      generalize (ByteArray.mk #[118, 97, 114, 105, 110, 116]) = C4 at *
      generalize (ByteArray.mk #[116, 111, 107, 101, 110]) = C5 at *
      generalize (ByteArray.mk #[98, 108, 111, 98]) = C6 at *
      generalize (ByteArray.mk #[101, 110, 116, 101, 114]) = C7 at *
      generalize (ByteArray.mk #[108, 101, 97, 118, 101]) = C8 at *
      generalize (ByteArray.mk #[99, 111, 117, 110, 116]) = C9 at *
      generalize (ByteArray.mk #[110, 101, 120, 116]) = C10 at *
      generalize (ByteArray.mk #[106, 117, 109, 112]) = C11 at *
      generalize (ByteArray.mk #[109, 97, 110, 121]) = C12 at *
      generalize (ByteArray.mk #[115, 119, 105, 116, 99, 104]) = C13 at *
      generalize (ByteArray.mk #[99, 104, 111, 105, 99, 101]) = C14 at *
      generalize (ByteArray.mk #[99, 97, 108, 108]) = C15 at *
      generalize (ByteArray.mk #[114, 101, 116, 117, 114, 110]) = C16 at *
      generalize (ByteArray.mk #[109, 97, 114, 107]) = C17 at *
      generalize (ByteArray.mk #[115, 116, 111, 112]) = C18 at *
      generalize (ByteArray.mk #[115, 117, 109]) = C19 at *
      generalize (ByteArray.mk #[101, 110, 100]) = C20 at *
      go_wp2_with fail
      show RR (.returned (.bool _)) _
      rw [HRR.out, HR.out, HKs.out]
      exact ⟨rfl, below_then' HB.out HB3.out⟩
end Go.Proofs.YtpbkdokhlimpfaaDoor
