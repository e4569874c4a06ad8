/- code: a step's line, walked. -/
import Derived.Test.YtpbkdokhlimpfaaDoorCeB
import Derived.Deep.RegionHeld3
import Derived.Deep.RegionWith
namespace Go.Proofs.YtpbkdokhlimpfaaDoor
set_option linter.unusedSimpArgs false
set_option linter.unusedVariables false
open Go.RowKit Go.Sort

theorem strs_new (w : World) (l : List ByteArray) : (w.alloc (.cells (strs l).toArray 9)).heap[w.heap.size]? = some (.cells (strs l).toArray 9 (0, 0)) ∧ Below w.heap.size w (w.alloc (.cells (strs l).toArray 9)) := ⟨heap_alloc_new w _, (Below.refl _ _).alloc (Nat.le_refl _) _⟩
theorem StrS.app {w wr w7 w9 : World} {l k : List ByteArray} {A A' : Option Addr} {n m c c' : Nat} (h : StrS w l A n c w7) (hown : w9.ownsRow w.heap.size 9 1 (.slice A' (n + m) c') (n + m) (strs l ++ strs k)) (hg : w7.grownBy w9 (Value.slice A n c).ownBlock) : StrS w (l ++ k) A' (n + m) c' w9 := by
  refine ⟨h.bel.grown hg h.bel.size (fun j hj => (owns_block h.row j hj).1), ?_⟩
  have e : strs (l ++ k) = strs l ++ strs k := by unfold strs; rw [List.map_append]
  rw [e]
  exact hown
theorem Join_any (l : List ByteArray) (A : Option Addr) (n c : Nat) (sep : ByteArray) (w0 w : World) (h : StrS w0 l A n c w) (hl : l.length ≤ 4000000) (h21 : ∀ s ∈ l, s.data.toList.length ≤ 21000000) (hs : sep.data.toList.length ≤ 1) : Calls Tryd.prog 17 #[.slice A n c, .string sep] w fun e w' => e = .returned (.string (joinB l sep.data.toList)) ∧ Below w.heap.size w w' := by
  have hn := h.len
  rcases Nat.eq_zero_or_pos n with h0 | h0
  · subst h0
    have hl0 : l = [] := List.eq_nil_of_length_eq_zero hn
    subst hl0
    refine (Tryd.strings_Join_none A c sep w).mono ?_
    rintro e w' ⟨rfl, rfl⟩
    exact ⟨rfl, Below.refl _ _⟩
  · obtain ⟨g, rfl, -, -, hgl, hgc, -⟩ := owns_at h.row h0
    have hcap : n ≤ c := by
      rcases h.row.2 with ⟨hv, _⟩ | ⟨g', cap, cur, hv, _, _, h1, _⟩
      · cases hv
      · injection hv with _ _ e; omega
    have hj := Tryd.strings_Join g 0 c l sep w (fun j x hx => by
      rw [Nat.zero_add]
      exact hgc j _ (by unfold strs; rw [List.getElem?_map, hx]; rfl)) hgl (by omega) (by omega) (by
      have := join_len sep.data.toList hs (l.map (·.data.toList)) 21000000 (fun x hx => by obtain ⟨s, hs, rfl⟩ := List.mem_map.1 hx; exact h21 s hs)
      rw [List.length_map] at this
      omega)
    rw [hn] at hj
    refine hj.mono ?_
    rintro e w' ⟨rfl, hb⟩
    exact ⟨rfl, hb⟩
theorem below_ofdrew {w w' : World} (h : Below w.drew.heap.size w.drew w') : Below w.heap.size w w' := ⟨h.os, h.tape, h.output, h.size, h.block⟩
set_option maxRecDepth 100000 in
set_option maxHeartbeats 4000000 in
theorem line_any (i : Int) (x : ST) (b o : Nat) (w : World) {P : Nat → Prop} (hA : At w b o x) (hW : StOk w P x) (hl : x.ws.length ≤ 1000000) (hi : I64 i) (hx : StNum x) (ht : Tab10 w) : Calls Tryd.prog 31 #[.int .i64 i, .pointer (some ⟨b, o, none⟩)] w fun e w' => e = .returned (.string (lineS i x)) ∧ Below w.heap.size w w' := by
  obtain ⟨RR, hRR⟩ : ∃ RR : Ending → World → Prop, RR = fun e w' => e = .returned (.string (lineS i x)) ∧ Below w.heap.size w w' := ⟨_, rfl⟩
  rw [← hRR]
  have HRR := hid hRR
  have HA := hid hA
  have HW := hid hW
  have HLo := hid (fun W (hW : Below w.heap.size w W) => (hA.keep (hW.block b hA.lt)).low)
  have HTa := hid (fun W (hW : Below w.heap.size w W) => Tab10.keep ht hW)
  have HIt := hid (fun n (hn : I64 n) W (hW : Below w.heap.size w W) => Itoa_any n hn.1 hn.2 W (Tab10.keep ht hW))
  have HI1 := hid (Itoa_any i hi.1 hi.2 w.drew (Tab10.keep ht (below_d0' w)))
  have HNx := hid hx
  have HNi := hid hi
  have c0 := hA.low.c0
  have c1 := hA.low.c1
  have c2 := hA.low.c2
  try simp only [Nat.add_zero] at c0
  clear hRR hA hW hi hx ht
  go_enter Tryd.func31, Tryd.ntmps31
  go_upto_region 1 with (fail)
  go_cut [5] from 8 to 25 (fun s5 wx => ∃ g, s5 = .slice (some ⟨g, 0, none⟩) 4 4 ∧ Hid (StrS w [itoB i, nmS x.k, itoB x.a, itoB x.b] (some ⟨g, 0, none⟩) 4 4 wx))
  case first =>
    have hS0 : w.drew.cell? ⟨b, o, none⟩ = some (.int .i64 x.k) ∧ w.drew.cell? ⟨b, o + 1, none⟩ = some (.int .i64 x.a) ∧ w.drew.cell? ⟨b, o + 2, none⟩ = some (.int .i64 x.b) := ⟨c0, c1, c2⟩
    have HS3 := hid (fun W (hW : Below w.heap.size w W) => (show W.cell? ⟨b, o, none⟩ = some (.int .i64 x.k) ∧ W.cell? ⟨b, o + 1, none⟩ = some (.int .i64 x.a) ∧ W.cell? ⟨b, o + 2, none⟩ = some (.int .i64 x.b) from ⟨(HLo.out W hW).c0, (HLo.out W hW).c1, (HLo.out W hW).c2⟩))
    clear c0 c1 c2
    go_region_held3 (fun W => W.cell? ⟨b, o, none⟩ = some (.int .i64 x.k) ∧ W.cell? ⟨b, o + 1, none⟩ = some (.int .i64 x.a) ∧ W.cell? ⟨b, o + 2, none⟩ = some (.int .i64 x.b))
      (first | with_reducible exact hS0 | with_reducible exact hS1 | with_reducible exact hS2 | with_reducible exact hS3 | with_reducible exact hS4 | exact HS3.out _ (HB4.out.alloc HB4.out.size _))
      (first
      | ((with_reducible refine HI1.out.mono ?_); rintro e w1 ⟨rfl, hb⟩; have HB1 := hid (below_ofdrew hb); clear hb; have hS1 := HS3.out w1 HB1.out; have HI2 := hid (Name_any x.k w1))
      | ((with_reducible refine HI2.out.mono ?_); rintro e w2 ⟨rfl, hb⟩; have HB2 := hid (HB1.out.trans (hb.mono HB1.out.size)); clear hb; have hS2 := HS3.out w2 HB2.out; have HI3 := hid (HIt.out x.a HNx.out.a w2 HB2.out))
      | ((with_reducible refine HI3.out.mono ?_); rintro e w3 ⟨rfl, hb⟩; have HB3 := hid (HB2.out.trans (hb.mono HB2.out.size)); clear hb; have hS3 := HS3.out w3 HB3.out; have HI4 := hid (HIt.out x.b HNx.out.b w3 HB3.out))
      | ((with_reducible refine HI4.out.mono ?_); rintro e w4 ⟨rfl, hb⟩; have HB4 := hid (HB3.out.trans (hb.mono HB3.out.size)); clear hb; have hS4 := HS3.out w4 HB4.out))
    go_wp2_with fail
    go_meet
    refine ⟨w4.heap.size, rfl, hid ⟨HB4.out.alloc HB4.out.size _, owns_base (own_litS w4 [itoB i, nmS x.k, itoB x.a, itoB x.b] (by simp)) HB4.out.size⟩⟩
  case rest =>
    obtain ⟨g, rfl, HS⟩ := hcut
    clear c0 c1 c2 HI1
    obtain ⟨W, hWW⟩ : ∃ W, W = x.W := ⟨_, rfl⟩
    have HWe := hid hWW
    obtain ⟨wA, wN, wC⟩ := W
    have c8 := (HLo.out wc HS.out.bel).c8
    rw [← hWW] at c8
    have hwn : wN = x.ws.length := by have := HW.out.wn; rw [← hWW] at this; exact this
    have hnb : wN ≤ 1000000 := by omega
    have HWl := hid hwn
    clear hWW hwn hl
    go_wp2_with fail
    clear c8
    go_loopg [5, 31] wN (fun m v t wr => ∃ (q : Nat) (A : Option Addr) (n c : Nat), q ≤ wN ∧ wN ≤ m + q ∧ v = .slice A n c ∧ t = .int .i64 (q : Int) ∧ n = 4 + q * 3 ∧ Hid (StrS w ([itoB i, nmS x.k, itoB x.a, itoB x.b] ++ (x.ws.take q).flatMap wordsOf) A n c wr))
    case atStart => exact ⟨0, some ⟨g, 0, none⟩, 4, 4, by omega, by omega, rfl, rfl, rfl, HS⟩
    case round =>
      clear HS
      obtain ⟨q, A, n, c, hq, hm, rfl, rfl, rfl, HS⟩ := hrel
      by_cases hlt : q < wN
      · have hlt' : (q : Int) < (wN : Int) := by omega
        have hql : q < x.ws.length := by rw [← HWl.out]; exact hlt
        obtain ⟨b1, o1, hwA, hbl, _, e0, e1⟩ := way_at (HW.out.keep HS.out.bel) hql
        rw [← HWe.out] at hwA
        have hwA : wA = some ⟨b1, o1, none⟩ := hwA
        have HTk := hid (show (x.ws.take (q + 1)).flatMap wordsOf = (x.ws.take q).flatMap wordsOf ++ wordsOf x.ws[q] from by rw [List.take_succ_eq_append_getElem hql, List.flatMap_append]; simp)
        have hyn := HNx.out.ws _ (List.getElem_mem hql)
        obtain ⟨y, hy⟩ : ∃ y, y = x.ws[q] := ⟨_, rfl⟩
        rw [← hy] at e0 e1 HTk hyn
        have HY := hid hyn
        have HSf := hid (way_size y)
        have HOf := hid (way_one y)
        clear hbl hy hql hyn
        subst hwA
        go_upto_region 5 with (first
          | ((refine wpList_box rfl 46 _ _ rfl _ 46 y.cells.toArray ?_ ?_ HSf.out ?_ HOf.out ?_); exact rfl; exact rfl; exact rfl; intro W4 HB4 HK4))
        have HS4 := hid (HS.out.keep HB4.out)
        have HF1 := hid (FormatUint_any y.val HY.out.2 W4.drew (HTa.out _ (HS4.out.bel.trans ((below_d0' W4).mono HS4.out.bel.size))))
        clear e0 e1 HS
        have hS0 : W4.drew.cell? ⟨wr.heap.size, 0, none⟩ = some (.int .u64 (y.val : Int)) ∧ W4.drew.cell? ⟨wr.heap.size, 1, none⟩ = some (.int .i64 y.to) := ⟨Blk.at HK4.out 0, Blk.at HK4.out 1⟩
        have HS3 := hid (fun W (hW : Below W4.heap.size W4 W) => (show W.cell? ⟨wr.heap.size, 0, none⟩ = some (.int .u64 (y.val : Int)) ∧ W.cell? ⟨wr.heap.size, 1, none⟩ = some (.int .i64 y.to) from ⟨Blk.at (Blk.keep HK4.out hW) 0, Blk.at (Blk.keep HK4.out hW) 1⟩))
        obtain ⟨i0, hi0, hz0, hz1, hz2⟩ := info_parts info_strV
        have HI0 := hid (And.intro hi0 (And.intro hz0 (And.intro hz1 hz2)))
        clear hi0 hz0 hz1 hz2
        go_region_held3 (fun W => W.cell? ⟨wr.heap.size, 0, none⟩ = some (.int .u64 (y.val : Int)) ∧ W.cell? ⟨wr.heap.size, 1, none⟩ = some (.int .i64 y.to))
          (first | with_reducible exact hS0 | with_reducible exact hS1 | with_reducible exact hS2 | exact HS3.out _ (HB6.out.alloc HB6.out.size _) | exact hS9)
          (first
          | ((refine step_append_lies _ rfl _ _ 43 rfl w.heap.size 9 i0 _ 1 16 Tryd.underlying43 HI0.out.1 HI0.out.2.1 HI0.out.2.2.1 HI0.out.2.2.2 rfl (by decide) (.slice A (4 + q * 3) c) (4 + q * 3) _ ?_ HS7.out.row ⟨w6.heap.size, 0, none⟩ 3 3 (strs (wordsOf y)) ?_ rfl (World.news_of_block HN7.out) (strs_one _) (by decide) ?_ ?_ HS7.out.bel.size _ rfl ?_); rfl; rfl; unfold maxLen; omega; omega; intro g9 c9 w9 hown9 hgr9 hat9 hlt9; have HO9 := hid hown9; have HG9 := hid hgr9; have hk9 := Blk.grown HK7.out hgr9 (fun e => own_neN HS7.out.row HK7.out (by decide) e.symm); have hS9 := And.intro (Blk.at hk9 0) (Blk.at hk9 1); clear hk9 hown9 hgr9 hat9 hlt9)
          | ((with_reducible refine HF1.out.mono ?_); rintro e w5 ⟨rfl, hb⟩; have HB5 := hid (below_ofdrew hb); clear hb; have hS1 := HS3.out w5 HB5.out; have HF2 := hid (HIt.out y.to HY.out.1 w5 (HS4.out.keep HB5.out).bel))
          | ((with_reducible refine HF2.out.mono ?_); rintro e w6 ⟨rfl, hb⟩; have HB6 := hid (HB5.out.trans (hb.mono HB5.out.size)); clear hb; have hS2 := HS3.out w6 HB6.out; have HS7 := hid ((HS4.out.keep HB6.out).keep (strs_new w6 (wordsOf y)).2); have HN7 := hid (strs_new w6 (wordsOf y)).1; have HK7 := hid (Blk.keep (Blk.keep HK4.out HB6.out) (strs_new w6 (wordsOf y)).2)))
        have HS9 := hid (show StrS w (([itoB i, nmS x.k, itoB x.a, itoB x.b] ++ (x.ws.take q).flatMap wordsOf) ++ wordsOf y) (some ⟨g9, 0, none⟩) (4 + q * 3 + 3) c9 w9 from StrS.app (wr := wr) HS7.out HO9.out HG9.out)
        clear hS0 hS1 hS2 hS9
        go_wp2_with fail
        go_roundg (wN - (q + 1))
        case measure => omega
        case rel =>
          refine ⟨q + 1, some ⟨g9, 0, none⟩, 4 + q * 3 + 3, c9, by omega, by omega, rfl, by go_num, by omega, hid ?_⟩
          rw [HTk.out, ← List.append_assoc]
          exact HS9.out
      · obtain rfl : q = wN := by omega
        have e : x.ws.take q = x.ws := by rw [HWl.out, List.take_length]
        rw [e] at HS
        have HJ := hid (Join_any (lineW i x) A (4 + q * 3) c ⟨#[32]⟩ w wr HS.out (by rw [show lineW i x = [itoB i, nmS x.k, itoB x.a, itoB x.b] ++ x.ws.flatMap wordsOf from rfl, List.length_append, flat3_len, ← HWl.out]; simp; omega) (fun s hs => Nat.le_trans (lineW_len i x HNi.out HNx.out s hs) (by decide)) (by decide))
        clear e hlt
        go_wp2_with (go_at_call 17; (with_reducible refine HJ.out.mono ?_); rintro e w5 ⟨rfl, hb⟩; have HB5 := hid hb; clear hb)
        show RR (.returned (.string (joinB (lineW i x) _))) w5
        rw [HRR.out]
        exact ⟨rfl, HS.out.bel.trans (HB5.out.mono HS.out.bel.size)⟩
end Go.Proofs.YtpbkdokhlimpfaaDoor
