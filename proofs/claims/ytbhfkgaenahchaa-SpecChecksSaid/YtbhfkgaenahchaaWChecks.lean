/- The law SpecChecks: its walk. -/
import Derived.Test.YtbhfkgaenahchaaSpSm
import Derived.Test.YtbhfkgaenahchaaSpCm
import Derived.Test.YtbhfkgaenahchaaSpWr
import Derived.Test.YtbhfkgaenahchaaSpKd
namespace Go.Proofs.Ytbhfkgaenahchaa
set_option linter.unusedSimpArgs false
set_option linter.unusedVariables false
open Go.RowKit Go.Maps

/-- What the law holds: the box of the specification, and the map that counts. -/
structure CkW (w : World) (N D : SV) (B : Nat) (L : List Int) (W : World) : Prop where
  bel : Below w.heap.size w W
  bo : Blk W w.heap.size 25 [.slice N.A N.n N.c, .slice D.A D.n D.c]
  ow : Owners W B L
  hb : w.heap.size < B
theorem CkW.keep {w : World} {N D : SV} {B : Nat} {L : List Int} {W W' : World} (h : CkW w N D B L W) (hb : Below W.heap.size W W') : CkW w N D B L W' :=
  ⟨h.bel.trans (hb.mono h.bel.size), h.bo.keep hb, h.ow.keep hb, h.hb⟩
theorem CkW.put {w : World} {N D : SV} {B : Nat} {L L' : List Int} {W W' : World} (h : CkW w N D B L W) (ho : Owners W' B L') (hg : W.grownBy W' (some B)) : CkW w N D B L' W' :=
  ⟨Chg.below h.bel (Chg.of_grown hg) h.bel.size (fun j hj => by injection hj with hj; have := h.hb; omega), h.bo.grown hg (by intro e; injection e with e; have := h.hb; omega), ho, h.hb⟩
theorem row_put {W W' : World} {B base : Nat} {L : List Int} {v : Value} {n : Nat} {xs : List Value} (h : Owners W B L) (hr : W.ownsRow base 3 1 v n xs) (hg : W.grownBy W' (some B)) : W'.ownsRow base 3 1 v n xs := by
  refine owns_chg hr (Chg.of_grown hg) (fun k hk e => ?_)
  injection e with e
  subst e
  obtain ⟨D, ⟨es, clock, hb, _⟩, _⟩ := h
  rcases hr.2 with ⟨rfl, _⟩ | ⟨g, cap, cur, rfl, _, hh, _⟩
  · cases hk
  · injection hk with hk
    have hk : g = B := hk
    subst hk
    rw [hb] at hh
    cases hh
theorem row_cell {W : World} {base : Nat} {A : Option Addr} {m c : Nat} {ps : List Int} (h : W.ownsRow base 3 1 (.slice A m c) m (intC ps)) {q : Nat} (hq : q < ps.length) : ∃ b, A = some ⟨b, 0, none⟩ ∧ W.cell? ⟨b, q, none⟩ = some (.int .i64 ps[q]) := by
  rcases h.2 with ⟨e, hn⟩ | ⟨g, cap, cur, e, _⟩
  · have := h.1
    rw [intC_len, hn] at this
    omega
  · injection e with e1 _ e3
    subst e1 e3
    refine ⟨g, rfl, ?_⟩
    rw [h.cellAt q (by rw [← h.1, intC_len]; exact hq)]
    simp [intC, List.getElem?_eq_getElem hq]
theorem parts_le3 {v : NV} (h : v.t.ks.length ≤ 100 ∧ v.t.fs.length ≤ 100 ∧ v.t.cs.length ≤ 100) : v.t.parts.length ≤ 1000 := by
  unfold NT.parts
  simp only [List.length_append, List.length_map]
  split <;> simp <;> omega
set_option maxRecDepth 100000 in
set_option maxHeartbeats 40000000 in
theorem checks_walk (s : SpV) (w : World) (hO : SpecOk w (· < w.heap.size) s) (hW : ∀ y ∈ s.vs, Wfn y.t) (hD : ∀ y ∈ s.ds, I64 y.ty) (hn : s.N.n ≤ maxLen) :
    Calls Try.prog 3 #[s.val] w fun e w' => e = .returned (.bool true) ∧ Below w.heap.size w w' := by
  obtain ⟨vs, ds, N, D⟩ := s
  have HSm := hid (fun W (hb : Below w.heap.size w W) => small_any _ W (hO.keep hb) hn)
  obtain ⟨RR, hRR⟩ : ∃ R : Ending → World → Prop, R = fun e w' => e = .returned (.bool true) ∧ Below w.heap.size w w' := ⟨_, rfl⟩
  rw [← hRR]
  have HRR := hid hRR
  clear hRR
  obtain ⟨hbx, hb0⟩ := spec_box w (.slice N.A N.n N.c) (.slice D.A D.n D.c)
  have HB := hid hbx
  have HX := hid hb0
  clear hbx hb0
  have hmm := @run_makeMap Try.prog
  unfold SpV.val at HSm ⊢
  simp only at HSm ⊢
  by_cases hsm : smB ⟨vs, ds, N, D⟩ = true
  · rw [hsm] at HSm
    unfold smB at hsm
    simp only [Bool.and_eq_true, List.all_eq_true, decide_eq_true_eq] at hsm
    obtain ⟨hs1, hs2, hs3⟩ := hsm
    have hs1 : ∀ v ∈ vs, v.K.n ≤ 100 ∧ v.F.n ≤ 100 ∧ v.C.n ≤ 100 ∧ v.L.n ≤ 100 := fun v hv => by have := hs1 v hv; unfold smN at this; exact of_decide_eq_true this
    have HFt := hid (show ∀ v ∈ vs, v.K.n ≤ 1000 ∧ v.F.n ≤ 1000 ∧ v.C.n ≤ 1000 from fun v hv => by have := hs1 v hv; omega)
    have HFs := hid (show ∀ v ∈ vs, v.t.ks.length ≤ 100 ∧ v.t.fs.length ≤ 100 ∧ v.t.cs.length ≤ 100 from fun v hv => by
      have h1 := hs1 v hv
      have h2 := hO.each v hv
      rw [h2.kn, h2.fn, h2.cn] at h1
      omega)
    have HChk := hid (fun W (hb : Below w.heap.size w W) => Check_any ⟨vs, ds, N, D⟩ W (hO.keep hb) (fun v hv => by have := hs1 v hv; exact ⟨by omega, by omega, by omega, by omega⟩))
    unfold SpV.val at HChk
    simp only at HChk
    have HWf := hid hW
    have HDw := hid hD
    have HO := hid hO
    obtain ⟨NA, hNA⟩ : ∃ A, N.A = A := ⟨_, rfl⟩
    obtain ⟨n, hNn⟩ : ∃ n, N.n = n := ⟨_, rfl⟩
    obtain ⟨Nc, hNc⟩ : ∃ c, N.c = c := ⟨_, rfl⟩
    obtain ⟨DA, hDA⟩ : ∃ A, D.A = A := ⟨_, rfl⟩
    obtain ⟨Dn, hDn⟩ : ∃ n, D.n = n := ⟨_, rfl⟩
    obtain ⟨Dc, hDc⟩ : ∃ c, D.c = c := ⟨_, rfl⟩
    have HNe := hid (And.intro hNA (And.intro hNn hNc))
    have HDe := hid (And.intro hDA (And.intro hDn hDc))
    have HNn := hid (show n = vs.length from hNn.symm.trans HO.out.nn)
    have HDn := hid (show Dn = ds.length from hDn.symm.trans HO.out.dn)
    have HNb := hid (show n ≤ 300 by rw [← hNn]; exact hs2)
    have HDb := hid (show Dn ≤ 100 by rw [← hDn]; exact hs3)
    have hnb : n ≤ 300 := HNb.out
    have hdb : Dn ≤ 100 := HDb.out
    obtain ⟨R, hR⟩ : ∃ R, R = ckS vs ds := ⟨_, rfl⟩
    rw [← hR] at HChk
    have HR := hid hR
    clear hs1 hs2 hs3 hW hD hO hn hR
    rw [hNA, hNn, hNc, hDA, hDn, hDc] at HSm HChk HB HX ⊢
    clear hNA hNn hNc hDA hDn hDc
    by_cases hd0 : Dn = 0
    · have hd0i : ((Dn : Int) == 0) = true := by rw [hd0]; rfl
      have HR2 := hid (show R = 2 by rw [HR.out]; unfold ckS; exact if_pos (.inr (.inr (by rw [← HDn.out]; exact hd0))))
      clear hd0
      go_enter Try.func3, Try.ntmps3
      go_upto_region 1 with (fail)
      generalize w.alloc (.cells #[.slice NA n Nc, .slice DA Dn Dc] 25) = w1 at *
      go_upto_region 9 with (first
        | (go_at_call 7; (with_reducible refine (builds_any _).mono ?_); rintro e w2 ⟨rfl, hb2⟩; have HB2 := hid (HB.out.trans (hb2.mono HB.out.size)); have HX2 := hid (HX.out.keep hb2); clear hb2 HB HX; have y0 := Blk.at HX2.out 0; have y1 := Blk.at HX2.out 1; simp only [List.getElem?_cons_zero, List.getElem?_cons_succ] at y0 y1)
        | (go_at_call 8; (with_reducible refine (HSm.out _ HB2.out).mono ?_); rintro e w3 ⟨rfl, hb3⟩; have HB3 := hid (HB2.out.trans (hb3.mono HB2.out.size)); have HX3 := hid (HX2.out.keep hb3); clear hb3 HB2 HX2 y0 y1; have y0 := (Blk.at HX3.out 0); have y1 := (Blk.at HX3.out 1); simp only [List.getElem?_cons_zero, List.getElem?_cons_succ] at y0 y1; have HX3b := hid (HX3.out.alloc (.map #[] 0)); have q1 := Blk.at HX3b.out 1; have q0 := Blk.at HX3b.out 0; simp only [List.getElem?_cons_zero, List.getElem?_cons_succ] at q0 q1))
      have HK := hid (show CkW w N D w3.heap.size [] (w3.alloc (.map #[] 0)) from ⟨HB3.out.alloc HB3.out.size _, by rw [HNe.out.1, HNe.out.2.1, HNe.out.2.2, HDe.out.1, HDe.out.2.1, HDe.out.2.2]; exact HX3b.out, Owners.made w3, HX3.out.lt⟩)
      obtain ⟨B, hB⟩ : ∃ B, B = w3.heap.size := ⟨_, rfl⟩
      rw [← hB] at HK ⊢
      clear hB q0 q1 HX3b y0 y1 HX3 HB3
      generalize w3.alloc (.map #[] 0) = w4 at *
      have y0 := Blk.at HK.out.bo 0
      have y1 := Blk.at HK.out.bo 1
      simp only [List.getElem?_cons_zero, List.getElem?_cons_succ] at y0 y1
      rw [HNe.out.1, HNe.out.2.1, HNe.out.2.2] at y0
      rw [HDe.out.1, HDe.out.2.1, HDe.out.2.2] at y1
      go_wp2_with fail
      go_loopw [3, 31] (fun wv i wr => i = .int .i64 0 ∧ wv = .int .i64 2 ∧ Hid (CkW w N D B [] wr)) (fun _ i _ => n - (intOf i).toNat)
      case atStart => exact ⟨rfl, rfl, HK⟩
      case round =>
        clear HK y0 y1
        obtain ⟨rfl, rfl, HK⟩ := hrel
        have HT := hid (show StF n (fun l => finD (hsF n l ((ds.map DT.ty).drop 0))) 2 R [] from .inr ⟨by decide, HR2.out⟩)
        have HLb := hid (show ([] : List Int).length ≤ 400000 from Nat.zero_le _)
        by_cases hlt : 0 < n
        · have hlt' : (0 : Int) < (n : Int) := by omega
          have hjv : 0 < vs.length := by rw [← HNn.out]; exact hlt
          obtain ⟨b, o, hA, hbl, hPb, hrg⟩ := rw_range HO.out.n hjv
          have hA' : NA = some ⟨b, o, none⟩ := by rw [← HNe.out.1]; exact hA
          have HRg := hid (range_keep hrg (HK.out.bel.block b hbl))
          obtain ⟨v, hv⟩ : ∃ v, v = vs[0] := ⟨_, rfl⟩
          rw [← hv] at HRg
          have hbx := row_new wr 38 #[.int .i64 0, .int .i64 0, .bool false, .bool false, .bool false, .int .u64 0, .int .u64 0, .string ⟨#[]⟩, .string ⟨#[]⟩, .int .u64 0, .int .u64 0, .slice none 0 0, .slice none 0 0, .slice none 0 0, .string ⟨#[]⟩, .int .u64 0, .slice none 0 0, .int .i64 0] v.cells.toArray
          have HK5 := hid (HK.out.keep hbx)
          have HSz := hid (nv_size v)
          have HOne := hid (nv_one v)
          have HLen := hid (show v.cells.length = 18 from rfl)
          have j := 0
          clear hrg hbl hPb hv hA hbx HK hjv
          rw [hA'] at HChk ⊢
          go_upto_region 25 with (first
              | ((with_reducible refine wpList_load_mid rfl 38 _ rfl b (o + 0 * 18) ?_ v.cells _ HRg.out Try.underlying38 ?_ ?_ ?_); exact rfl; exact rfl; (rw [HLen.out]; kernel_rfl))
              | ((with_reducible refine wpList_store_row rfl 38 _ _ rfl wr.heap.size v.cells.toArray ?_ ?_ 38 #[.int .i64 0, .int .i64 0, .bool false, .bool false, .bool false, .int .u64 0, .int .u64 0, .string ⟨#[]⟩, .string ⟨#[]⟩, .int .u64 0, .int .u64 0, .slice none 0 0, .slice none 0 0, .slice none 0 0, .string ⟨#[]⟩, .int .u64 0, .slice none 0 0, .int .i64 0] (heap_alloc_new wr _) HSz.out ?_ HOne.out ?_); exact rfl; exact rfl; exact rfl; generalize (wr.alloc (.cells #[.int .i64 0, .int .i64 0, .bool false, .bool false, .bool false, .int .u64 0, .int .u64 0, .string ⟨#[]⟩, .string ⟨#[]⟩, .int .u64 0, .int .u64 0, .slice none 0 0, .slice none 0 0, .slice none 0 0, .string ⟨#[]⟩, .int .u64 0, .slice none 0 0, .int .i64 0] 38)).setRow wr.heap.size v.cells.toArray = w5 at *)
              | fail)
          have HK := HK5
          clear HK5
          have y0 := Blk.at HK.out.bo 0
          have y1 := Blk.at HK.out.bo 1
          simp only [List.getElem?_cons_zero, List.getElem?_cons_succ] at y0 y1
          rw [HNe.out.1, HNe.out.2.1, HNe.out.2.2] at y0
          rw [HDe.out.1, HDe.out.2.1, HDe.out.2.2] at y1
          go_wp2_with fail
          go_loopw [3, 77] (fun wv i wr => ∃ (j want : Nat) (L : List Int), j ≤ Dn ∧ i = .int .i64 j ∧ wv = .int .i64 (want : Int) ∧ Hid (StF n (fun l => finD (hsF n l ((ds.map DT.ty).drop j))) want R L) ∧ Hid (CkW w N D B L wr) ∧ Hid (L.length ≤ 400000 + j)) (fun _ i _ => Dn - (intOf i).toNat)
          case atStart => exact ⟨0, 2, [], by omega, rfl, rfl, HT, HK, HLb⟩
          case round =>
            clear HT HK HLb y0 y1
            obtain ⟨j, want, L, hj, rfl, rfl, HSt, HK, HLb⟩ := hrel
            by_cases hlt : j < Dn
            · have hlt' : (j : Int) < (Dn : Int) := by omega
              have hjd : j < ds.length := by rw [← HDn.out]; exact hlt
              obtain ⟨b1, o1, hA, hbl, _, e0, e1⟩ := def_cell2 (HO.out.d.keep HK.out.bel) hjd
              have hA' : DA = some ⟨b1, o1, none⟩ := by rw [← HDe.out.1]; exact hA
              obtain ⟨d, hd⟩ : ∃ d, d = ds[j] := ⟨_, rfl⟩
              rw [← hd] at e0 e1
              obtain ⟨dnm, p⟩ := d
              have HpI := hid (show I64 p by have := HDw.out _ (List.getElem_mem hjd); rw [← hd] at this; exact this)
              have HSt := hid (show StF n (fun l => finD (hsF n l (p :: (ds.map DT.ty).drop (j + 1)))) want R L from HSt.out.of (fun _ l _ => by
                rw [List.drop_eq_getElem_cons (by rw [List.length_map]; exact hjd), List.getElem_map, ← hd]))
              have HLl := hid (show L.length ≤ 1048576 by have := HLb.out; have := HDb.out; omega)
              have HLn := hid (show (L ++ [p]).length ≤ 400000 + (j + 1) by rw [List.length_append]; have := HLb.out; simp only [List.length_cons, List.length_nil]; omega)
              have hbx := row_new wr 42 #[.string ⟨#[]⟩, .int .i64 0] (DT.mk dnm p).cells.toArray
              have hX4 : Blk ((wr.alloc (.cells #[.string ⟨#[]⟩, .int .i64 0] 42)).setRow wr.heap.size (DT.mk dnm p).cells.toArray) wr.heap.size 42 (DT.mk dnm p).cells := setRow_heap _ _ _ _ _ (0, 0) (heap_alloc_new wr _)
              obtain ⟨W4, hW4⟩ : ∃ W4, W4 = (wr.alloc (.cells #[.string ⟨#[]⟩, .int .i64 0] 42)).setRow wr.heap.size (DT.mk dnm p).cells.toArray := ⟨_, rfl⟩
              rw [← hW4] at hbx hX4
              have HBd := hid (show B < wr.heap.size from HK.out.ow.lt)
              have HK5 := hid (HK.out.keep hbx)
              have HD5 := hid hX4
              have HW4 := hid hW4
              have HSz := hid (dt_size (DT.mk dnm p))
              have HOne := hid (dt_one (DT.mk dnm p))
              have z1 := Blk.at hX4 1
              have y0 := Blk.at HK5.out.bo 0
              simp only [DT.cells, List.getElem?_cons_zero, List.getElem?_cons_succ] at z1 y0
              rw [HNe.out.1, HNe.out.2.1, HNe.out.2.2] at y0
              obtain ⟨c, hc0⟩ : ∃ c, c = L.count p := ⟨_, rfl⟩
              have HC0 := hid hc0.symm
              have HC1 := hid (show (L ++ [p]).count p = c + 1 by rw [List.count_append, hc0]; simp)
              have hcb : c ≤ 1048576 := by rw [hc0]; exact Nat.le_trans List.count_le_length HLl.out
              clear hc0
              clear hbx hX4 hW4 hbl hA hd hjd HK HLb
              rw [hA'] at HChk ⊢
              by_cases hw0 : want = 0
              · subst hw0
                by_cases hp : p < 0
                · have HSt2 := hid (show StF n _ 3 R (L ++ [p]) by
                    have h := hold_step (Nat.le_refl n) (fun _ => rfl) HSt.out
                    have e : holdW2 (holdW n 0 p) p L = 3 := by rw [show holdW n 0 p = 3 from if_pos ⟨rfl, .inl hp⟩]; exact if_neg (by omega)
                    rw [e] at h
                    exact h)
                  clear HSt
                  go_wp2_with (first
                    | ((with_reducible refine wpList_store_row rfl 42 _ _ rfl wr.heap.size (DT.mk dnm p).cells.toArray ?_ ?_ 42 #[.string ⟨#[]⟩, .int .i64 0] (heap_alloc_new wr _) HSz.out ?_ HOne.out ?_); exact rfl; exact rfl; exact rfl; rw [← HW4.out])
                    | ((with_reducible refine wpList_owned HK5.out.ow HpI.out _ _ rfl ?_ ?_ ?_ ?_); exact rfl; exact rfl; exact rfl; rw [HC0.out])
                    | ((with_reducible refine wpList_own1 HK5.out.ow HpI.out HLl.out _ _ _ rfl rfl ?_ ?_ ?_ ?_); exact rfl; exact rfl; (rw [HC0.out]; exact rfl); (intro w7 ho7 hg7; have HK7 := hid (HK5.out.put ho7 hg7); have HD7 := hid (HD5.out.grown hg7 (by intro e; injection e with e; have := HK5.out.ow.lt; have := HBd.out; omega)); have z7 := Blk.at HD7.out 1; simp only [DT.cells, List.getElem?_cons_zero, List.getElem?_cons_succ] at z7; clear HD7; clear ho7 hg7 HK5))
                    | ((with_reducible refine wpList_owned HK7.out.ow HpI.out _ _ rfl ?_ ?_ ?_ ?_); exact rfl; exact rfl; exact rfl; rw [HC1.out]))
                  all_goals exact ⟨⟨j + 1, 3, L ++ [p], by omega, by go_num, rfl, HSt2, HK7, HLn⟩, by simp [intOf]; omega⟩
                by_cases hm : (n : Int) ≤ p
                · have HSt2 := hid (show StF n _ 3 R (L ++ [p]) by
                    have h := hold_step (Nat.le_refl n) (fun _ => rfl) HSt.out
                    have e : holdW2 (holdW n 0 p) p L = 3 := by rw [show holdW n 0 p = 3 from if_pos ⟨rfl, .inr hm⟩]; exact if_neg (by omega)
                    rw [e] at h
                    exact h)
                  clear HSt
                  go_wp2_with (first
                    | ((with_reducible refine wpList_store_row rfl 42 _ _ rfl wr.heap.size (DT.mk dnm p).cells.toArray ?_ ?_ 42 #[.string ⟨#[]⟩, .int .i64 0] (heap_alloc_new wr _) HSz.out ?_ HOne.out ?_); exact rfl; exact rfl; exact rfl; rw [← HW4.out])
                    | ((with_reducible refine wpList_owned HK5.out.ow HpI.out _ _ rfl ?_ ?_ ?_ ?_); exact rfl; exact rfl; exact rfl; rw [HC0.out])
                    | ((with_reducible refine wpList_own1 HK5.out.ow HpI.out HLl.out _ _ _ rfl rfl ?_ ?_ ?_ ?_); exact rfl; exact rfl; (rw [HC0.out]; exact rfl); (intro w7 ho7 hg7; have HK7 := hid (HK5.out.put ho7 hg7); have HD7 := hid (HD5.out.grown hg7 (by intro e; injection e with e; have := HK5.out.ow.lt; have := HBd.out; omega)); have z7 := Blk.at HD7.out 1; simp only [DT.cells, List.getElem?_cons_zero, List.getElem?_cons_succ] at z7; clear HD7; clear ho7 hg7 HK5))
                    | ((with_reducible refine wpList_owned HK7.out.ow HpI.out _ _ rfl ?_ ?_ ?_ ?_); exact rfl; exact rfl; exact rfl; rw [HC1.out]))
                  all_goals exact ⟨⟨j + 1, 3, L ++ [p], by omega, by go_num, rfl, HSt2, HK7, HLn⟩, by simp [intOf]; omega⟩
                by_cases hc : 0 < c
                · have hc' : (1 : Int) < ((c : Int) + 1) := by omega
                  have HSt2 := hid (show StF n _ 4 R (L ++ [p]) by
                    have h := hold_step (Nat.le_refl n) (fun _ => rfl) HSt.out
                    have e : holdW2 (holdW n 0 p) p L = 4 := by rw [show holdW n 0 p = 0 from if_neg (by omega)]; exact if_pos ⟨rfl, by rw [HC1.out]; omega⟩
                    rw [e] at h
                    exact h)
                  clear HSt
                  go_wp2_with (first
                    | ((with_reducible refine wpList_store_row rfl 42 _ _ rfl wr.heap.size (DT.mk dnm p).cells.toArray ?_ ?_ 42 #[.string ⟨#[]⟩, .int .i64 0] (heap_alloc_new wr _) HSz.out ?_ HOne.out ?_); exact rfl; exact rfl; exact rfl; rw [← HW4.out])
                    | ((with_reducible refine wpList_owned HK5.out.ow HpI.out _ _ rfl ?_ ?_ ?_ ?_); exact rfl; exact rfl; exact rfl; rw [HC0.out])
                    | ((with_reducible refine wpList_own1 HK5.out.ow HpI.out HLl.out _ _ _ rfl rfl ?_ ?_ ?_ ?_); exact rfl; exact rfl; (rw [HC0.out]; exact rfl); (intro w7 ho7 hg7; have HK7 := hid (HK5.out.put ho7 hg7); have HD7 := hid (HD5.out.grown hg7 (by intro e; injection e with e; have := HK5.out.ow.lt; have := HBd.out; omega)); have z7 := Blk.at HD7.out 1; simp only [DT.cells, List.getElem?_cons_zero, List.getElem?_cons_succ] at z7; clear HD7; clear ho7 hg7 HK5))
                    | ((with_reducible refine wpList_owned HK7.out.ow HpI.out _ _ rfl ?_ ?_ ?_ ?_); exact rfl; exact rfl; exact rfl; rw [HC1.out]))
                  all_goals exact ⟨⟨j + 1, 4, L ++ [p], by omega, by go_num, rfl, HSt2, HK7, HLn⟩, by simp [intOf]; omega⟩
                obtain rfl : c = 0 := by omega
                have HSt2 := hid (show StF n _ 0 R (L ++ [p]) by
                  have h := hold_step (Nat.le_refl n) (fun _ => rfl) HSt.out
                  have e : holdW2 (holdW n 0 p) p L = 0 := by rw [show holdW n 0 p = 0 from if_neg (by omega)]; exact if_neg (by rw [HC1.out]; omega)
                  rw [e] at h
                  exact h)
                clear HSt
                go_wp2_with (first
                  | ((with_reducible refine wpList_store_row rfl 42 _ _ rfl wr.heap.size (DT.mk dnm p).cells.toArray ?_ ?_ 42 #[.string ⟨#[]⟩, .int .i64 0] (heap_alloc_new wr _) HSz.out ?_ HOne.out ?_); exact rfl; exact rfl; exact rfl; rw [← HW4.out])
                  | ((with_reducible refine wpList_owned HK5.out.ow HpI.out _ _ rfl ?_ ?_ ?_ ?_); exact rfl; exact rfl; exact rfl; rw [HC0.out])
                  | ((with_reducible refine wpList_own1 HK5.out.ow HpI.out HLl.out _ _ _ rfl rfl ?_ ?_ ?_ ?_); exact rfl; exact rfl; (rw [HC0.out]; exact rfl); (intro w7 ho7 hg7; have HK7 := hid (HK5.out.put ho7 hg7); have HD7 := hid (HD5.out.grown hg7 (by intro e; injection e with e; have := HK5.out.ow.lt; have := HBd.out; omega)); have z7 := Blk.at HD7.out 1; simp only [DT.cells, List.getElem?_cons_zero, List.getElem?_cons_succ] at z7; clear HD7; clear ho7 hg7 HK5))
                  | ((with_reducible refine wpList_owned HK7.out.ow HpI.out _ _ rfl ?_ ?_ ?_ ?_); exact rfl; exact rfl; exact rfl; rw [HC1.out]))
                all_goals exact ⟨⟨j + 1, 0, L ++ [p], by omega, by go_num, rfl, HSt2, HK7, HLn⟩, by simp [intOf]; omega⟩
              · have hwi : ¬ (want : Int) = 0 := by omega
                have hwb : ((want : Int) == 0) = false := by simpa using hwi
                have HSt2 := hid (show StF n _ want R (L ++ [p]) by
                  have h := hold_step (Nat.le_refl n) (fun _ => rfl) HSt.out
                  have e : holdW2 (holdW n want p) p L = want := by rw [show holdW n want p = want from if_neg (fun h => hw0 h.1)]; exact if_neg (fun h => hw0 h.1)
                  rw [e] at h
                  exact h)
                clear HSt
                go_wp2_with (first
                  | ((with_reducible refine wpList_store_row rfl 42 _ _ rfl wr.heap.size (DT.mk dnm p).cells.toArray ?_ ?_ 42 #[.string ⟨#[]⟩, .int .i64 0] (heap_alloc_new wr _) HSz.out ?_ HOne.out ?_); exact rfl; exact rfl; exact rfl; rw [← HW4.out])
                  | ((with_reducible refine wpList_owned HK5.out.ow HpI.out _ _ rfl ?_ ?_ ?_ ?_); exact rfl; exact rfl; exact rfl; rw [HC0.out])
                  | ((with_reducible refine wpList_own1 HK5.out.ow HpI.out HLl.out _ _ _ rfl rfl ?_ ?_ ?_ ?_); exact rfl; exact rfl; (rw [HC0.out]; exact rfl); (intro w7 ho7 hg7; have HK7 := hid (HK5.out.put ho7 hg7); have HD7 := hid (HD5.out.grown hg7 (by intro e; injection e with e; have := HK5.out.ow.lt; have := HBd.out; omega)); have z7 := Blk.at HD7.out 1; simp only [DT.cells, List.getElem?_cons_zero, List.getElem?_cons_succ] at z7; clear HD7; clear ho7 hg7 HK5))
                  | ((with_reducible refine wpList_owned HK7.out.ow HpI.out _ _ rfl ?_ ?_ ?_ ?_); exact rfl; exact rfl; exact rfl; rw [HC1.out]))
                all_goals exact ⟨⟨j + 1, want, L ++ [p], by omega, by go_num, rfl, HSt2, HK7, HLn⟩, by simp [intOf]; omega⟩
            · obtain rfl : j = Dn := by omega
              have HT3 := hid (show StF n (fun l => finD (.ok l)) want R L from HSt.out.of (fun _ l _ => by
                show finD (hsF n l ((ds.map DT.ty).drop j)) = finD (.ok l)
                rw [List.drop_of_length_le (by rw [List.length_map]; exact Nat.le_of_eq HDn.out.symm)]
                rfl))
              clear HSt HLb
              have HT4 := hid (show StF n (lastF 0) want R L from HT3.out.of (fun _ l _ => rfl))
              clear HT3
              have y0 := Blk.at HK.out.bo 0
              have y1 := Blk.at HK.out.bo 1
              simp only [List.getElem?_cons_zero, List.getElem?_cons_succ] at y0 y1
              rw [HNe.out.1, HNe.out.2.1, HNe.out.2.2] at y0
              rw [HDe.out.1, HDe.out.2.1, HDe.out.2.2] at y1
              go_wp2_with fail
              go_loopw [3, 114] (fun wv i wr => ∃ (j want : Nat), j ≤ n ∧ i = .int .i64 j ∧ wv = .int .i64 (want : Int) ∧ Hid (StF n (lastF j) want R L) ∧ Hid (CkW w N D B L wr)) (fun _ i _ => n - (intOf i).toNat)
              case atStart => exact ⟨0, want, by omega, rfl, rfl, HT4, HK⟩
              case round =>
                clear HT4 HK y0 y1
                obtain ⟨j, want, hj, rfl, rfl, HSt, HK5⟩ := hrel
                by_cases hlt : j < n
                · have hlt' : (j : Int) < (n : Int) := by omega
                  have HSt2 := hid (last_step hlt HSt.out)
                  have HpI := hid (show I64 (j : Int) from ⟨by omega, by omega⟩)
                  obtain ⟨c, hc0⟩ : ∃ c, c = L.count (j : Int) := ⟨_, rfl⟩
                  have HC0 := hid hc0.symm
                  by_cases hw0 : want = 0
                  · subst hw0
                    by_cases hc : c = 0
                    · subst hc
                      have HSt3 := hid (show StF n (lastF (j + 1)) 3 R L by
                        have e : lastW 0 j L = 3 := if_pos ⟨rfl, HC0.out⟩
                        rw [← e]; exact HSt2.out)
                      clear HSt HSt2 hc0
                      go_wp2_with ((with_reducible refine wpList_owned HK5.out.ow HpI.out _ _ rfl ?_ ?_ ?_ ?_); exact rfl; exact rfl; exact rfl; rw [HC0.out])
                      all_goals exact ⟨⟨j + 1, 3, by omega, by go_num, rfl, HSt3, HK5⟩, by simp [intOf]; omega⟩
                    · have hci : ¬ (c : Int) = 0 := by omega
                      have hcb : ((c : Int) == 0) = false := by simpa using hci
                      have HSt3 := hid (show StF n (lastF (j + 1)) 0 R L by
                        have e : lastW 0 j L = 0 := if_neg (by rw [HC0.out]; omega)
                        have h := HSt2.out
                        rw [e] at h; exact h)
                      clear HSt HSt2 hc0
                      go_wp2_with ((with_reducible refine wpList_owned HK5.out.ow HpI.out _ _ rfl ?_ ?_ ?_ ?_); exact rfl; exact rfl; exact rfl; rw [HC0.out])
                      all_goals exact ⟨⟨j + 1, 0, by omega, by go_num, rfl, HSt3, HK5⟩, by simp [intOf]; omega⟩
                  · have hwi : ¬ (want : Int) = 0 := by omega
                    have hwb : ((want : Int) == 0) = false := by simpa using hwi
                    have HSt3 := hid (show StF n (lastF (j + 1)) want R L by
                      have e : lastW want j L = want := if_neg (fun h => hw0 h.1)
                      have h := HSt2.out
                      rw [e] at h; exact h)
                    clear HSt HSt2 hc0
                    go_wp2_with fail
                    all_goals exact ⟨⟨j + 1, want, by omega, by go_num, rfl, HSt3, HK5⟩, by simp [intOf]; omega⟩
                · obtain rfl : j = n := by omega
                  have HE := hid (last_end HSt.out)
                  have y0 := Blk.at HK5.out.bo 0
                  have y1 := Blk.at HK5.out.bo 1
                  simp only [List.getElem?_cons_zero, List.getElem?_cons_succ] at y0 y1
                  rw [HNe.out.1, HNe.out.2.1, HNe.out.2.2] at y0
                  rw [HDe.out.1, HDe.out.2.1, HDe.out.2.2] at y1
                  have HCk := hid (HChk.out wr HK5.out.bel)
                  rw [HE.out] at HCk
                  clear HSt
                  go_wp2_with (go_at_call 11; (with_reducible refine HCk.out.mono ?_); rintro e w9 ⟨rfl, hb9⟩; have HB9 := hid (HK5.out.bel.trans (hb9.mono HK5.out.bel.size)); clear hb9)
                  show RR (.returned (.bool true)) w9
                  rw [HRR.out]
                  exact ⟨rfl, HB9.out⟩
        · have hlt' : ¬ (0 : Int) < (n : Int) := by omega
          clear hlt
          have y0 := Blk.at HK.out.bo 0
          have y1 := Blk.at HK.out.bo 1
          simp only [List.getElem?_cons_zero, List.getElem?_cons_succ] at y0 y1
          rw [HNe.out.1, HNe.out.2.1, HNe.out.2.2] at y0
          rw [HDe.out.1, HDe.out.2.1, HDe.out.2.2] at y1
          go_wp2_with fail
          go_loopw [3, 77] (fun wv i wr => ∃ (j want : Nat) (L : List Int), j ≤ Dn ∧ i = .int .i64 j ∧ wv = .int .i64 (want : Int) ∧ Hid (StF n (fun l => finD (hsF n l ((ds.map DT.ty).drop j))) want R L) ∧ Hid (CkW w N D B L wr) ∧ Hid (L.length ≤ 400000 + j)) (fun _ i _ => Dn - (intOf i).toNat)
          case atStart => exact ⟨0, 2, [], by omega, rfl, rfl, HT, HK, HLb⟩
          case round =>
            have HN0 := hid hlt'
            clear hlt'
            clear HT HK HLb y0 y1
            obtain ⟨j, want, L, hj, rfl, rfl, HSt, HK, HLb⟩ := hrel
            by_cases hlt : j < Dn
            · have hlt' : (j : Int) < (Dn : Int) := by omega
              have hjd : j < ds.length := by rw [← HDn.out]; exact hlt
              obtain ⟨b1, o1, hA, hbl, _, e0, e1⟩ := def_cell2 (HO.out.d.keep HK.out.bel) hjd
              have hA' : DA = some ⟨b1, o1, none⟩ := by rw [← HDe.out.1]; exact hA
              obtain ⟨d, hd⟩ : ∃ d, d = ds[j] := ⟨_, rfl⟩
              rw [← hd] at e0 e1
              obtain ⟨dnm, p⟩ := d
              have HpI := hid (show I64 p by have := HDw.out _ (List.getElem_mem hjd); rw [← hd] at this; exact this)
              have HSt := hid (show StF n (fun l => finD (hsF n l (p :: (ds.map DT.ty).drop (j + 1)))) want R L from HSt.out.of (fun _ l _ => by
                rw [List.drop_eq_getElem_cons (by rw [List.length_map]; exact hjd), List.getElem_map, ← hd]))
              have HLl := hid (show L.length ≤ 1048576 by have := HLb.out; have := HDb.out; omega)
              have HLn := hid (show (L ++ [p]).length ≤ 400000 + (j + 1) by rw [List.length_append]; have := HLb.out; simp only [List.length_cons, List.length_nil]; omega)
              have hbx := row_new wr 42 #[.string ⟨#[]⟩, .int .i64 0] (DT.mk dnm p).cells.toArray
              have hX4 : Blk ((wr.alloc (.cells #[.string ⟨#[]⟩, .int .i64 0] 42)).setRow wr.heap.size (DT.mk dnm p).cells.toArray) wr.heap.size 42 (DT.mk dnm p).cells := setRow_heap _ _ _ _ _ (0, 0) (heap_alloc_new wr _)
              obtain ⟨W4, hW4⟩ : ∃ W4, W4 = (wr.alloc (.cells #[.string ⟨#[]⟩, .int .i64 0] 42)).setRow wr.heap.size (DT.mk dnm p).cells.toArray := ⟨_, rfl⟩
              rw [← hW4] at hbx hX4
              have HBd := hid (show B < wr.heap.size from HK.out.ow.lt)
              have HK5 := hid (HK.out.keep hbx)
              have HD5 := hid hX4
              have HW4 := hid hW4
              have HSz := hid (dt_size (DT.mk dnm p))
              have HOne := hid (dt_one (DT.mk dnm p))
              have z1 := Blk.at hX4 1
              have y0 := Blk.at HK5.out.bo 0
              simp only [DT.cells, List.getElem?_cons_zero, List.getElem?_cons_succ] at z1 y0
              rw [HNe.out.1, HNe.out.2.1, HNe.out.2.2] at y0
              obtain ⟨c, hc0⟩ : ∃ c, c = L.count p := ⟨_, rfl⟩
              have HC0 := hid hc0.symm
              have HC1 := hid (show (L ++ [p]).count p = c + 1 by rw [List.count_append, hc0]; simp)
              have hcb : c ≤ 1048576 := by rw [hc0]; exact Nat.le_trans List.count_le_length HLl.out
              clear hc0
              clear hbx hX4 hW4 hbl hA hd hjd HK HLb
              rw [hA'] at HChk ⊢
              by_cases hw0 : want = 0
              · subst hw0
                by_cases hp : p < 0
                · have HSt2 := hid (show StF n _ 3 R (L ++ [p]) by
                    have h := hold_step (Nat.le_refl n) (fun _ => rfl) HSt.out
                    have e : holdW2 (holdW n 0 p) p L = 3 := by rw [show holdW n 0 p = 3 from if_pos ⟨rfl, .inl hp⟩]; exact if_neg (by omega)
                    rw [e] at h
                    exact h)
                  clear HSt
                  go_wp2_with (first
                    | ((with_reducible refine wpList_store_row rfl 42 _ _ rfl wr.heap.size (DT.mk dnm p).cells.toArray ?_ ?_ 42 #[.string ⟨#[]⟩, .int .i64 0] (heap_alloc_new wr _) HSz.out ?_ HOne.out ?_); exact rfl; exact rfl; exact rfl; rw [← HW4.out])
                    | ((with_reducible refine wpList_owned HK5.out.ow HpI.out _ _ rfl ?_ ?_ ?_ ?_); exact rfl; exact rfl; exact rfl; rw [HC0.out])
                    | ((with_reducible refine wpList_own1 HK5.out.ow HpI.out HLl.out _ _ _ rfl rfl ?_ ?_ ?_ ?_); exact rfl; exact rfl; (rw [HC0.out]; exact rfl); (intro w7 ho7 hg7; have HK7 := hid (HK5.out.put ho7 hg7); have HD7 := hid (HD5.out.grown hg7 (by intro e; injection e with e; have := HK5.out.ow.lt; have := HBd.out; omega)); have z7 := Blk.at HD7.out 1; simp only [DT.cells, List.getElem?_cons_zero, List.getElem?_cons_succ] at z7; clear HD7; clear ho7 hg7 HK5))
                    | ((with_reducible refine wpList_owned HK7.out.ow HpI.out _ _ rfl ?_ ?_ ?_ ?_); exact rfl; exact rfl; exact rfl; rw [HC1.out]))
                  all_goals exact ⟨⟨j + 1, 3, L ++ [p], by omega, by go_num, rfl, HSt2, HK7, HLn⟩, by simp [intOf]; omega⟩
                by_cases hm : (n : Int) ≤ p
                · have HSt2 := hid (show StF n _ 3 R (L ++ [p]) by
                    have h := hold_step (Nat.le_refl n) (fun _ => rfl) HSt.out
                    have e : holdW2 (holdW n 0 p) p L = 3 := by rw [show holdW n 0 p = 3 from if_pos ⟨rfl, .inr hm⟩]; exact if_neg (by omega)
                    rw [e] at h
                    exact h)
                  clear HSt
                  go_wp2_with (first
                    | ((with_reducible refine wpList_store_row rfl 42 _ _ rfl wr.heap.size (DT.mk dnm p).cells.toArray ?_ ?_ 42 #[.string ⟨#[]⟩, .int .i64 0] (heap_alloc_new wr _) HSz.out ?_ HOne.out ?_); exact rfl; exact rfl; exact rfl; rw [← HW4.out])
                    | ((with_reducible refine wpList_owned HK5.out.ow HpI.out _ _ rfl ?_ ?_ ?_ ?_); exact rfl; exact rfl; exact rfl; rw [HC0.out])
                    | ((with_reducible refine wpList_own1 HK5.out.ow HpI.out HLl.out _ _ _ rfl rfl ?_ ?_ ?_ ?_); exact rfl; exact rfl; (rw [HC0.out]; exact rfl); (intro w7 ho7 hg7; have HK7 := hid (HK5.out.put ho7 hg7); have HD7 := hid (HD5.out.grown hg7 (by intro e; injection e with e; have := HK5.out.ow.lt; have := HBd.out; omega)); have z7 := Blk.at HD7.out 1; simp only [DT.cells, List.getElem?_cons_zero, List.getElem?_cons_succ] at z7; clear HD7; clear ho7 hg7 HK5))
                    | ((with_reducible refine wpList_owned HK7.out.ow HpI.out _ _ rfl ?_ ?_ ?_ ?_); exact rfl; exact rfl; exact rfl; rw [HC1.out]))
                  all_goals exact ⟨⟨j + 1, 3, L ++ [p], by omega, by go_num, rfl, HSt2, HK7, HLn⟩, by simp [intOf]; omega⟩
                exfalso
                have h0 := HN0.out
                omega
              · have hwi : ¬ (want : Int) = 0 := by omega
                have hwb : ((want : Int) == 0) = false := by simpa using hwi
                have HSt2 := hid (show StF n _ want R (L ++ [p]) by
                  have h := hold_step (Nat.le_refl n) (fun _ => rfl) HSt.out
                  have e : holdW2 (holdW n want p) p L = want := by rw [show holdW n want p = want from if_neg (fun h => hw0 h.1)]; exact if_neg (fun h => hw0 h.1)
                  rw [e] at h
                  exact h)
                clear HSt
                go_wp2_with (first
                  | ((with_reducible refine wpList_store_row rfl 42 _ _ rfl wr.heap.size (DT.mk dnm p).cells.toArray ?_ ?_ 42 #[.string ⟨#[]⟩, .int .i64 0] (heap_alloc_new wr _) HSz.out ?_ HOne.out ?_); exact rfl; exact rfl; exact rfl; rw [← HW4.out])
                  | ((with_reducible refine wpList_owned HK5.out.ow HpI.out _ _ rfl ?_ ?_ ?_ ?_); exact rfl; exact rfl; exact rfl; rw [HC0.out])
                  | ((with_reducible refine wpList_own1 HK5.out.ow HpI.out HLl.out _ _ _ rfl rfl ?_ ?_ ?_ ?_); exact rfl; exact rfl; (rw [HC0.out]; exact rfl); (intro w7 ho7 hg7; have HK7 := hid (HK5.out.put ho7 hg7); have HD7 := hid (HD5.out.grown hg7 (by intro e; injection e with e; have := HK5.out.ow.lt; have := HBd.out; omega)); have z7 := Blk.at HD7.out 1; simp only [DT.cells, List.getElem?_cons_zero, List.getElem?_cons_succ] at z7; clear HD7; clear ho7 hg7 HK5))
                  | ((with_reducible refine wpList_owned HK7.out.ow HpI.out _ _ rfl ?_ ?_ ?_ ?_); exact rfl; exact rfl; exact rfl; rw [HC1.out]))
                all_goals exact ⟨⟨j + 1, want, L ++ [p], by omega, by go_num, rfl, HSt2, HK7, HLn⟩, by simp [intOf]; omega⟩
            · obtain rfl : j = Dn := by omega
              have HT3 := hid (show StF n (fun l => finD (.ok l)) want R L from HSt.out.of (fun _ l _ => by
                show finD (hsF n l ((ds.map DT.ty).drop j)) = finD (.ok l)
                rw [List.drop_of_length_le (by rw [List.length_map]; exact Nat.le_of_eq HDn.out.symm)]
                rfl))
              clear HSt HLb
              have HT4 := hid (show StF n (lastF 0) want R L from HT3.out.of (fun _ l _ => rfl))
              clear HT3
              have y0 := Blk.at HK.out.bo 0
              have y1 := Blk.at HK.out.bo 1
              simp only [List.getElem?_cons_zero, List.getElem?_cons_succ] at y0 y1
              rw [HNe.out.1, HNe.out.2.1, HNe.out.2.2] at y0
              rw [HDe.out.1, HDe.out.2.1, HDe.out.2.2] at y1
              go_wp2_with fail
              go_loopw [3, 114] (fun wv i wr => ∃ (j want : Nat), j ≤ n ∧ i = .int .i64 j ∧ wv = .int .i64 (want : Int) ∧ Hid (StF n (lastF j) want R L) ∧ Hid (CkW w N D B L wr)) (fun _ i _ => n - (intOf i).toNat)
              case atStart => exact ⟨0, want, by omega, rfl, rfl, HT4, HK⟩
              case round =>
                clear HT4 HK y0 y1
                obtain ⟨j, want, hj, rfl, rfl, HSt, HK5⟩ := hrel
                by_cases hlt : j < n
                · have hlt' : (j : Int) < (n : Int) := by omega
                  have HSt2 := hid (last_step hlt HSt.out)
                  have HpI := hid (show I64 (j : Int) from ⟨by omega, by omega⟩)
                  obtain ⟨c, hc0⟩ : ∃ c, c = L.count (j : Int) := ⟨_, rfl⟩
                  have HC0 := hid hc0.symm
                  by_cases hw0 : want = 0
                  · subst hw0
                    by_cases hc : c = 0
                    · subst hc
                      have HSt3 := hid (show StF n (lastF (j + 1)) 3 R L by
                        have e : lastW 0 j L = 3 := if_pos ⟨rfl, HC0.out⟩
                        rw [← e]; exact HSt2.out)
                      clear HSt HSt2 hc0
                      go_wp2_with ((with_reducible refine wpList_owned HK5.out.ow HpI.out _ _ rfl ?_ ?_ ?_ ?_); exact rfl; exact rfl; exact rfl; rw [HC0.out])
                      all_goals exact ⟨⟨j + 1, 3, by omega, by go_num, rfl, HSt3, HK5⟩, by simp [intOf]; omega⟩
                    · have hci : ¬ (c : Int) = 0 := by omega
                      have hcb : ((c : Int) == 0) = false := by simpa using hci
                      have HSt3 := hid (show StF n (lastF (j + 1)) 0 R L by
                        have e : lastW 0 j L = 0 := if_neg (by rw [HC0.out]; omega)
                        have h := HSt2.out
                        rw [e] at h; exact h)
                      clear HSt HSt2 hc0
                      go_wp2_with ((with_reducible refine wpList_owned HK5.out.ow HpI.out _ _ rfl ?_ ?_ ?_ ?_); exact rfl; exact rfl; exact rfl; rw [HC0.out])
                      all_goals exact ⟨⟨j + 1, 0, by omega, by go_num, rfl, HSt3, HK5⟩, by simp [intOf]; omega⟩
                  · have hwi : ¬ (want : Int) = 0 := by omega
                    have hwb : ((want : Int) == 0) = false := by simpa using hwi
                    have HSt3 := hid (show StF n (lastF (j + 1)) want R L by
                      have e : lastW want j L = want := if_neg (fun h => hw0 h.1)
                      have h := HSt2.out
                      rw [e] at h; exact h)
                    clear HSt HSt2 hc0
                    go_wp2_with fail
                    all_goals exact ⟨⟨j + 1, want, by omega, by go_num, rfl, HSt3, HK5⟩, by simp [intOf]; omega⟩
                · obtain rfl : j = n := by omega
                  have HE := hid (last_end HSt.out)
                  have y0 := Blk.at HK5.out.bo 0
                  have y1 := Blk.at HK5.out.bo 1
                  simp only [List.getElem?_cons_zero, List.getElem?_cons_succ] at y0 y1
                  rw [HNe.out.1, HNe.out.2.1, HNe.out.2.2] at y0
                  rw [HDe.out.1, HDe.out.2.1, HDe.out.2.2] at y1
                  have HCk := hid (HChk.out wr HK5.out.bel)
                  rw [HE.out] at HCk
                  clear HSt
                  go_wp2_with (go_at_call 11; (with_reducible refine HCk.out.mono ?_); rintro e w9 ⟨rfl, hb9⟩; have HB9 := hid (HK5.out.bel.trans (hb9.mono HK5.out.bel.size)); clear hb9)
                  show RR (.returned (.bool true)) w9
                  rw [HRR.out]
                  exact ⟨rfl, HB9.out⟩
    have hd0i : ((Dn : Int) == 0) = false := by simp; omega
    have hd0' : ¬ (Dn : Int) = 0 := by omega
    by_cases hd64 : 64 < Dn
    · have hd64' : (64 : Int) < (Dn : Int) := by omega
      have HR2 := hid (show R = 2 by rw [HR.out]; unfold ckS; exact if_pos (.inr (.inl (by rw [← HDn.out]; exact hd64))))
      go_enter Try.func3, Try.ntmps3
      go_upto_region 1 with (fail)
      generalize w.alloc (.cells #[.slice NA n Nc, .slice DA Dn Dc] 25) = w1 at *
      go_upto_region 9 with (first
        | (go_at_call 7; (with_reducible refine (builds_any _).mono ?_); rintro e w2 ⟨rfl, hb2⟩; have HB2 := hid (HB.out.trans (hb2.mono HB.out.size)); have HX2 := hid (HX.out.keep hb2); clear hb2 HB HX; have y0 := Blk.at HX2.out 0; have y1 := Blk.at HX2.out 1; simp only [List.getElem?_cons_zero, List.getElem?_cons_succ] at y0 y1)
        | (go_at_call 8; (with_reducible refine (HSm.out _ HB2.out).mono ?_); rintro e w3 ⟨rfl, hb3⟩; have HB3 := hid (HB2.out.trans (hb3.mono HB2.out.size)); have HX3 := hid (HX2.out.keep hb3); clear hb3 HB2 HX2 y0 y1; have y0 := (Blk.at HX3.out 0); have y1 := (Blk.at HX3.out 1); simp only [List.getElem?_cons_zero, List.getElem?_cons_succ] at y0 y1; have HX3b := hid (HX3.out.alloc (.map #[] 0)); have q1 := Blk.at HX3b.out 1; have q0 := Blk.at HX3b.out 0; simp only [List.getElem?_cons_zero, List.getElem?_cons_succ] at q0 q1))
      have HK := hid (show CkW w N D w3.heap.size [] (w3.alloc (.map #[] 0)) from ⟨HB3.out.alloc HB3.out.size _, by rw [HNe.out.1, HNe.out.2.1, HNe.out.2.2, HDe.out.1, HDe.out.2.1, HDe.out.2.2]; exact HX3b.out, Owners.made w3, HX3.out.lt⟩)
      obtain ⟨B, hB⟩ : ∃ B, B = w3.heap.size := ⟨_, rfl⟩
      rw [← hB] at HK ⊢
      clear hB q0 q1 HX3b y0 y1 HX3 HB3
      generalize w3.alloc (.map #[] 0) = w4 at *
      have y0 := Blk.at HK.out.bo 0
      have y1 := Blk.at HK.out.bo 1
      simp only [List.getElem?_cons_zero, List.getElem?_cons_succ] at y0 y1
      rw [HNe.out.1, HNe.out.2.1, HNe.out.2.2] at y0
      rw [HDe.out.1, HDe.out.2.1, HDe.out.2.2] at y1
      go_wp2_with fail
      go_loopw [3, 31] (fun wv i wr => i = .int .i64 0 ∧ wv = .int .i64 2 ∧ Hid (CkW w N D B [] wr)) (fun _ i _ => n - (intOf i).toNat)
      case atStart => exact ⟨rfl, rfl, HK⟩
      case round =>
        clear HK y0 y1
        obtain ⟨rfl, rfl, HK⟩ := hrel
        have HT := hid (show StF n (fun l => finD (hsF n l ((ds.map DT.ty).drop 0))) 2 R [] from .inr ⟨by decide, HR2.out⟩)
        have HLb := hid (show ([] : List Int).length ≤ 400000 from Nat.zero_le _)
        by_cases hlt : 0 < n
        · have hlt' : (0 : Int) < (n : Int) := by omega
          have hjv : 0 < vs.length := by rw [← HNn.out]; exact hlt
          obtain ⟨b, o, hA, hbl, hPb, hrg⟩ := rw_range HO.out.n hjv
          have hA' : NA = some ⟨b, o, none⟩ := by rw [← HNe.out.1]; exact hA
          have HRg := hid (range_keep hrg (HK.out.bel.block b hbl))
          obtain ⟨v, hv⟩ : ∃ v, v = vs[0] := ⟨_, rfl⟩
          rw [← hv] at HRg
          have hbx := row_new wr 38 #[.int .i64 0, .int .i64 0, .bool false, .bool false, .bool false, .int .u64 0, .int .u64 0, .string ⟨#[]⟩, .string ⟨#[]⟩, .int .u64 0, .int .u64 0, .slice none 0 0, .slice none 0 0, .slice none 0 0, .string ⟨#[]⟩, .int .u64 0, .slice none 0 0, .int .i64 0] v.cells.toArray
          have HK5 := hid (HK.out.keep hbx)
          have HSz := hid (nv_size v)
          have HOne := hid (nv_one v)
          have HLen := hid (show v.cells.length = 18 from rfl)
          have j := 0
          clear hrg hbl hPb hv hA hbx HK hjv
          rw [hA'] at HChk ⊢
          go_upto_region 25 with (first
              | ((with_reducible refine wpList_load_mid rfl 38 _ rfl b (o + 0 * 18) ?_ v.cells _ HRg.out Try.underlying38 ?_ ?_ ?_); exact rfl; exact rfl; (rw [HLen.out]; kernel_rfl))
              | ((with_reducible refine wpList_store_row rfl 38 _ _ rfl wr.heap.size v.cells.toArray ?_ ?_ 38 #[.int .i64 0, .int .i64 0, .bool false, .bool false, .bool false, .int .u64 0, .int .u64 0, .string ⟨#[]⟩, .string ⟨#[]⟩, .int .u64 0, .int .u64 0, .slice none 0 0, .slice none 0 0, .slice none 0 0, .string ⟨#[]⟩, .int .u64 0, .slice none 0 0, .int .i64 0] (heap_alloc_new wr _) HSz.out ?_ HOne.out ?_); exact rfl; exact rfl; exact rfl; generalize (wr.alloc (.cells #[.int .i64 0, .int .i64 0, .bool false, .bool false, .bool false, .int .u64 0, .int .u64 0, .string ⟨#[]⟩, .string ⟨#[]⟩, .int .u64 0, .int .u64 0, .slice none 0 0, .slice none 0 0, .slice none 0 0, .string ⟨#[]⟩, .int .u64 0, .slice none 0 0, .int .i64 0] 38)).setRow wr.heap.size v.cells.toArray = w5 at *)
              | fail)
          have HK := HK5
          clear HK5
          have y0 := Blk.at HK.out.bo 0
          have y1 := Blk.at HK.out.bo 1
          simp only [List.getElem?_cons_zero, List.getElem?_cons_succ] at y0 y1
          rw [HNe.out.1, HNe.out.2.1, HNe.out.2.2] at y0
          rw [HDe.out.1, HDe.out.2.1, HDe.out.2.2] at y1
          go_wp2_with fail
          go_loopw [3, 77] (fun wv i wr => ∃ (j want : Nat) (L : List Int), j ≤ Dn ∧ i = .int .i64 j ∧ wv = .int .i64 (want : Int) ∧ Hid (StF n (fun l => finD (hsF n l ((ds.map DT.ty).drop j))) want R L) ∧ Hid (CkW w N D B L wr) ∧ Hid (L.length ≤ 400000 + j)) (fun _ i _ => Dn - (intOf i).toNat)
          case atStart => exact ⟨0, 2, [], by omega, rfl, rfl, HT, HK, HLb⟩
          case round =>
            clear HT HK HLb y0 y1
            obtain ⟨j, want, L, hj, rfl, rfl, HSt, HK, HLb⟩ := hrel
            by_cases hlt : j < Dn
            · have hlt' : (j : Int) < (Dn : Int) := by omega
              have hjd : j < ds.length := by rw [← HDn.out]; exact hlt
              obtain ⟨b1, o1, hA, hbl, _, e0, e1⟩ := def_cell2 (HO.out.d.keep HK.out.bel) hjd
              have hA' : DA = some ⟨b1, o1, none⟩ := by rw [← HDe.out.1]; exact hA
              obtain ⟨d, hd⟩ : ∃ d, d = ds[j] := ⟨_, rfl⟩
              rw [← hd] at e0 e1
              obtain ⟨dnm, p⟩ := d
              have HpI := hid (show I64 p by have := HDw.out _ (List.getElem_mem hjd); rw [← hd] at this; exact this)
              have HSt := hid (show StF n (fun l => finD (hsF n l (p :: (ds.map DT.ty).drop (j + 1)))) want R L from HSt.out.of (fun _ l _ => by
                rw [List.drop_eq_getElem_cons (by rw [List.length_map]; exact hjd), List.getElem_map, ← hd]))
              have HLl := hid (show L.length ≤ 1048576 by have := HLb.out; have := HDb.out; omega)
              have HLn := hid (show (L ++ [p]).length ≤ 400000 + (j + 1) by rw [List.length_append]; have := HLb.out; simp only [List.length_cons, List.length_nil]; omega)
              have hbx := row_new wr 42 #[.string ⟨#[]⟩, .int .i64 0] (DT.mk dnm p).cells.toArray
              have hX4 : Blk ((wr.alloc (.cells #[.string ⟨#[]⟩, .int .i64 0] 42)).setRow wr.heap.size (DT.mk dnm p).cells.toArray) wr.heap.size 42 (DT.mk dnm p).cells := setRow_heap _ _ _ _ _ (0, 0) (heap_alloc_new wr _)
              obtain ⟨W4, hW4⟩ : ∃ W4, W4 = (wr.alloc (.cells #[.string ⟨#[]⟩, .int .i64 0] 42)).setRow wr.heap.size (DT.mk dnm p).cells.toArray := ⟨_, rfl⟩
              rw [← hW4] at hbx hX4
              have HBd := hid (show B < wr.heap.size from HK.out.ow.lt)
              have HK5 := hid (HK.out.keep hbx)
              have HD5 := hid hX4
              have HW4 := hid hW4
              have HSz := hid (dt_size (DT.mk dnm p))
              have HOne := hid (dt_one (DT.mk dnm p))
              have z1 := Blk.at hX4 1
              have y0 := Blk.at HK5.out.bo 0
              simp only [DT.cells, List.getElem?_cons_zero, List.getElem?_cons_succ] at z1 y0
              rw [HNe.out.1, HNe.out.2.1, HNe.out.2.2] at y0
              obtain ⟨c, hc0⟩ : ∃ c, c = L.count p := ⟨_, rfl⟩
              have HC0 := hid hc0.symm
              have HC1 := hid (show (L ++ [p]).count p = c + 1 by rw [List.count_append, hc0]; simp)
              have hcb : c ≤ 1048576 := by rw [hc0]; exact Nat.le_trans List.count_le_length HLl.out
              clear hc0
              clear hbx hX4 hW4 hbl hA hd hjd HK HLb
              rw [hA'] at HChk ⊢
              by_cases hw0 : want = 0
              · subst hw0
                by_cases hp : p < 0
                · have HSt2 := hid (show StF n _ 3 R (L ++ [p]) by
                    have h := hold_step (Nat.le_refl n) (fun _ => rfl) HSt.out
                    have e : holdW2 (holdW n 0 p) p L = 3 := by rw [show holdW n 0 p = 3 from if_pos ⟨rfl, .inl hp⟩]; exact if_neg (by omega)
                    rw [e] at h
                    exact h)
                  clear HSt
                  go_wp2_with (first
                    | ((with_reducible refine wpList_store_row rfl 42 _ _ rfl wr.heap.size (DT.mk dnm p).cells.toArray ?_ ?_ 42 #[.string ⟨#[]⟩, .int .i64 0] (heap_alloc_new wr _) HSz.out ?_ HOne.out ?_); exact rfl; exact rfl; exact rfl; rw [← HW4.out])
                    | ((with_reducible refine wpList_owned HK5.out.ow HpI.out _ _ rfl ?_ ?_ ?_ ?_); exact rfl; exact rfl; exact rfl; rw [HC0.out])
                    | ((with_reducible refine wpList_own1 HK5.out.ow HpI.out HLl.out _ _ _ rfl rfl ?_ ?_ ?_ ?_); exact rfl; exact rfl; (rw [HC0.out]; exact rfl); (intro w7 ho7 hg7; have HK7 := hid (HK5.out.put ho7 hg7); have HD7 := hid (HD5.out.grown hg7 (by intro e; injection e with e; have := HK5.out.ow.lt; have := HBd.out; omega)); have z7 := Blk.at HD7.out 1; simp only [DT.cells, List.getElem?_cons_zero, List.getElem?_cons_succ] at z7; clear HD7; clear ho7 hg7 HK5))
                    | ((with_reducible refine wpList_owned HK7.out.ow HpI.out _ _ rfl ?_ ?_ ?_ ?_); exact rfl; exact rfl; exact rfl; rw [HC1.out]))
                  all_goals exact ⟨⟨j + 1, 3, L ++ [p], by omega, by go_num, rfl, HSt2, HK7, HLn⟩, by simp [intOf]; omega⟩
                by_cases hm : (n : Int) ≤ p
                · have HSt2 := hid (show StF n _ 3 R (L ++ [p]) by
                    have h := hold_step (Nat.le_refl n) (fun _ => rfl) HSt.out
                    have e : holdW2 (holdW n 0 p) p L = 3 := by rw [show holdW n 0 p = 3 from if_pos ⟨rfl, .inr hm⟩]; exact if_neg (by omega)
                    rw [e] at h
                    exact h)
                  clear HSt
                  go_wp2_with (first
                    | ((with_reducible refine wpList_store_row rfl 42 _ _ rfl wr.heap.size (DT.mk dnm p).cells.toArray ?_ ?_ 42 #[.string ⟨#[]⟩, .int .i64 0] (heap_alloc_new wr _) HSz.out ?_ HOne.out ?_); exact rfl; exact rfl; exact rfl; rw [← HW4.out])
                    | ((with_reducible refine wpList_owned HK5.out.ow HpI.out _ _ rfl ?_ ?_ ?_ ?_); exact rfl; exact rfl; exact rfl; rw [HC0.out])
                    | ((with_reducible refine wpList_own1 HK5.out.ow HpI.out HLl.out _ _ _ rfl rfl ?_ ?_ ?_ ?_); exact rfl; exact rfl; (rw [HC0.out]; exact rfl); (intro w7 ho7 hg7; have HK7 := hid (HK5.out.put ho7 hg7); have HD7 := hid (HD5.out.grown hg7 (by intro e; injection e with e; have := HK5.out.ow.lt; have := HBd.out; omega)); have z7 := Blk.at HD7.out 1; simp only [DT.cells, List.getElem?_cons_zero, List.getElem?_cons_succ] at z7; clear HD7; clear ho7 hg7 HK5))
                    | ((with_reducible refine wpList_owned HK7.out.ow HpI.out _ _ rfl ?_ ?_ ?_ ?_); exact rfl; exact rfl; exact rfl; rw [HC1.out]))
                  all_goals exact ⟨⟨j + 1, 3, L ++ [p], by omega, by go_num, rfl, HSt2, HK7, HLn⟩, by simp [intOf]; omega⟩
                by_cases hc : 0 < c
                · have hc' : (1 : Int) < ((c : Int) + 1) := by omega
                  have HSt2 := hid (show StF n _ 4 R (L ++ [p]) by
                    have h := hold_step (Nat.le_refl n) (fun _ => rfl) HSt.out
                    have e : holdW2 (holdW n 0 p) p L = 4 := by rw [show holdW n 0 p = 0 from if_neg (by omega)]; exact if_pos ⟨rfl, by rw [HC1.out]; omega⟩
                    rw [e] at h
                    exact h)
                  clear HSt
                  go_wp2_with (first
                    | ((with_reducible refine wpList_store_row rfl 42 _ _ rfl wr.heap.size (DT.mk dnm p).cells.toArray ?_ ?_ 42 #[.string ⟨#[]⟩, .int .i64 0] (heap_alloc_new wr _) HSz.out ?_ HOne.out ?_); exact rfl; exact rfl; exact rfl; rw [← HW4.out])
                    | ((with_reducible refine wpList_owned HK5.out.ow HpI.out _ _ rfl ?_ ?_ ?_ ?_); exact rfl; exact rfl; exact rfl; rw [HC0.out])
                    | ((with_reducible refine wpList_own1 HK5.out.ow HpI.out HLl.out _ _ _ rfl rfl ?_ ?_ ?_ ?_); exact rfl; exact rfl; (rw [HC0.out]; exact rfl); (intro w7 ho7 hg7; have HK7 := hid (HK5.out.put ho7 hg7); have HD7 := hid (HD5.out.grown hg7 (by intro e; injection e with e; have := HK5.out.ow.lt; have := HBd.out; omega)); have z7 := Blk.at HD7.out 1; simp only [DT.cells, List.getElem?_cons_zero, List.getElem?_cons_succ] at z7; clear HD7; clear ho7 hg7 HK5))
                    | ((with_reducible refine wpList_owned HK7.out.ow HpI.out _ _ rfl ?_ ?_ ?_ ?_); exact rfl; exact rfl; exact rfl; rw [HC1.out]))
                  all_goals exact ⟨⟨j + 1, 4, L ++ [p], by omega, by go_num, rfl, HSt2, HK7, HLn⟩, by simp [intOf]; omega⟩
                obtain rfl : c = 0 := by omega
                have HSt2 := hid (show StF n _ 0 R (L ++ [p]) by
                  have h := hold_step (Nat.le_refl n) (fun _ => rfl) HSt.out
                  have e : holdW2 (holdW n 0 p) p L = 0 := by rw [show holdW n 0 p = 0 from if_neg (by omega)]; exact if_neg (by rw [HC1.out]; omega)
                  rw [e] at h
                  exact h)
                clear HSt
                go_wp2_with (first
                  | ((with_reducible refine wpList_store_row rfl 42 _ _ rfl wr.heap.size (DT.mk dnm p).cells.toArray ?_ ?_ 42 #[.string ⟨#[]⟩, .int .i64 0] (heap_alloc_new wr _) HSz.out ?_ HOne.out ?_); exact rfl; exact rfl; exact rfl; rw [← HW4.out])
                  | ((with_reducible refine wpList_owned HK5.out.ow HpI.out _ _ rfl ?_ ?_ ?_ ?_); exact rfl; exact rfl; exact rfl; rw [HC0.out])
                  | ((with_reducible refine wpList_own1 HK5.out.ow HpI.out HLl.out _ _ _ rfl rfl ?_ ?_ ?_ ?_); exact rfl; exact rfl; (rw [HC0.out]; exact rfl); (intro w7 ho7 hg7; have HK7 := hid (HK5.out.put ho7 hg7); have HD7 := hid (HD5.out.grown hg7 (by intro e; injection e with e; have := HK5.out.ow.lt; have := HBd.out; omega)); have z7 := Blk.at HD7.out 1; simp only [DT.cells, List.getElem?_cons_zero, List.getElem?_cons_succ] at z7; clear HD7; clear ho7 hg7 HK5))
                  | ((with_reducible refine wpList_owned HK7.out.ow HpI.out _ _ rfl ?_ ?_ ?_ ?_); exact rfl; exact rfl; exact rfl; rw [HC1.out]))
                all_goals exact ⟨⟨j + 1, 0, L ++ [p], by omega, by go_num, rfl, HSt2, HK7, HLn⟩, by simp [intOf]; omega⟩
              · have hwi : ¬ (want : Int) = 0 := by omega
                have hwb : ((want : Int) == 0) = false := by simpa using hwi
                have HSt2 := hid (show StF n _ want R (L ++ [p]) by
                  have h := hold_step (Nat.le_refl n) (fun _ => rfl) HSt.out
                  have e : holdW2 (holdW n want p) p L = want := by rw [show holdW n want p = want from if_neg (fun h => hw0 h.1)]; exact if_neg (fun h => hw0 h.1)
                  rw [e] at h
                  exact h)
                clear HSt
                go_wp2_with (first
                  | ((with_reducible refine wpList_store_row rfl 42 _ _ rfl wr.heap.size (DT.mk dnm p).cells.toArray ?_ ?_ 42 #[.string ⟨#[]⟩, .int .i64 0] (heap_alloc_new wr _) HSz.out ?_ HOne.out ?_); exact rfl; exact rfl; exact rfl; rw [← HW4.out])
                  | ((with_reducible refine wpList_owned HK5.out.ow HpI.out _ _ rfl ?_ ?_ ?_ ?_); exact rfl; exact rfl; exact rfl; rw [HC0.out])
                  | ((with_reducible refine wpList_own1 HK5.out.ow HpI.out HLl.out _ _ _ rfl rfl ?_ ?_ ?_ ?_); exact rfl; exact rfl; (rw [HC0.out]; exact rfl); (intro w7 ho7 hg7; have HK7 := hid (HK5.out.put ho7 hg7); have HD7 := hid (HD5.out.grown hg7 (by intro e; injection e with e; have := HK5.out.ow.lt; have := HBd.out; omega)); have z7 := Blk.at HD7.out 1; simp only [DT.cells, List.getElem?_cons_zero, List.getElem?_cons_succ] at z7; clear HD7; clear ho7 hg7 HK5))
                  | ((with_reducible refine wpList_owned HK7.out.ow HpI.out _ _ rfl ?_ ?_ ?_ ?_); exact rfl; exact rfl; exact rfl; rw [HC1.out]))
                all_goals exact ⟨⟨j + 1, want, L ++ [p], by omega, by go_num, rfl, HSt2, HK7, HLn⟩, by simp [intOf]; omega⟩
            · obtain rfl : j = Dn := by omega
              have HT3 := hid (show StF n (fun l => finD (.ok l)) want R L from HSt.out.of (fun _ l _ => by
                show finD (hsF n l ((ds.map DT.ty).drop j)) = finD (.ok l)
                rw [List.drop_of_length_le (by rw [List.length_map]; exact Nat.le_of_eq HDn.out.symm)]
                rfl))
              clear HSt HLb
              have HT4 := hid (show StF n (lastF 0) want R L from HT3.out.of (fun _ l _ => rfl))
              clear HT3
              have y0 := Blk.at HK.out.bo 0
              have y1 := Blk.at HK.out.bo 1
              simp only [List.getElem?_cons_zero, List.getElem?_cons_succ] at y0 y1
              rw [HNe.out.1, HNe.out.2.1, HNe.out.2.2] at y0
              rw [HDe.out.1, HDe.out.2.1, HDe.out.2.2] at y1
              go_wp2_with fail
              go_loopw [3, 114] (fun wv i wr => ∃ (j want : Nat), j ≤ n ∧ i = .int .i64 j ∧ wv = .int .i64 (want : Int) ∧ Hid (StF n (lastF j) want R L) ∧ Hid (CkW w N D B L wr)) (fun _ i _ => n - (intOf i).toNat)
              case atStart => exact ⟨0, want, by omega, rfl, rfl, HT4, HK⟩
              case round =>
                clear HT4 HK y0 y1
                obtain ⟨j, want, hj, rfl, rfl, HSt, HK5⟩ := hrel
                by_cases hlt : j < n
                · have hlt' : (j : Int) < (n : Int) := by omega
                  have HSt2 := hid (last_step hlt HSt.out)
                  have HpI := hid (show I64 (j : Int) from ⟨by omega, by omega⟩)
                  obtain ⟨c, hc0⟩ : ∃ c, c = L.count (j : Int) := ⟨_, rfl⟩
                  have HC0 := hid hc0.symm
                  by_cases hw0 : want = 0
                  · subst hw0
                    by_cases hc : c = 0
                    · subst hc
                      have HSt3 := hid (show StF n (lastF (j + 1)) 3 R L by
                        have e : lastW 0 j L = 3 := if_pos ⟨rfl, HC0.out⟩
                        rw [← e]; exact HSt2.out)
                      clear HSt HSt2 hc0
                      go_wp2_with ((with_reducible refine wpList_owned HK5.out.ow HpI.out _ _ rfl ?_ ?_ ?_ ?_); exact rfl; exact rfl; exact rfl; rw [HC0.out])
                      all_goals exact ⟨⟨j + 1, 3, by omega, by go_num, rfl, HSt3, HK5⟩, by simp [intOf]; omega⟩
                    · have hci : ¬ (c : Int) = 0 := by omega
                      have hcb : ((c : Int) == 0) = false := by simpa using hci
                      have HSt3 := hid (show StF n (lastF (j + 1)) 0 R L by
                        have e : lastW 0 j L = 0 := if_neg (by rw [HC0.out]; omega)
                        have h := HSt2.out
                        rw [e] at h; exact h)
                      clear HSt HSt2 hc0
                      go_wp2_with ((with_reducible refine wpList_owned HK5.out.ow HpI.out _ _ rfl ?_ ?_ ?_ ?_); exact rfl; exact rfl; exact rfl; rw [HC0.out])
                      all_goals exact ⟨⟨j + 1, 0, by omega, by go_num, rfl, HSt3, HK5⟩, by simp [intOf]; omega⟩
                  · have hwi : ¬ (want : Int) = 0 := by omega
                    have hwb : ((want : Int) == 0) = false := by simpa using hwi
                    have HSt3 := hid (show StF n (lastF (j + 1)) want R L by
                      have e : lastW want j L = want := if_neg (fun h => hw0 h.1)
                      have h := HSt2.out
                      rw [e] at h; exact h)
                    clear HSt HSt2 hc0
                    go_wp2_with fail
                    all_goals exact ⟨⟨j + 1, want, by omega, by go_num, rfl, HSt3, HK5⟩, by simp [intOf]; omega⟩
                · obtain rfl : j = n := by omega
                  have HE := hid (last_end HSt.out)
                  have y0 := Blk.at HK5.out.bo 0
                  have y1 := Blk.at HK5.out.bo 1
                  simp only [List.getElem?_cons_zero, List.getElem?_cons_succ] at y0 y1
                  rw [HNe.out.1, HNe.out.2.1, HNe.out.2.2] at y0
                  rw [HDe.out.1, HDe.out.2.1, HDe.out.2.2] at y1
                  have HCk := hid (HChk.out wr HK5.out.bel)
                  rw [HE.out] at HCk
                  clear HSt
                  go_wp2_with (go_at_call 11; (with_reducible refine HCk.out.mono ?_); rintro e w9 ⟨rfl, hb9⟩; have HB9 := hid (HK5.out.bel.trans (hb9.mono HK5.out.bel.size)); clear hb9)
                  show RR (.returned (.bool true)) w9
                  rw [HRR.out]
                  exact ⟨rfl, HB9.out⟩
        · have hlt' : ¬ (0 : Int) < (n : Int) := by omega
          clear hlt
          have y0 := Blk.at HK.out.bo 0
          have y1 := Blk.at HK.out.bo 1
          simp only [List.getElem?_cons_zero, List.getElem?_cons_succ] at y0 y1
          rw [HNe.out.1, HNe.out.2.1, HNe.out.2.2] at y0
          rw [HDe.out.1, HDe.out.2.1, HDe.out.2.2] at y1
          go_wp2_with fail
          go_loopw [3, 77] (fun wv i wr => ∃ (j want : Nat) (L : List Int), j ≤ Dn ∧ i = .int .i64 j ∧ wv = .int .i64 (want : Int) ∧ Hid (StF n (fun l => finD (hsF n l ((ds.map DT.ty).drop j))) want R L) ∧ Hid (CkW w N D B L wr) ∧ Hid (L.length ≤ 400000 + j)) (fun _ i _ => Dn - (intOf i).toNat)
          case atStart => exact ⟨0, 2, [], by omega, rfl, rfl, HT, HK, HLb⟩
          case round =>
            have HN0 := hid hlt'
            clear hlt'
            clear HT HK HLb y0 y1
            obtain ⟨j, want, L, hj, rfl, rfl, HSt, HK, HLb⟩ := hrel
            by_cases hlt : j < Dn
            · have hlt' : (j : Int) < (Dn : Int) := by omega
              have hjd : j < ds.length := by rw [← HDn.out]; exact hlt
              obtain ⟨b1, o1, hA, hbl, _, e0, e1⟩ := def_cell2 (HO.out.d.keep HK.out.bel) hjd
              have hA' : DA = some ⟨b1, o1, none⟩ := by rw [← HDe.out.1]; exact hA
              obtain ⟨d, hd⟩ : ∃ d, d = ds[j] := ⟨_, rfl⟩
              rw [← hd] at e0 e1
              obtain ⟨dnm, p⟩ := d
              have HpI := hid (show I64 p by have := HDw.out _ (List.getElem_mem hjd); rw [← hd] at this; exact this)
              have HSt := hid (show StF n (fun l => finD (hsF n l (p :: (ds.map DT.ty).drop (j + 1)))) want R L from HSt.out.of (fun _ l _ => by
                rw [List.drop_eq_getElem_cons (by rw [List.length_map]; exact hjd), List.getElem_map, ← hd]))
              have HLl := hid (show L.length ≤ 1048576 by have := HLb.out; have := HDb.out; omega)
              have HLn := hid (show (L ++ [p]).length ≤ 400000 + (j + 1) by rw [List.length_append]; have := HLb.out; simp only [List.length_cons, List.length_nil]; omega)
              have hbx := row_new wr 42 #[.string ⟨#[]⟩, .int .i64 0] (DT.mk dnm p).cells.toArray
              have hX4 : Blk ((wr.alloc (.cells #[.string ⟨#[]⟩, .int .i64 0] 42)).setRow wr.heap.size (DT.mk dnm p).cells.toArray) wr.heap.size 42 (DT.mk dnm p).cells := setRow_heap _ _ _ _ _ (0, 0) (heap_alloc_new wr _)
              obtain ⟨W4, hW4⟩ : ∃ W4, W4 = (wr.alloc (.cells #[.string ⟨#[]⟩, .int .i64 0] 42)).setRow wr.heap.size (DT.mk dnm p).cells.toArray := ⟨_, rfl⟩
              rw [← hW4] at hbx hX4
              have HBd := hid (show B < wr.heap.size from HK.out.ow.lt)
              have HK5 := hid (HK.out.keep hbx)
              have HD5 := hid hX4
              have HW4 := hid hW4
              have HSz := hid (dt_size (DT.mk dnm p))
              have HOne := hid (dt_one (DT.mk dnm p))
              have z1 := Blk.at hX4 1
              have y0 := Blk.at HK5.out.bo 0
              simp only [DT.cells, List.getElem?_cons_zero, List.getElem?_cons_succ] at z1 y0
              rw [HNe.out.1, HNe.out.2.1, HNe.out.2.2] at y0
              obtain ⟨c, hc0⟩ : ∃ c, c = L.count p := ⟨_, rfl⟩
              have HC0 := hid hc0.symm
              have HC1 := hid (show (L ++ [p]).count p = c + 1 by rw [List.count_append, hc0]; simp)
              have hcb : c ≤ 1048576 := by rw [hc0]; exact Nat.le_trans List.count_le_length HLl.out
              clear hc0
              clear hbx hX4 hW4 hbl hA hd hjd HK HLb
              rw [hA'] at HChk ⊢
              by_cases hw0 : want = 0
              · subst hw0
                by_cases hp : p < 0
                · have HSt2 := hid (show StF n _ 3 R (L ++ [p]) by
                    have h := hold_step (Nat.le_refl n) (fun _ => rfl) HSt.out
                    have e : holdW2 (holdW n 0 p) p L = 3 := by rw [show holdW n 0 p = 3 from if_pos ⟨rfl, .inl hp⟩]; exact if_neg (by omega)
                    rw [e] at h
                    exact h)
                  clear HSt
                  go_wp2_with (first
                    | ((with_reducible refine wpList_store_row rfl 42 _ _ rfl wr.heap.size (DT.mk dnm p).cells.toArray ?_ ?_ 42 #[.string ⟨#[]⟩, .int .i64 0] (heap_alloc_new wr _) HSz.out ?_ HOne.out ?_); exact rfl; exact rfl; exact rfl; rw [← HW4.out])
                    | ((with_reducible refine wpList_owned HK5.out.ow HpI.out _ _ rfl ?_ ?_ ?_ ?_); exact rfl; exact rfl; exact rfl; rw [HC0.out])
                    | ((with_reducible refine wpList_own1 HK5.out.ow HpI.out HLl.out _ _ _ rfl rfl ?_ ?_ ?_ ?_); exact rfl; exact rfl; (rw [HC0.out]; exact rfl); (intro w7 ho7 hg7; have HK7 := hid (HK5.out.put ho7 hg7); have HD7 := hid (HD5.out.grown hg7 (by intro e; injection e with e; have := HK5.out.ow.lt; have := HBd.out; omega)); have z7 := Blk.at HD7.out 1; simp only [DT.cells, List.getElem?_cons_zero, List.getElem?_cons_succ] at z7; clear HD7; clear ho7 hg7 HK5))
                    | ((with_reducible refine wpList_owned HK7.out.ow HpI.out _ _ rfl ?_ ?_ ?_ ?_); exact rfl; exact rfl; exact rfl; rw [HC1.out]))
                  all_goals exact ⟨⟨j + 1, 3, L ++ [p], by omega, by go_num, rfl, HSt2, HK7, HLn⟩, by simp [intOf]; omega⟩
                by_cases hm : (n : Int) ≤ p
                · have HSt2 := hid (show StF n _ 3 R (L ++ [p]) by
                    have h := hold_step (Nat.le_refl n) (fun _ => rfl) HSt.out
                    have e : holdW2 (holdW n 0 p) p L = 3 := by rw [show holdW n 0 p = 3 from if_pos ⟨rfl, .inr hm⟩]; exact if_neg (by omega)
                    rw [e] at h
                    exact h)
                  clear HSt
                  go_wp2_with (first
                    | ((with_reducible refine wpList_store_row rfl 42 _ _ rfl wr.heap.size (DT.mk dnm p).cells.toArray ?_ ?_ 42 #[.string ⟨#[]⟩, .int .i64 0] (heap_alloc_new wr _) HSz.out ?_ HOne.out ?_); exact rfl; exact rfl; exact rfl; rw [← HW4.out])
                    | ((with_reducible refine wpList_owned HK5.out.ow HpI.out _ _ rfl ?_ ?_ ?_ ?_); exact rfl; exact rfl; exact rfl; rw [HC0.out])
                    | ((with_reducible refine wpList_own1 HK5.out.ow HpI.out HLl.out _ _ _ rfl rfl ?_ ?_ ?_ ?_); exact rfl; exact rfl; (rw [HC0.out]; exact rfl); (intro w7 ho7 hg7; have HK7 := hid (HK5.out.put ho7 hg7); have HD7 := hid (HD5.out.grown hg7 (by intro e; injection e with e; have := HK5.out.ow.lt; have := HBd.out; omega)); have z7 := Blk.at HD7.out 1; simp only [DT.cells, List.getElem?_cons_zero, List.getElem?_cons_succ] at z7; clear HD7; clear ho7 hg7 HK5))
                    | ((with_reducible refine wpList_owned HK7.out.ow HpI.out _ _ rfl ?_ ?_ ?_ ?_); exact rfl; exact rfl; exact rfl; rw [HC1.out]))
                  all_goals exact ⟨⟨j + 1, 3, L ++ [p], by omega, by go_num, rfl, HSt2, HK7, HLn⟩, by simp [intOf]; omega⟩
                exfalso
                have h0 := HN0.out
                omega
              · have hwi : ¬ (want : Int) = 0 := by omega
                have hwb : ((want : Int) == 0) = false := by simpa using hwi
                have HSt2 := hid (show StF n _ want R (L ++ [p]) by
                  have h := hold_step (Nat.le_refl n) (fun _ => rfl) HSt.out
                  have e : holdW2 (holdW n want p) p L = want := by rw [show holdW n want p = want from if_neg (fun h => hw0 h.1)]; exact if_neg (fun h => hw0 h.1)
                  rw [e] at h
                  exact h)
                clear HSt
                go_wp2_with (first
                  | ((with_reducible refine wpList_store_row rfl 42 _ _ rfl wr.heap.size (DT.mk dnm p).cells.toArray ?_ ?_ 42 #[.string ⟨#[]⟩, .int .i64 0] (heap_alloc_new wr _) HSz.out ?_ HOne.out ?_); exact rfl; exact rfl; exact rfl; rw [← HW4.out])
                  | ((with_reducible refine wpList_owned HK5.out.ow HpI.out _ _ rfl ?_ ?_ ?_ ?_); exact rfl; exact rfl; exact rfl; rw [HC0.out])
                  | ((with_reducible refine wpList_own1 HK5.out.ow HpI.out HLl.out _ _ _ rfl rfl ?_ ?_ ?_ ?_); exact rfl; exact rfl; (rw [HC0.out]; exact rfl); (intro w7 ho7 hg7; have HK7 := hid (HK5.out.put ho7 hg7); have HD7 := hid (HD5.out.grown hg7 (by intro e; injection e with e; have := HK5.out.ow.lt; have := HBd.out; omega)); have z7 := Blk.at HD7.out 1; simp only [DT.cells, List.getElem?_cons_zero, List.getElem?_cons_succ] at z7; clear HD7; clear ho7 hg7 HK5))
                  | ((with_reducible refine wpList_owned HK7.out.ow HpI.out _ _ rfl ?_ ?_ ?_ ?_); exact rfl; exact rfl; exact rfl; rw [HC1.out]))
                all_goals exact ⟨⟨j + 1, want, L ++ [p], by omega, by go_num, rfl, HSt2, HK7, HLn⟩, by simp [intOf]; omega⟩
            · obtain rfl : j = Dn := by omega
              have HT3 := hid (show StF n (fun l => finD (.ok l)) want R L from HSt.out.of (fun _ l _ => by
                show finD (hsF n l ((ds.map DT.ty).drop j)) = finD (.ok l)
                rw [List.drop_of_length_le (by rw [List.length_map]; exact Nat.le_of_eq HDn.out.symm)]
                rfl))
              clear HSt HLb
              have HT4 := hid (show StF n (lastF 0) want R L from HT3.out.of (fun _ l _ => rfl))
              clear HT3
              have y0 := Blk.at HK.out.bo 0
              have y1 := Blk.at HK.out.bo 1
              simp only [List.getElem?_cons_zero, List.getElem?_cons_succ] at y0 y1
              rw [HNe.out.1, HNe.out.2.1, HNe.out.2.2] at y0
              rw [HDe.out.1, HDe.out.2.1, HDe.out.2.2] at y1
              go_wp2_with fail
              go_loopw [3, 114] (fun wv i wr => ∃ (j want : Nat), j ≤ n ∧ i = .int .i64 j ∧ wv = .int .i64 (want : Int) ∧ Hid (StF n (lastF j) want R L) ∧ Hid (CkW w N D B L wr)) (fun _ i _ => n - (intOf i).toNat)
              case atStart => exact ⟨0, want, by omega, rfl, rfl, HT4, HK⟩
              case round =>
                clear HT4 HK y0 y1
                obtain ⟨j, want, hj, rfl, rfl, HSt, HK5⟩ := hrel
                by_cases hlt : j < n
                · have hlt' : (j : Int) < (n : Int) := by omega
                  have HSt2 := hid (last_step hlt HSt.out)
                  have HpI := hid (show I64 (j : Int) from ⟨by omega, by omega⟩)
                  obtain ⟨c, hc0⟩ : ∃ c, c = L.count (j : Int) := ⟨_, rfl⟩
                  have HC0 := hid hc0.symm
                  by_cases hw0 : want = 0
                  · subst hw0
                    by_cases hc : c = 0
                    · subst hc
                      have HSt3 := hid (show StF n (lastF (j + 1)) 3 R L by
                        have e : lastW 0 j L = 3 := if_pos ⟨rfl, HC0.out⟩
                        rw [← e]; exact HSt2.out)
                      clear HSt HSt2 hc0
                      go_wp2_with ((with_reducible refine wpList_owned HK5.out.ow HpI.out _ _ rfl ?_ ?_ ?_ ?_); exact rfl; exact rfl; exact rfl; rw [HC0.out])
                      all_goals exact ⟨⟨j + 1, 3, by omega, by go_num, rfl, HSt3, HK5⟩, by simp [intOf]; omega⟩
                    · have hci : ¬ (c : Int) = 0 := by omega
                      have hcb : ((c : Int) == 0) = false := by simpa using hci
                      have HSt3 := hid (show StF n (lastF (j + 1)) 0 R L by
                        have e : lastW 0 j L = 0 := if_neg (by rw [HC0.out]; omega)
                        have h := HSt2.out
                        rw [e] at h; exact h)
                      clear HSt HSt2 hc0
                      go_wp2_with ((with_reducible refine wpList_owned HK5.out.ow HpI.out _ _ rfl ?_ ?_ ?_ ?_); exact rfl; exact rfl; exact rfl; rw [HC0.out])
                      all_goals exact ⟨⟨j + 1, 0, by omega, by go_num, rfl, HSt3, HK5⟩, by simp [intOf]; omega⟩
                  · have hwi : ¬ (want : Int) = 0 := by omega
                    have hwb : ((want : Int) == 0) = false := by simpa using hwi
                    have HSt3 := hid (show StF n (lastF (j + 1)) want R L by
                      have e : lastW want j L = want := if_neg (fun h => hw0 h.1)
                      have h := HSt2.out
                      rw [e] at h; exact h)
                    clear HSt HSt2 hc0
                    go_wp2_with fail
                    all_goals exact ⟨⟨j + 1, want, by omega, by go_num, rfl, HSt3, HK5⟩, by simp [intOf]; omega⟩
                · obtain rfl : j = n := by omega
                  have HE := hid (last_end HSt.out)
                  have y0 := Blk.at HK5.out.bo 0
                  have y1 := Blk.at HK5.out.bo 1
                  simp only [List.getElem?_cons_zero, List.getElem?_cons_succ] at y0 y1
                  rw [HNe.out.1, HNe.out.2.1, HNe.out.2.2] at y0
                  rw [HDe.out.1, HDe.out.2.1, HDe.out.2.2] at y1
                  have HCk := hid (HChk.out wr HK5.out.bel)
                  rw [HE.out] at HCk
                  clear HSt
                  go_wp2_with (go_at_call 11; (with_reducible refine HCk.out.mono ?_); rintro e w9 ⟨rfl, hb9⟩; have HB9 := hid (HK5.out.bel.trans (hb9.mono HK5.out.bel.size)); clear hb9)
                  show RR (.returned (.bool true)) w9
                  rw [HRR.out]
                  exact ⟨rfl, HB9.out⟩
    have hd64' : ¬ (64 : Int) < (Dn : Int) := by omega
    have HT0 := hid (show StF n (fun l => finS n ds (ckN 0 l (vs.drop 0))) 0 R [] from .inl ⟨rfl, List.replicate n false, by simp, (fun i hi => by rw [List.length_replicate] at hi; rw [List.getElem?_replicate_of_lt hi]; simp), by simp, by
      rw [HR.out]
      unfold ckS
      rw [if_neg (by rw [← HNn.out, ← HDn.out]; omega), ← HNn.out]
      rfl⟩)
    have HL0 := hid (show ([] : List Int).length ≤ 1000 * 0 by simp)
    go_enter Try.func3, Try.ntmps3
    go_upto_region 1 with (fail)
    generalize w.alloc (.cells #[.slice NA n Nc, .slice DA Dn Dc] 25) = w1 at *
    go_upto_region 9 with (first
      | (go_at_call 7; (with_reducible refine (builds_any _).mono ?_); rintro e w2 ⟨rfl, hb2⟩; have HB2 := hid (HB.out.trans (hb2.mono HB.out.size)); have HX2 := hid (HX.out.keep hb2); clear hb2 HB HX; have y0 := Blk.at HX2.out 0; have y1 := Blk.at HX2.out 1; simp only [List.getElem?_cons_zero, List.getElem?_cons_succ] at y0 y1)
      | (go_at_call 8; (with_reducible refine (HSm.out _ HB2.out).mono ?_); rintro e w3 ⟨rfl, hb3⟩; have HB3 := hid (HB2.out.trans (hb3.mono HB2.out.size)); have HX3 := hid (HX2.out.keep hb3); clear hb3 HB2 HX2 y0 y1; have y0 := (Blk.at HX3.out 0); have y1 := (Blk.at HX3.out 1); simp only [List.getElem?_cons_zero, List.getElem?_cons_succ] at y0 y1; have HX3b := hid (HX3.out.alloc (.map #[] 0)); have q1 := Blk.at HX3b.out 1; have q0 := Blk.at HX3b.out 0; simp only [List.getElem?_cons_zero, List.getElem?_cons_succ] at q0 q1))
    have HK := hid (show CkW w N D w3.heap.size [] (w3.alloc (.map #[] 0)) from ⟨HB3.out.alloc HB3.out.size _, by rw [HNe.out.1, HNe.out.2.1, HNe.out.2.2, HDe.out.1, HDe.out.2.1, HDe.out.2.2]; exact HX3b.out, Owners.made w3, HX3.out.lt⟩)
    obtain ⟨B, hB⟩ : ∃ B, B = w3.heap.size := ⟨_, rfl⟩
    rw [← hB] at HK ⊢
    clear hB q0 q1 HX3b y0 y1 HX3 HB3
    generalize w3.alloc (.map #[] 0) = w4 at *
    have y0 := Blk.at HK.out.bo 0
    have y1 := Blk.at HK.out.bo 1
    simp only [List.getElem?_cons_zero, List.getElem?_cons_succ] at y0 y1
    rw [HNe.out.1, HNe.out.2.1, HNe.out.2.2] at y0
    rw [HDe.out.1, HDe.out.2.1, HDe.out.2.2] at y1
    go_wp2_with fail
    go_loopw [3, 31] (fun wv i wr => ∃ (j want : Nat) (L : List Int), j ≤ n ∧ i = .int .i64 j ∧ wv = .int .i64 (want : Int) ∧ Hid (StF n (fun l => finS n ds (ckN j l (vs.drop j))) want R L) ∧ Hid (CkW w N D B L wr) ∧ Hid (L.length ≤ 1000 * j)) (fun _ i _ => n - (intOf i).toNat)
    case atStart => exact ⟨0, 0, [], by omega, rfl, rfl, HT0, HK, HL0⟩
    case round =>
      clear HT0 HK HL0 y0 y1
      obtain ⟨j, want, L, hj, rfl, rfl, HSt, HK, HLq⟩ := hrel
      by_cases hlt : j < n
      · have hlt' : (j : Int) < (n : Int) := by omega
        have hjn := hlt
        have hjv : j < vs.length := by rw [← HNn.out]; exact hlt
        obtain ⟨b, o, hA, hbl, hPb, hrg⟩ := rw_range HO.out.n hjv
        have hA' : NA = some ⟨b, o, none⟩ := by rw [← HNe.out.1]; exact hA
        have HRg := hid (range_keep hrg (HK.out.bel.block b hbl))
        obtain ⟨v, hv⟩ : ∃ v, v = vs[j] := ⟨_, rfl⟩
        rw [← hv] at HRg
        have hbx := row_new wr 38 #[.int .i64 0, .int .i64 0, .bool false, .bool false, .bool false, .int .u64 0, .int .u64 0, .string ⟨#[]⟩, .string ⟨#[]⟩, .int .u64 0, .int .u64 0, .slice none 0 0, .slice none 0 0, .slice none 0 0, .string ⟨#[]⟩, .int .u64 0, .slice none 0 0, .int .i64 0] v.cells.toArray
        have HN5 := hid (show NBox ((wr.alloc (.cells #[.int .i64 0, .int .i64 0, .bool false, .bool false, .bool false, .int .u64 0, .int .u64 0, .string ⟨#[]⟩, .string ⟨#[]⟩, .int .u64 0, .int .u64 0, .slice none 0 0, .slice none 0 0, .slice none 0 0, .string ⟨#[]⟩, .int .u64 0, .slice none 0 0, .int .i64 0] 38)).setRow wr.heap.size v.cells.toArray) wr.heap.size v.cells.toArray v from ⟨setRow_heap _ _ _ _ _ (0, 0) (heap_alloc_new wr _), rfl⟩)
        have HK5 := hid (HK.out.keep hbx)
        have HSz := hid (nv_size v)
        have HOne := hid (nv_one v)
        have HLen := hid (show v.cells.length = 18 from rfl)
        have HWr := hid (fun W => wrong_any v W)
        rw [NV.val_eq] at HWr
        have hmem : v ∈ vs := by rw [hv]; exact List.getElem_mem _
        have HV := hid (And.intro hv hmem)
        have HJ := hid hjv
        clear hrg hbl hPb hv hmem hA hbx HK
        rw [hA'] at HChk ⊢
        by_cases hw0 : want = 0
        · subst hw0
          obtain ⟨cv, hcv⟩ : ∃ cv, cv = ckV v := ⟨_, rfl⟩
          rw [← hcv] at HWr
          by_cases hc : cv = 0
          · have HG := hid (show StF n (fun l => finS n ds (match hsF j l (v.t.parts.drop 0) with | .error c => .error c | .ok l' => ckN (j + 1) l' (vs.drop (j + 1)))) 0 R L by
              have h := ck_good HJ.out HSt.out (by rw [← HV.out.1, ← hcv, hc])
              rw [← HV.out.1] at h
              exact h)
            subst hc
            clear HSt hcv
            have HLk := hid (fun W (hb : Below w.heap.size w W) => lkids_any v W ((HO.out.each v HV.out.2).keep hb) (HFt.out v HV.out.2))
            rw [NV.val_eq] at HLk
            obtain ⟨ps, hps⟩ : ∃ ps, ps = v.t.parts := ⟨_, rfl⟩
            rw [← hps] at HLk HG
            have HPw := hid (show ∀ p ∈ ps, I64 p by rw [hps]; exact (HWf.out v HV.out.2).parts)
            obtain ⟨m, hm0⟩ : ∃ m, m = ps.length := ⟨_, rfl⟩
            rw [← hm0] at HLk
            have HM := hid hm0
            have HMb := hid (show m ≤ 1000 by rw [hm0, hps]; exact parts_le3 (HFs.out v HV.out.2))
            have hmb : m ≤ 1000 := HMb.out
            have HLb := hid (show L.length ≤ 1000 * j + 0 from HLq.out)
            clear hps hm0 HLq
            go_upto_region 16 with (first
              | ((with_reducible refine wpList_load_mid rfl 38 _ rfl b (o + j * 18) ?_ v.cells _ HRg.out Try.underlying38 ?_ ?_ ?_); exact rfl; exact rfl; (rw [HLen.out]; kernel_rfl))
              | ((with_reducible refine wpList_store_row rfl 38 _ _ rfl wr.heap.size v.cells.toArray ?_ ?_ 38 #[.int .i64 0, .int .i64 0, .bool false, .bool false, .bool false, .int .u64 0, .int .u64 0, .string ⟨#[]⟩, .string ⟨#[]⟩, .int .u64 0, .int .u64 0, .slice none 0 0, .slice none 0 0, .slice none 0 0, .string ⟨#[]⟩, .int .u64 0, .slice none 0 0, .int .i64 0] (heap_alloc_new wr _) HSz.out ?_ HOne.out ?_); exact rfl; exact rfl; exact rfl; generalize (wr.alloc (.cells #[.int .i64 0, .int .i64 0, .bool false, .bool false, .bool false, .int .u64 0, .int .u64 0, .string ⟨#[]⟩, .string ⟨#[]⟩, .int .u64 0, .int .u64 0, .slice none 0 0, .slice none 0 0, .slice none 0 0, .string ⟨#[]⟩, .int .u64 0, .slice none 0 0, .int .i64 0] 38)).setRow wr.heap.size v.cells.toArray = w5 at *)
              | ((with_reducible refine wpList_load_node _ rfl HN5.out ?_ ?_ ?_); exact rfl; exact rfl)
              | (go_at_call 9; (with_reducible refine (HWr.out _).mono ?_); rintro e w6 ⟨rfl, hb6⟩; have HK6 := hid (HK5.out.keep hb6); have HN6 := hid (HN5.out.keep hb6); clear hb6 HK5 HN5)
              | ((with_reducible refine wpList_load_node _ rfl HN6.out ?_ ?_ ?_); exact rfl; exact rfl)
              | (go_at_call 10; (with_reducible refine (HLk.out _ HK6.out.bel).mono ?_); rintro e w8 ⟨Ar, cr, rfl, hb8, ho8⟩; have HRw := hid (owns_base ho8 HK6.out.bel.size); have HK8 := hid (HK6.out.keep hb8); clear hb8 ho8 HK6 HN6))
            have HK6 := HK8
            clear HK8
            have HT := hid (show StF n (fun l => finS n ds (match hsF j l (ps.drop 0) with | .error c => .error c | .ok l' => ckN (j + 1) l' (vs.drop (j + 1)))) 0 R L from HG.out)
            go_wp2_with fail
            go_loopw [3, 45] (fun wv i wr => ∃ (q want : Nat) (L : List Int), q ≤ m ∧ i = .int .i64 q ∧ wv = .int .i64 (want : Int) ∧ Hid (StF n (fun l => finS n ds (match hsF j l (ps.drop q) with | .error c => .error c | .ok l' => ckN (j + 1) l' (vs.drop (j + 1)))) want R L) ∧ Hid (CkW w N D B L wr) ∧ Hid (wr.ownsRow w.heap.size 3 1 (.slice Ar m cr) m (intC ps)) ∧ Hid (L.length ≤ 1000 * j + q)) (fun _ i _ => m - (intOf i).toNat)
            case atStart => exact ⟨0, 0, L, by omega, rfl, rfl, HT, HK6, HRw, HLb⟩
            case round =>
              clear HT HK6 HRw HLb HG
              obtain ⟨q, want, L, hq, rfl, rfl, HSt, HK5, HRw, HLb⟩ := hrel
              by_cases hlt : q < m
              · have hlt' : (q : Int) < (m : Int) := by omega
                have hqp : q < ps.length := by rw [← HM.out]; exact hlt
                obtain ⟨p, hp0⟩ : ∃ p, p = ps[q] := ⟨_, rfl⟩
                obtain ⟨br, hAr, hrc⟩ := row_cell HRw.out hqp
                rw [← hp0] at hrc
                have HpI := hid (show I64 p by rw [hp0]; exact HPw.out _ (List.getElem_mem hqp))
                have HSt := hid (show StF n (fun l => finS n ds (match hsF j l (p :: ps.drop (q + 1)) with | .error c => .error c | .ok l' => ckN (j + 1) l' (vs.drop (j + 1)))) want R L from HSt.out.of (fun _ l _ => by
                  rw [List.drop_eq_getElem_cons hqp, hp0]))
                have HLl := hid (show L.length ≤ 1048576 by have := HLb.out; have := HMb.out; have := HNb.out; omega)
                have HLn := hid (show (L ++ [p]).length ≤ 1000 * j + (q + 1) by rw [List.length_append]; have := HLb.out; simp only [List.length_cons, List.length_nil]; omega)
                obtain ⟨c, hc0⟩ : ∃ c, c = L.count p := ⟨_, rfl⟩
                have HC0 := hid hc0.symm
                have HC1 := hid (show (L ++ [p]).count p = c + 1 by rw [List.count_append, hc0]; simp)
                have hcb : c ≤ 1048576 := by rw [hc0]; exact Nat.le_trans List.count_le_length HLl.out
                clear hc0
                clear hp0 hqp HLb
                rw [hAr]
                by_cases hw0 : want = 0
                · subst hw0
                  by_cases hp : p < 0
                  · have HSt2 := hid (show StF n _ 3 R (L ++ [p]) by
                      have h := hold_step (G := fun e => finS n ds (match e with | .error c => .error c | .ok l2 => ckN (j + 1) l2 (vs.drop (j + 1)))) (Nat.le_of_lt hjn) (fun _ => rfl) HSt.out
                      have e : holdW2 (holdW j 0 p) p L = 3 := by rw [show holdW j 0 p = 3 from if_pos ⟨rfl, .inl hp⟩]; exact if_neg (by omega)
                      rw [e] at h
                      exact h)
                    clear HSt
                    go_wp2_with (first
                      | ((with_reducible refine wpList_owned HK5.out.ow HpI.out _ _ rfl ?_ ?_ ?_ ?_); exact rfl; exact rfl; exact rfl; rw [HC0.out])
                      | ((with_reducible refine wpList_own1 HK5.out.ow HpI.out HLl.out _ _ _ rfl rfl ?_ ?_ ?_ ?_); exact rfl; exact rfl; (rw [HC0.out]; exact rfl); (intro w7 ho7 hg7; have HK7 := hid (HK5.out.put ho7 hg7); have HRw7 := hid (row_put HK5.out.ow HRw.out hg7); clear HRw; clear ho7 hg7 HK5))
                      | ((with_reducible refine wpList_owned HK7.out.ow HpI.out _ _ rfl ?_ ?_ ?_ ?_); exact rfl; exact rfl; exact rfl; rw [HC1.out]))
                    all_goals exact ⟨⟨q + 1, 3, L ++ [p], by omega, by go_num, rfl, HSt2, HK7, by have := HRw7.out; rw [hAr] at this; exact hid this, HLn⟩, by simp [intOf]; omega⟩
                  by_cases hm : (j : Int) ≤ p
                  · have HSt2 := hid (show StF n _ 3 R (L ++ [p]) by
                      have h := hold_step (G := fun e => finS n ds (match e with | .error c => .error c | .ok l2 => ckN (j + 1) l2 (vs.drop (j + 1)))) (Nat.le_of_lt hjn) (fun _ => rfl) HSt.out
                      have e : holdW2 (holdW j 0 p) p L = 3 := by rw [show holdW j 0 p = 3 from if_pos ⟨rfl, .inr hm⟩]; exact if_neg (by omega)
                      rw [e] at h
                      exact h)
                    clear HSt
                    go_wp2_with (first
                      | ((with_reducible refine wpList_owned HK5.out.ow HpI.out _ _ rfl ?_ ?_ ?_ ?_); exact rfl; exact rfl; exact rfl; rw [HC0.out])
                      | ((with_reducible refine wpList_own1 HK5.out.ow HpI.out HLl.out _ _ _ rfl rfl ?_ ?_ ?_ ?_); exact rfl; exact rfl; (rw [HC0.out]; exact rfl); (intro w7 ho7 hg7; have HK7 := hid (HK5.out.put ho7 hg7); have HRw7 := hid (row_put HK5.out.ow HRw.out hg7); clear HRw; clear ho7 hg7 HK5))
                      | ((with_reducible refine wpList_owned HK7.out.ow HpI.out _ _ rfl ?_ ?_ ?_ ?_); exact rfl; exact rfl; exact rfl; rw [HC1.out]))
                    all_goals exact ⟨⟨q + 1, 3, L ++ [p], by omega, by go_num, rfl, HSt2, HK7, by have := HRw7.out; rw [hAr] at this; exact hid this, HLn⟩, by simp [intOf]; omega⟩
                  by_cases hc : 0 < c
                  · have hc' : (1 : Int) < ((c : Int) + 1) := by omega
                    have HSt2 := hid (show StF n _ 4 R (L ++ [p]) by
                      have h := hold_step (G := fun e => finS n ds (match e with | .error c => .error c | .ok l2 => ckN (j + 1) l2 (vs.drop (j + 1)))) (Nat.le_of_lt hjn) (fun _ => rfl) HSt.out
                      have e : holdW2 (holdW j 0 p) p L = 4 := by rw [show holdW j 0 p = 0 from if_neg (by omega)]; exact if_pos ⟨rfl, by rw [HC1.out]; omega⟩
                      rw [e] at h
                      exact h)
                    clear HSt
                    go_wp2_with (first
                      | ((with_reducible refine wpList_owned HK5.out.ow HpI.out _ _ rfl ?_ ?_ ?_ ?_); exact rfl; exact rfl; exact rfl; rw [HC0.out])
                      | ((with_reducible refine wpList_own1 HK5.out.ow HpI.out HLl.out _ _ _ rfl rfl ?_ ?_ ?_ ?_); exact rfl; exact rfl; (rw [HC0.out]; exact rfl); (intro w7 ho7 hg7; have HK7 := hid (HK5.out.put ho7 hg7); have HRw7 := hid (row_put HK5.out.ow HRw.out hg7); clear HRw; clear ho7 hg7 HK5))
                      | ((with_reducible refine wpList_owned HK7.out.ow HpI.out _ _ rfl ?_ ?_ ?_ ?_); exact rfl; exact rfl; exact rfl; rw [HC1.out]))
                    all_goals exact ⟨⟨q + 1, 4, L ++ [p], by omega, by go_num, rfl, HSt2, HK7, by have := HRw7.out; rw [hAr] at this; exact hid this, HLn⟩, by simp [intOf]; omega⟩
                  obtain rfl : c = 0 := by omega
                  have HSt2 := hid (show StF n _ 0 R (L ++ [p]) by
                    have h := hold_step (G := fun e => finS n ds (match e with | .error c => .error c | .ok l2 => ckN (j + 1) l2 (vs.drop (j + 1)))) (Nat.le_of_lt hjn) (fun _ => rfl) HSt.out
                    have e : holdW2 (holdW j 0 p) p L = 0 := by rw [show holdW j 0 p = 0 from if_neg (by omega)]; exact if_neg (by rw [HC1.out]; omega)
                    rw [e] at h
                    exact h)
                  clear HSt
                  go_wp2_with (first
                    | ((with_reducible refine wpList_owned HK5.out.ow HpI.out _ _ rfl ?_ ?_ ?_ ?_); exact rfl; exact rfl; exact rfl; rw [HC0.out])
                    | ((with_reducible refine wpList_own1 HK5.out.ow HpI.out HLl.out _ _ _ rfl rfl ?_ ?_ ?_ ?_); exact rfl; exact rfl; (rw [HC0.out]; exact rfl); (intro w7 ho7 hg7; have HK7 := hid (HK5.out.put ho7 hg7); have HRw7 := hid (row_put HK5.out.ow HRw.out hg7); clear HRw; clear ho7 hg7 HK5))
                    | ((with_reducible refine wpList_owned HK7.out.ow HpI.out _ _ rfl ?_ ?_ ?_ ?_); exact rfl; exact rfl; exact rfl; rw [HC1.out]))
                  all_goals exact ⟨⟨q + 1, 0, L ++ [p], by omega, by go_num, rfl, HSt2, HK7, by have := HRw7.out; rw [hAr] at this; exact hid this, HLn⟩, by simp [intOf]; omega⟩
                · have hwi : ¬ (want : Int) = 0 := by omega
                  have hwb : ((want : Int) == 0) = false := by simpa using hwi
                  have HSt2 := hid (show StF n _ want R (L ++ [p]) by
                    have h := hold_step (G := fun e => finS n ds (match e with | .error c => .error c | .ok l2 => ckN (j + 1) l2 (vs.drop (j + 1)))) (Nat.le_of_lt hjn) (fun _ => rfl) HSt.out
                    have e : holdW2 (holdW j want p) p L = want := by rw [show holdW j want p = want from if_neg (fun h => hw0 h.1)]; exact if_neg (fun h => hw0 h.1)
                    rw [e] at h
                    exact h)
                  clear HSt
                  go_wp2_with (first
                    | ((with_reducible refine wpList_owned HK5.out.ow HpI.out _ _ rfl ?_ ?_ ?_ ?_); exact rfl; exact rfl; exact rfl; rw [HC0.out])
                    | ((with_reducible refine wpList_own1 HK5.out.ow HpI.out HLl.out _ _ _ rfl rfl ?_ ?_ ?_ ?_); exact rfl; exact rfl; (rw [HC0.out]; exact rfl); (intro w7 ho7 hg7; have HK7 := hid (HK5.out.put ho7 hg7); have HRw7 := hid (row_put HK5.out.ow HRw.out hg7); clear HRw; clear ho7 hg7 HK5))
                    | ((with_reducible refine wpList_owned HK7.out.ow HpI.out _ _ rfl ?_ ?_ ?_ ?_); exact rfl; exact rfl; exact rfl; rw [HC1.out]))
                  all_goals exact ⟨⟨q + 1, want, L ++ [p], by omega, by go_num, rfl, HSt2, HK7, by have := HRw7.out; rw [hAr] at this; exact hid this, HLn⟩, by simp [intOf]; omega⟩
              · obtain rfl : q = m := by omega
                have HT3 := hid (show StF n (fun l => finS n ds (ckN (j + 1) l (vs.drop (j + 1)))) want R L from HSt.out.of (fun _ l _ => by
                  show finS n ds (match hsF j l (ps.drop q) with | .error c => .error c | .ok l' => ckN (j + 1) l' (vs.drop (j + 1))) = _
                  rw [List.drop_of_length_le (Nat.le_of_eq HM.out.symm)]
                  rfl))
                have HLo := hid (show L.length ≤ 1000 * (j + 1) by have := HLb.out; have := HMb.out; omega)
                clear HSt HLb
                go_wp2_with fail
                all_goals exact ⟨⟨j + 1, want, L, by omega, by go_num, rfl, HT3, (by have := HK5.out; exact hid this), HLo⟩, by simp [intOf]; omega⟩
          · have hwi : ¬ (cv : Int) = 0 := by omega
            have hwb : ((cv : Int) != 0) = true := by simpa using hwi
            have hw0 : cv ≠ 0 := hc
            have HSt2 := hid (show StF n (fun l => finS n ds (ckN j l (vs.drop j))) cv R L by
              have h := ck_bad HJ.out HSt.out (by rw [← HV.out.1, ← hcv]; exact hc) (fun l => finS n ds (ckN j l (vs.drop j)))
              rw [← HV.out.1, ← hcv] at h
              exact h)
            clear HSt
            have HSt := HSt2
            clear HSt2 hcv
            obtain ⟨want, hwant⟩ : ∃ want, want = cv := ⟨_, rfl⟩
            rw [← hwant] at HSt HWr hwi hwb hw0 hc
            clear hwant
            go_upto_region 25 with (first
              | ((with_reducible refine wpList_load_mid rfl 38 _ rfl b (o + j * 18) ?_ v.cells _ HRg.out Try.underlying38 ?_ ?_ ?_); exact rfl; exact rfl; (rw [HLen.out]; kernel_rfl))
              | ((with_reducible refine wpList_store_row rfl 38 _ _ rfl wr.heap.size v.cells.toArray ?_ ?_ 38 #[.int .i64 0, .int .i64 0, .bool false, .bool false, .bool false, .int .u64 0, .int .u64 0, .string ⟨#[]⟩, .string ⟨#[]⟩, .int .u64 0, .int .u64 0, .slice none 0 0, .slice none 0 0, .slice none 0 0, .string ⟨#[]⟩, .int .u64 0, .slice none 0 0, .int .i64 0] (heap_alloc_new wr _) HSz.out ?_ HOne.out ?_); exact rfl; exact rfl; exact rfl; generalize (wr.alloc (.cells #[.int .i64 0, .int .i64 0, .bool false, .bool false, .bool false, .int .u64 0, .int .u64 0, .string ⟨#[]⟩, .string ⟨#[]⟩, .int .u64 0, .int .u64 0, .slice none 0 0, .slice none 0 0, .slice none 0 0, .string ⟨#[]⟩, .int .u64 0, .slice none 0 0, .int .i64 0] 38)).setRow wr.heap.size v.cells.toArray = w5 at *)
              | ((with_reducible refine wpList_load_node _ rfl HN5.out ?_ ?_ ?_); exact rfl; exact rfl)
              | (go_at_call 9; (with_reducible refine (HWr.out _).mono ?_); rintro e w6 ⟨rfl, hb6⟩; have HK6 := hid (HK5.out.keep hb6); clear hb6 HK5 HN5))
            have HK := HK6
            clear HK6
            have HT := hid (show StF n (fun l => finD (hsF n l ((ds.map DT.ty).drop 0))) want R L from HSt.out.bad hw0)
            have HLb := hid (show L.length ≤ 400000 by have := HLq.out; have := HNb.out; omega)
            clear HSt HLq
            have y0 := Blk.at HK.out.bo 0
            have y1 := Blk.at HK.out.bo 1
            simp only [List.getElem?_cons_zero, List.getElem?_cons_succ] at y0 y1
            rw [HNe.out.1, HNe.out.2.1, HNe.out.2.2] at y0
            rw [HDe.out.1, HDe.out.2.1, HDe.out.2.2] at y1
            go_wp2_with fail
            go_loopw [3, 77] (fun wv i wr => ∃ (j want : Nat) (L : List Int), j ≤ Dn ∧ i = .int .i64 j ∧ wv = .int .i64 (want : Int) ∧ Hid (StF n (fun l => finD (hsF n l ((ds.map DT.ty).drop j))) want R L) ∧ Hid (CkW w N D B L wr) ∧ Hid (L.length ≤ 400000 + j)) (fun _ i _ => Dn - (intOf i).toNat)
            case atStart => exact ⟨0, want, L, by omega, rfl, rfl, HT, HK, HLb⟩
            case round =>
              clear HT HK HLb y0 y1
              obtain ⟨j, want, L, hj, rfl, rfl, HSt, HK, HLb⟩ := hrel
              by_cases hlt : j < Dn
              · have hlt' : (j : Int) < (Dn : Int) := by omega
                have hjd : j < ds.length := by rw [← HDn.out]; exact hlt
                obtain ⟨b1, o1, hA, hbl, _, e0, e1⟩ := def_cell2 (HO.out.d.keep HK.out.bel) hjd
                have hA' : DA = some ⟨b1, o1, none⟩ := by rw [← HDe.out.1]; exact hA
                obtain ⟨d, hd⟩ : ∃ d, d = ds[j] := ⟨_, rfl⟩
                rw [← hd] at e0 e1
                obtain ⟨dnm, p⟩ := d
                have HpI := hid (show I64 p by have := HDw.out _ (List.getElem_mem hjd); rw [← hd] at this; exact this)
                have HSt := hid (show StF n (fun l => finD (hsF n l (p :: (ds.map DT.ty).drop (j + 1)))) want R L from HSt.out.of (fun _ l _ => by
                  rw [List.drop_eq_getElem_cons (by rw [List.length_map]; exact hjd), List.getElem_map, ← hd]))
                have HLl := hid (show L.length ≤ 1048576 by have := HLb.out; have := HDb.out; omega)
                have HLn := hid (show (L ++ [p]).length ≤ 400000 + (j + 1) by rw [List.length_append]; have := HLb.out; simp only [List.length_cons, List.length_nil]; omega)
                have hbx := row_new wr 42 #[.string ⟨#[]⟩, .int .i64 0] (DT.mk dnm p).cells.toArray
                have hX4 : Blk ((wr.alloc (.cells #[.string ⟨#[]⟩, .int .i64 0] 42)).setRow wr.heap.size (DT.mk dnm p).cells.toArray) wr.heap.size 42 (DT.mk dnm p).cells := setRow_heap _ _ _ _ _ (0, 0) (heap_alloc_new wr _)
                obtain ⟨W4, hW4⟩ : ∃ W4, W4 = (wr.alloc (.cells #[.string ⟨#[]⟩, .int .i64 0] 42)).setRow wr.heap.size (DT.mk dnm p).cells.toArray := ⟨_, rfl⟩
                rw [← hW4] at hbx hX4
                have HBd := hid (show B < wr.heap.size from HK.out.ow.lt)
                have HK5 := hid (HK.out.keep hbx)
                have HD5 := hid hX4
                have HW4 := hid hW4
                have HSz := hid (dt_size (DT.mk dnm p))
                have HOne := hid (dt_one (DT.mk dnm p))
                have z1 := Blk.at hX4 1
                have y0 := Blk.at HK5.out.bo 0
                simp only [DT.cells, List.getElem?_cons_zero, List.getElem?_cons_succ] at z1 y0
                rw [HNe.out.1, HNe.out.2.1, HNe.out.2.2] at y0
                obtain ⟨c, hc0⟩ : ∃ c, c = L.count p := ⟨_, rfl⟩
                have HC0 := hid hc0.symm
                have HC1 := hid (show (L ++ [p]).count p = c + 1 by rw [List.count_append, hc0]; simp)
                have hcb : c ≤ 1048576 := by rw [hc0]; exact Nat.le_trans List.count_le_length HLl.out
                clear hc0
                clear hbx hX4 hW4 hbl hA hd hjd HK HLb
                rw [hA'] at HChk ⊢
                by_cases hw0 : want = 0
                · subst hw0
                  by_cases hp : p < 0
                  · have HSt2 := hid (show StF n _ 3 R (L ++ [p]) by
                      have h := hold_step (Nat.le_refl n) (fun _ => rfl) HSt.out
                      have e : holdW2 (holdW n 0 p) p L = 3 := by rw [show holdW n 0 p = 3 from if_pos ⟨rfl, .inl hp⟩]; exact if_neg (by omega)
                      rw [e] at h
                      exact h)
                    clear HSt
                    go_wp2_with (first
                      | ((with_reducible refine wpList_store_row rfl 42 _ _ rfl wr.heap.size (DT.mk dnm p).cells.toArray ?_ ?_ 42 #[.string ⟨#[]⟩, .int .i64 0] (heap_alloc_new wr _) HSz.out ?_ HOne.out ?_); exact rfl; exact rfl; exact rfl; rw [← HW4.out])
                      | ((with_reducible refine wpList_owned HK5.out.ow HpI.out _ _ rfl ?_ ?_ ?_ ?_); exact rfl; exact rfl; exact rfl; rw [HC0.out])
                      | ((with_reducible refine wpList_own1 HK5.out.ow HpI.out HLl.out _ _ _ rfl rfl ?_ ?_ ?_ ?_); exact rfl; exact rfl; (rw [HC0.out]; exact rfl); (intro w7 ho7 hg7; have HK7 := hid (HK5.out.put ho7 hg7); have HD7 := hid (HD5.out.grown hg7 (by intro e; injection e with e; have := HK5.out.ow.lt; have := HBd.out; omega)); have z7 := Blk.at HD7.out 1; simp only [DT.cells, List.getElem?_cons_zero, List.getElem?_cons_succ] at z7; clear HD7; clear ho7 hg7 HK5))
                      | ((with_reducible refine wpList_owned HK7.out.ow HpI.out _ _ rfl ?_ ?_ ?_ ?_); exact rfl; exact rfl; exact rfl; rw [HC1.out]))
                    all_goals exact ⟨⟨j + 1, 3, L ++ [p], by omega, by go_num, rfl, HSt2, HK7, HLn⟩, by simp [intOf]; omega⟩
                  by_cases hm : (n : Int) ≤ p
                  · have HSt2 := hid (show StF n _ 3 R (L ++ [p]) by
                      have h := hold_step (Nat.le_refl n) (fun _ => rfl) HSt.out
                      have e : holdW2 (holdW n 0 p) p L = 3 := by rw [show holdW n 0 p = 3 from if_pos ⟨rfl, .inr hm⟩]; exact if_neg (by omega)
                      rw [e] at h
                      exact h)
                    clear HSt
                    go_wp2_with (first
                      | ((with_reducible refine wpList_store_row rfl 42 _ _ rfl wr.heap.size (DT.mk dnm p).cells.toArray ?_ ?_ 42 #[.string ⟨#[]⟩, .int .i64 0] (heap_alloc_new wr _) HSz.out ?_ HOne.out ?_); exact rfl; exact rfl; exact rfl; rw [← HW4.out])
                      | ((with_reducible refine wpList_owned HK5.out.ow HpI.out _ _ rfl ?_ ?_ ?_ ?_); exact rfl; exact rfl; exact rfl; rw [HC0.out])
                      | ((with_reducible refine wpList_own1 HK5.out.ow HpI.out HLl.out _ _ _ rfl rfl ?_ ?_ ?_ ?_); exact rfl; exact rfl; (rw [HC0.out]; exact rfl); (intro w7 ho7 hg7; have HK7 := hid (HK5.out.put ho7 hg7); have HD7 := hid (HD5.out.grown hg7 (by intro e; injection e with e; have := HK5.out.ow.lt; have := HBd.out; omega)); have z7 := Blk.at HD7.out 1; simp only [DT.cells, List.getElem?_cons_zero, List.getElem?_cons_succ] at z7; clear HD7; clear ho7 hg7 HK5))
                      | ((with_reducible refine wpList_owned HK7.out.ow HpI.out _ _ rfl ?_ ?_ ?_ ?_); exact rfl; exact rfl; exact rfl; rw [HC1.out]))
                    all_goals exact ⟨⟨j + 1, 3, L ++ [p], by omega, by go_num, rfl, HSt2, HK7, HLn⟩, by simp [intOf]; omega⟩
                  by_cases hc : 0 < c
                  · have hc' : (1 : Int) < ((c : Int) + 1) := by omega
                    have HSt2 := hid (show StF n _ 4 R (L ++ [p]) by
                      have h := hold_step (Nat.le_refl n) (fun _ => rfl) HSt.out
                      have e : holdW2 (holdW n 0 p) p L = 4 := by rw [show holdW n 0 p = 0 from if_neg (by omega)]; exact if_pos ⟨rfl, by rw [HC1.out]; omega⟩
                      rw [e] at h
                      exact h)
                    clear HSt
                    go_wp2_with (first
                      | ((with_reducible refine wpList_store_row rfl 42 _ _ rfl wr.heap.size (DT.mk dnm p).cells.toArray ?_ ?_ 42 #[.string ⟨#[]⟩, .int .i64 0] (heap_alloc_new wr _) HSz.out ?_ HOne.out ?_); exact rfl; exact rfl; exact rfl; rw [← HW4.out])
                      | ((with_reducible refine wpList_owned HK5.out.ow HpI.out _ _ rfl ?_ ?_ ?_ ?_); exact rfl; exact rfl; exact rfl; rw [HC0.out])
                      | ((with_reducible refine wpList_own1 HK5.out.ow HpI.out HLl.out _ _ _ rfl rfl ?_ ?_ ?_ ?_); exact rfl; exact rfl; (rw [HC0.out]; exact rfl); (intro w7 ho7 hg7; have HK7 := hid (HK5.out.put ho7 hg7); have HD7 := hid (HD5.out.grown hg7 (by intro e; injection e with e; have := HK5.out.ow.lt; have := HBd.out; omega)); have z7 := Blk.at HD7.out 1; simp only [DT.cells, List.getElem?_cons_zero, List.getElem?_cons_succ] at z7; clear HD7; clear ho7 hg7 HK5))
                      | ((with_reducible refine wpList_owned HK7.out.ow HpI.out _ _ rfl ?_ ?_ ?_ ?_); exact rfl; exact rfl; exact rfl; rw [HC1.out]))
                    all_goals exact ⟨⟨j + 1, 4, L ++ [p], by omega, by go_num, rfl, HSt2, HK7, HLn⟩, by simp [intOf]; omega⟩
                  obtain rfl : c = 0 := by omega
                  have HSt2 := hid (show StF n _ 0 R (L ++ [p]) by
                    have h := hold_step (Nat.le_refl n) (fun _ => rfl) HSt.out
                    have e : holdW2 (holdW n 0 p) p L = 0 := by rw [show holdW n 0 p = 0 from if_neg (by omega)]; exact if_neg (by rw [HC1.out]; omega)
                    rw [e] at h
                    exact h)
                  clear HSt
                  go_wp2_with (first
                    | ((with_reducible refine wpList_store_row rfl 42 _ _ rfl wr.heap.size (DT.mk dnm p).cells.toArray ?_ ?_ 42 #[.string ⟨#[]⟩, .int .i64 0] (heap_alloc_new wr _) HSz.out ?_ HOne.out ?_); exact rfl; exact rfl; exact rfl; rw [← HW4.out])
                    | ((with_reducible refine wpList_owned HK5.out.ow HpI.out _ _ rfl ?_ ?_ ?_ ?_); exact rfl; exact rfl; exact rfl; rw [HC0.out])
                    | ((with_reducible refine wpList_own1 HK5.out.ow HpI.out HLl.out _ _ _ rfl rfl ?_ ?_ ?_ ?_); exact rfl; exact rfl; (rw [HC0.out]; exact rfl); (intro w7 ho7 hg7; have HK7 := hid (HK5.out.put ho7 hg7); have HD7 := hid (HD5.out.grown hg7 (by intro e; injection e with e; have := HK5.out.ow.lt; have := HBd.out; omega)); have z7 := Blk.at HD7.out 1; simp only [DT.cells, List.getElem?_cons_zero, List.getElem?_cons_succ] at z7; clear HD7; clear ho7 hg7 HK5))
                    | ((with_reducible refine wpList_owned HK7.out.ow HpI.out _ _ rfl ?_ ?_ ?_ ?_); exact rfl; exact rfl; exact rfl; rw [HC1.out]))
                  all_goals exact ⟨⟨j + 1, 0, L ++ [p], by omega, by go_num, rfl, HSt2, HK7, HLn⟩, by simp [intOf]; omega⟩
                · have hwi : ¬ (want : Int) = 0 := by omega
                  have hwb : ((want : Int) == 0) = false := by simpa using hwi
                  have HSt2 := hid (show StF n _ want R (L ++ [p]) by
                    have h := hold_step (Nat.le_refl n) (fun _ => rfl) HSt.out
                    have e : holdW2 (holdW n want p) p L = want := by rw [show holdW n want p = want from if_neg (fun h => hw0 h.1)]; exact if_neg (fun h => hw0 h.1)
                    rw [e] at h
                    exact h)
                  clear HSt
                  go_wp2_with (first
                    | ((with_reducible refine wpList_store_row rfl 42 _ _ rfl wr.heap.size (DT.mk dnm p).cells.toArray ?_ ?_ 42 #[.string ⟨#[]⟩, .int .i64 0] (heap_alloc_new wr _) HSz.out ?_ HOne.out ?_); exact rfl; exact rfl; exact rfl; rw [← HW4.out])
                    | ((with_reducible refine wpList_owned HK5.out.ow HpI.out _ _ rfl ?_ ?_ ?_ ?_); exact rfl; exact rfl; exact rfl; rw [HC0.out])
                    | ((with_reducible refine wpList_own1 HK5.out.ow HpI.out HLl.out _ _ _ rfl rfl ?_ ?_ ?_ ?_); exact rfl; exact rfl; (rw [HC0.out]; exact rfl); (intro w7 ho7 hg7; have HK7 := hid (HK5.out.put ho7 hg7); have HD7 := hid (HD5.out.grown hg7 (by intro e; injection e with e; have := HK5.out.ow.lt; have := HBd.out; omega)); have z7 := Blk.at HD7.out 1; simp only [DT.cells, List.getElem?_cons_zero, List.getElem?_cons_succ] at z7; clear HD7; clear ho7 hg7 HK5))
                    | ((with_reducible refine wpList_owned HK7.out.ow HpI.out _ _ rfl ?_ ?_ ?_ ?_); exact rfl; exact rfl; exact rfl; rw [HC1.out]))
                  all_goals exact ⟨⟨j + 1, want, L ++ [p], by omega, by go_num, rfl, HSt2, HK7, HLn⟩, by simp [intOf]; omega⟩
              · obtain rfl : j = Dn := by omega
                have HT3 := hid (show StF n (fun l => finD (.ok l)) want R L from HSt.out.of (fun _ l _ => by
                  show finD (hsF n l ((ds.map DT.ty).drop j)) = finD (.ok l)
                  rw [List.drop_of_length_le (by rw [List.length_map]; exact Nat.le_of_eq HDn.out.symm)]
                  rfl))
                clear HSt HLb
                have HT4 := hid (show StF n (lastF 0) want R L from HT3.out.of (fun _ l _ => rfl))
                clear HT3
                have y0 := Blk.at HK.out.bo 0
                have y1 := Blk.at HK.out.bo 1
                simp only [List.getElem?_cons_zero, List.getElem?_cons_succ] at y0 y1
                rw [HNe.out.1, HNe.out.2.1, HNe.out.2.2] at y0
                rw [HDe.out.1, HDe.out.2.1, HDe.out.2.2] at y1
                go_wp2_with fail
                go_loopw [3, 114] (fun wv i wr => ∃ (j want : Nat), j ≤ n ∧ i = .int .i64 j ∧ wv = .int .i64 (want : Int) ∧ Hid (StF n (lastF j) want R L) ∧ Hid (CkW w N D B L wr)) (fun _ i _ => n - (intOf i).toNat)
                case atStart => exact ⟨0, want, by omega, rfl, rfl, HT4, HK⟩
                case round =>
                  clear HT4 HK y0 y1
                  obtain ⟨j, want, hj, rfl, rfl, HSt, HK5⟩ := hrel
                  by_cases hlt : j < n
                  · have hlt' : (j : Int) < (n : Int) := by omega
                    have HSt2 := hid (last_step hlt HSt.out)
                    have HpI := hid (show I64 (j : Int) from ⟨by omega, by omega⟩)
                    obtain ⟨c, hc0⟩ : ∃ c, c = L.count (j : Int) := ⟨_, rfl⟩
                    have HC0 := hid hc0.symm
                    by_cases hw0 : want = 0
                    · subst hw0
                      by_cases hc : c = 0
                      · subst hc
                        have HSt3 := hid (show StF n (lastF (j + 1)) 3 R L by
                          have e : lastW 0 j L = 3 := if_pos ⟨rfl, HC0.out⟩
                          rw [← e]; exact HSt2.out)
                        clear HSt HSt2 hc0
                        go_wp2_with ((with_reducible refine wpList_owned HK5.out.ow HpI.out _ _ rfl ?_ ?_ ?_ ?_); exact rfl; exact rfl; exact rfl; rw [HC0.out])
                        all_goals exact ⟨⟨j + 1, 3, by omega, by go_num, rfl, HSt3, HK5⟩, by simp [intOf]; omega⟩
                      · have hci : ¬ (c : Int) = 0 := by omega
                        have hcb : ((c : Int) == 0) = false := by simpa using hci
                        have HSt3 := hid (show StF n (lastF (j + 1)) 0 R L by
                          have e : lastW 0 j L = 0 := if_neg (by rw [HC0.out]; omega)
                          have h := HSt2.out
                          rw [e] at h; exact h)
                        clear HSt HSt2 hc0
                        go_wp2_with ((with_reducible refine wpList_owned HK5.out.ow HpI.out _ _ rfl ?_ ?_ ?_ ?_); exact rfl; exact rfl; exact rfl; rw [HC0.out])
                        all_goals exact ⟨⟨j + 1, 0, by omega, by go_num, rfl, HSt3, HK5⟩, by simp [intOf]; omega⟩
                    · have hwi : ¬ (want : Int) = 0 := by omega
                      have hwb : ((want : Int) == 0) = false := by simpa using hwi
                      have HSt3 := hid (show StF n (lastF (j + 1)) want R L by
                        have e : lastW want j L = want := if_neg (fun h => hw0 h.1)
                        have h := HSt2.out
                        rw [e] at h; exact h)
                      clear HSt HSt2 hc0
                      go_wp2_with fail
                      all_goals exact ⟨⟨j + 1, want, by omega, by go_num, rfl, HSt3, HK5⟩, by simp [intOf]; omega⟩
                  · obtain rfl : j = n := by omega
                    have HE := hid (last_end HSt.out)
                    have y0 := Blk.at HK5.out.bo 0
                    have y1 := Blk.at HK5.out.bo 1
                    simp only [List.getElem?_cons_zero, List.getElem?_cons_succ] at y0 y1
                    rw [HNe.out.1, HNe.out.2.1, HNe.out.2.2] at y0
                    rw [HDe.out.1, HDe.out.2.1, HDe.out.2.2] at y1
                    have HCk := hid (HChk.out wr HK5.out.bel)
                    rw [HE.out] at HCk
                    clear HSt
                    go_wp2_with (go_at_call 11; (with_reducible refine HCk.out.mono ?_); rintro e w9 ⟨rfl, hb9⟩; have HB9 := hid (HK5.out.bel.trans (hb9.mono HK5.out.bel.size)); clear hb9)
                    show RR (.returned (.bool true)) w9
                    rw [HRR.out]
                    exact ⟨rfl, HB9.out⟩
        · have hwi : ¬ (want : Int) = 0 := by omega
          have hwb : ((want : Int) != 0) = true := by simpa using hwi
          go_upto_region 25 with (first
            | ((with_reducible refine wpList_load_mid rfl 38 _ rfl b (o + j * 18) ?_ v.cells _ HRg.out Try.underlying38 ?_ ?_ ?_); exact rfl; exact rfl; (rw [HLen.out]; kernel_rfl))
            | ((with_reducible refine wpList_store_row rfl 38 _ _ rfl wr.heap.size v.cells.toArray ?_ ?_ 38 #[.int .i64 0, .int .i64 0, .bool false, .bool false, .bool false, .int .u64 0, .int .u64 0, .string ⟨#[]⟩, .string ⟨#[]⟩, .int .u64 0, .int .u64 0, .slice none 0 0, .slice none 0 0, .slice none 0 0, .string ⟨#[]⟩, .int .u64 0, .slice none 0 0, .int .i64 0] (heap_alloc_new wr _) HSz.out ?_ HOne.out ?_); exact rfl; exact rfl; exact rfl; generalize (wr.alloc (.cells #[.int .i64 0, .int .i64 0, .bool false, .bool false, .bool false, .int .u64 0, .int .u64 0, .string ⟨#[]⟩, .string ⟨#[]⟩, .int .u64 0, .int .u64 0, .slice none 0 0, .slice none 0 0, .slice none 0 0, .string ⟨#[]⟩, .int .u64 0, .slice none 0 0, .int .i64 0] 38)).setRow wr.heap.size v.cells.toArray = w5 at *)
            | ((with_reducible refine wpList_load_node _ rfl HN5.out ?_ ?_ ?_); exact rfl; exact rfl)
            | fail)
          have HK := HK5
          clear HK5 HN5
          have HT := hid (show StF n (fun l => finD (hsF n l ((ds.map DT.ty).drop 0))) want R L from HSt.out.bad hw0)
          have HLb := hid (show L.length ≤ 400000 by have := HLq.out; have := HNb.out; omega)
          clear HSt HLq
          have y0 := Blk.at HK.out.bo 0
          have y1 := Blk.at HK.out.bo 1
          simp only [List.getElem?_cons_zero, List.getElem?_cons_succ] at y0 y1
          rw [HNe.out.1, HNe.out.2.1, HNe.out.2.2] at y0
          rw [HDe.out.1, HDe.out.2.1, HDe.out.2.2] at y1
          go_wp2_with fail
          go_loopw [3, 77] (fun wv i wr => ∃ (j want : Nat) (L : List Int), j ≤ Dn ∧ i = .int .i64 j ∧ wv = .int .i64 (want : Int) ∧ Hid (StF n (fun l => finD (hsF n l ((ds.map DT.ty).drop j))) want R L) ∧ Hid (CkW w N D B L wr) ∧ Hid (L.length ≤ 400000 + j)) (fun _ i _ => Dn - (intOf i).toNat)
          case atStart => exact ⟨0, want, L, by omega, rfl, rfl, HT, HK, HLb⟩
          case round =>
            clear HT HK HLb y0 y1
            obtain ⟨j, want, L, hj, rfl, rfl, HSt, HK, HLb⟩ := hrel
            by_cases hlt : j < Dn
            · have hlt' : (j : Int) < (Dn : Int) := by omega
              have hjd : j < ds.length := by rw [← HDn.out]; exact hlt
              obtain ⟨b1, o1, hA, hbl, _, e0, e1⟩ := def_cell2 (HO.out.d.keep HK.out.bel) hjd
              have hA' : DA = some ⟨b1, o1, none⟩ := by rw [← HDe.out.1]; exact hA
              obtain ⟨d, hd⟩ : ∃ d, d = ds[j] := ⟨_, rfl⟩
              rw [← hd] at e0 e1
              obtain ⟨dnm, p⟩ := d
              have HpI := hid (show I64 p by have := HDw.out _ (List.getElem_mem hjd); rw [← hd] at this; exact this)
              have HSt := hid (show StF n (fun l => finD (hsF n l (p :: (ds.map DT.ty).drop (j + 1)))) want R L from HSt.out.of (fun _ l _ => by
                rw [List.drop_eq_getElem_cons (by rw [List.length_map]; exact hjd), List.getElem_map, ← hd]))
              have HLl := hid (show L.length ≤ 1048576 by have := HLb.out; have := HDb.out; omega)
              have HLn := hid (show (L ++ [p]).length ≤ 400000 + (j + 1) by rw [List.length_append]; have := HLb.out; simp only [List.length_cons, List.length_nil]; omega)
              have hbx := row_new wr 42 #[.string ⟨#[]⟩, .int .i64 0] (DT.mk dnm p).cells.toArray
              have hX4 : Blk ((wr.alloc (.cells #[.string ⟨#[]⟩, .int .i64 0] 42)).setRow wr.heap.size (DT.mk dnm p).cells.toArray) wr.heap.size 42 (DT.mk dnm p).cells := setRow_heap _ _ _ _ _ (0, 0) (heap_alloc_new wr _)
              obtain ⟨W4, hW4⟩ : ∃ W4, W4 = (wr.alloc (.cells #[.string ⟨#[]⟩, .int .i64 0] 42)).setRow wr.heap.size (DT.mk dnm p).cells.toArray := ⟨_, rfl⟩
              rw [← hW4] at hbx hX4
              have HBd := hid (show B < wr.heap.size from HK.out.ow.lt)
              have HK5 := hid (HK.out.keep hbx)
              have HD5 := hid hX4
              have HW4 := hid hW4
              have HSz := hid (dt_size (DT.mk dnm p))
              have HOne := hid (dt_one (DT.mk dnm p))
              have z1 := Blk.at hX4 1
              have y0 := Blk.at HK5.out.bo 0
              simp only [DT.cells, List.getElem?_cons_zero, List.getElem?_cons_succ] at z1 y0
              rw [HNe.out.1, HNe.out.2.1, HNe.out.2.2] at y0
              obtain ⟨c, hc0⟩ : ∃ c, c = L.count p := ⟨_, rfl⟩
              have HC0 := hid hc0.symm
              have HC1 := hid (show (L ++ [p]).count p = c + 1 by rw [List.count_append, hc0]; simp)
              have hcb : c ≤ 1048576 := by rw [hc0]; exact Nat.le_trans List.count_le_length HLl.out
              clear hc0
              clear hbx hX4 hW4 hbl hA hd hjd HK HLb
              rw [hA'] at HChk ⊢
              by_cases hw0 : want = 0
              · subst hw0
                by_cases hp : p < 0
                · have HSt2 := hid (show StF n _ 3 R (L ++ [p]) by
                    have h := hold_step (Nat.le_refl n) (fun _ => rfl) HSt.out
                    have e : holdW2 (holdW n 0 p) p L = 3 := by rw [show holdW n 0 p = 3 from if_pos ⟨rfl, .inl hp⟩]; exact if_neg (by omega)
                    rw [e] at h
                    exact h)
                  clear HSt
                  go_wp2_with (first
                    | ((with_reducible refine wpList_store_row rfl 42 _ _ rfl wr.heap.size (DT.mk dnm p).cells.toArray ?_ ?_ 42 #[.string ⟨#[]⟩, .int .i64 0] (heap_alloc_new wr _) HSz.out ?_ HOne.out ?_); exact rfl; exact rfl; exact rfl; rw [← HW4.out])
                    | ((with_reducible refine wpList_owned HK5.out.ow HpI.out _ _ rfl ?_ ?_ ?_ ?_); exact rfl; exact rfl; exact rfl; rw [HC0.out])
                    | ((with_reducible refine wpList_own1 HK5.out.ow HpI.out HLl.out _ _ _ rfl rfl ?_ ?_ ?_ ?_); exact rfl; exact rfl; (rw [HC0.out]; exact rfl); (intro w7 ho7 hg7; have HK7 := hid (HK5.out.put ho7 hg7); have HD7 := hid (HD5.out.grown hg7 (by intro e; injection e with e; have := HK5.out.ow.lt; have := HBd.out; omega)); have z7 := Blk.at HD7.out 1; simp only [DT.cells, List.getElem?_cons_zero, List.getElem?_cons_succ] at z7; clear HD7; clear ho7 hg7 HK5))
                    | ((with_reducible refine wpList_owned HK7.out.ow HpI.out _ _ rfl ?_ ?_ ?_ ?_); exact rfl; exact rfl; exact rfl; rw [HC1.out]))
                  all_goals exact ⟨⟨j + 1, 3, L ++ [p], by omega, by go_num, rfl, HSt2, HK7, HLn⟩, by simp [intOf]; omega⟩
                by_cases hm : (n : Int) ≤ p
                · have HSt2 := hid (show StF n _ 3 R (L ++ [p]) by
                    have h := hold_step (Nat.le_refl n) (fun _ => rfl) HSt.out
                    have e : holdW2 (holdW n 0 p) p L = 3 := by rw [show holdW n 0 p = 3 from if_pos ⟨rfl, .inr hm⟩]; exact if_neg (by omega)
                    rw [e] at h
                    exact h)
                  clear HSt
                  go_wp2_with (first
                    | ((with_reducible refine wpList_store_row rfl 42 _ _ rfl wr.heap.size (DT.mk dnm p).cells.toArray ?_ ?_ 42 #[.string ⟨#[]⟩, .int .i64 0] (heap_alloc_new wr _) HSz.out ?_ HOne.out ?_); exact rfl; exact rfl; exact rfl; rw [← HW4.out])
                    | ((with_reducible refine wpList_owned HK5.out.ow HpI.out _ _ rfl ?_ ?_ ?_ ?_); exact rfl; exact rfl; exact rfl; rw [HC0.out])
                    | ((with_reducible refine wpList_own1 HK5.out.ow HpI.out HLl.out _ _ _ rfl rfl ?_ ?_ ?_ ?_); exact rfl; exact rfl; (rw [HC0.out]; exact rfl); (intro w7 ho7 hg7; have HK7 := hid (HK5.out.put ho7 hg7); have HD7 := hid (HD5.out.grown hg7 (by intro e; injection e with e; have := HK5.out.ow.lt; have := HBd.out; omega)); have z7 := Blk.at HD7.out 1; simp only [DT.cells, List.getElem?_cons_zero, List.getElem?_cons_succ] at z7; clear HD7; clear ho7 hg7 HK5))
                    | ((with_reducible refine wpList_owned HK7.out.ow HpI.out _ _ rfl ?_ ?_ ?_ ?_); exact rfl; exact rfl; exact rfl; rw [HC1.out]))
                  all_goals exact ⟨⟨j + 1, 3, L ++ [p], by omega, by go_num, rfl, HSt2, HK7, HLn⟩, by simp [intOf]; omega⟩
                by_cases hc : 0 < c
                · have hc' : (1 : Int) < ((c : Int) + 1) := by omega
                  have HSt2 := hid (show StF n _ 4 R (L ++ [p]) by
                    have h := hold_step (Nat.le_refl n) (fun _ => rfl) HSt.out
                    have e : holdW2 (holdW n 0 p) p L = 4 := by rw [show holdW n 0 p = 0 from if_neg (by omega)]; exact if_pos ⟨rfl, by rw [HC1.out]; omega⟩
                    rw [e] at h
                    exact h)
                  clear HSt
                  go_wp2_with (first
                    | ((with_reducible refine wpList_store_row rfl 42 _ _ rfl wr.heap.size (DT.mk dnm p).cells.toArray ?_ ?_ 42 #[.string ⟨#[]⟩, .int .i64 0] (heap_alloc_new wr _) HSz.out ?_ HOne.out ?_); exact rfl; exact rfl; exact rfl; rw [← HW4.out])
                    | ((with_reducible refine wpList_owned HK5.out.ow HpI.out _ _ rfl ?_ ?_ ?_ ?_); exact rfl; exact rfl; exact rfl; rw [HC0.out])
                    | ((with_reducible refine wpList_own1 HK5.out.ow HpI.out HLl.out _ _ _ rfl rfl ?_ ?_ ?_ ?_); exact rfl; exact rfl; (rw [HC0.out]; exact rfl); (intro w7 ho7 hg7; have HK7 := hid (HK5.out.put ho7 hg7); have HD7 := hid (HD5.out.grown hg7 (by intro e; injection e with e; have := HK5.out.ow.lt; have := HBd.out; omega)); have z7 := Blk.at HD7.out 1; simp only [DT.cells, List.getElem?_cons_zero, List.getElem?_cons_succ] at z7; clear HD7; clear ho7 hg7 HK5))
                    | ((with_reducible refine wpList_owned HK7.out.ow HpI.out _ _ rfl ?_ ?_ ?_ ?_); exact rfl; exact rfl; exact rfl; rw [HC1.out]))
                  all_goals exact ⟨⟨j + 1, 4, L ++ [p], by omega, by go_num, rfl, HSt2, HK7, HLn⟩, by simp [intOf]; omega⟩
                obtain rfl : c = 0 := by omega
                have HSt2 := hid (show StF n _ 0 R (L ++ [p]) by
                  have h := hold_step (Nat.le_refl n) (fun _ => rfl) HSt.out
                  have e : holdW2 (holdW n 0 p) p L = 0 := by rw [show holdW n 0 p = 0 from if_neg (by omega)]; exact if_neg (by rw [HC1.out]; omega)
                  rw [e] at h
                  exact h)
                clear HSt
                go_wp2_with (first
                  | ((with_reducible refine wpList_store_row rfl 42 _ _ rfl wr.heap.size (DT.mk dnm p).cells.toArray ?_ ?_ 42 #[.string ⟨#[]⟩, .int .i64 0] (heap_alloc_new wr _) HSz.out ?_ HOne.out ?_); exact rfl; exact rfl; exact rfl; rw [← HW4.out])
                  | ((with_reducible refine wpList_owned HK5.out.ow HpI.out _ _ rfl ?_ ?_ ?_ ?_); exact rfl; exact rfl; exact rfl; rw [HC0.out])
                  | ((with_reducible refine wpList_own1 HK5.out.ow HpI.out HLl.out _ _ _ rfl rfl ?_ ?_ ?_ ?_); exact rfl; exact rfl; (rw [HC0.out]; exact rfl); (intro w7 ho7 hg7; have HK7 := hid (HK5.out.put ho7 hg7); have HD7 := hid (HD5.out.grown hg7 (by intro e; injection e with e; have := HK5.out.ow.lt; have := HBd.out; omega)); have z7 := Blk.at HD7.out 1; simp only [DT.cells, List.getElem?_cons_zero, List.getElem?_cons_succ] at z7; clear HD7; clear ho7 hg7 HK5))
                  | ((with_reducible refine wpList_owned HK7.out.ow HpI.out _ _ rfl ?_ ?_ ?_ ?_); exact rfl; exact rfl; exact rfl; rw [HC1.out]))
                all_goals exact ⟨⟨j + 1, 0, L ++ [p], by omega, by go_num, rfl, HSt2, HK7, HLn⟩, by simp [intOf]; omega⟩
              · have hwi : ¬ (want : Int) = 0 := by omega
                have hwb : ((want : Int) == 0) = false := by simpa using hwi
                have HSt2 := hid (show StF n _ want R (L ++ [p]) by
                  have h := hold_step (Nat.le_refl n) (fun _ => rfl) HSt.out
                  have e : holdW2 (holdW n want p) p L = want := by rw [show holdW n want p = want from if_neg (fun h => hw0 h.1)]; exact if_neg (fun h => hw0 h.1)
                  rw [e] at h
                  exact h)
                clear HSt
                go_wp2_with (first
                  | ((with_reducible refine wpList_store_row rfl 42 _ _ rfl wr.heap.size (DT.mk dnm p).cells.toArray ?_ ?_ 42 #[.string ⟨#[]⟩, .int .i64 0] (heap_alloc_new wr _) HSz.out ?_ HOne.out ?_); exact rfl; exact rfl; exact rfl; rw [← HW4.out])
                  | ((with_reducible refine wpList_owned HK5.out.ow HpI.out _ _ rfl ?_ ?_ ?_ ?_); exact rfl; exact rfl; exact rfl; rw [HC0.out])
                  | ((with_reducible refine wpList_own1 HK5.out.ow HpI.out HLl.out _ _ _ rfl rfl ?_ ?_ ?_ ?_); exact rfl; exact rfl; (rw [HC0.out]; exact rfl); (intro w7 ho7 hg7; have HK7 := hid (HK5.out.put ho7 hg7); have HD7 := hid (HD5.out.grown hg7 (by intro e; injection e with e; have := HK5.out.ow.lt; have := HBd.out; omega)); have z7 := Blk.at HD7.out 1; simp only [DT.cells, List.getElem?_cons_zero, List.getElem?_cons_succ] at z7; clear HD7; clear ho7 hg7 HK5))
                  | ((with_reducible refine wpList_owned HK7.out.ow HpI.out _ _ rfl ?_ ?_ ?_ ?_); exact rfl; exact rfl; exact rfl; rw [HC1.out]))
                all_goals exact ⟨⟨j + 1, want, L ++ [p], by omega, by go_num, rfl, HSt2, HK7, HLn⟩, by simp [intOf]; omega⟩
            · obtain rfl : j = Dn := by omega
              have HT3 := hid (show StF n (fun l => finD (.ok l)) want R L from HSt.out.of (fun _ l _ => by
                show finD (hsF n l ((ds.map DT.ty).drop j)) = finD (.ok l)
                rw [List.drop_of_length_le (by rw [List.length_map]; exact Nat.le_of_eq HDn.out.symm)]
                rfl))
              clear HSt HLb
              have HT4 := hid (show StF n (lastF 0) want R L from HT3.out.of (fun _ l _ => rfl))
              clear HT3
              have y0 := Blk.at HK.out.bo 0
              have y1 := Blk.at HK.out.bo 1
              simp only [List.getElem?_cons_zero, List.getElem?_cons_succ] at y0 y1
              rw [HNe.out.1, HNe.out.2.1, HNe.out.2.2] at y0
              rw [HDe.out.1, HDe.out.2.1, HDe.out.2.2] at y1
              go_wp2_with fail
              go_loopw [3, 114] (fun wv i wr => ∃ (j want : Nat), j ≤ n ∧ i = .int .i64 j ∧ wv = .int .i64 (want : Int) ∧ Hid (StF n (lastF j) want R L) ∧ Hid (CkW w N D B L wr)) (fun _ i _ => n - (intOf i).toNat)
              case atStart => exact ⟨0, want, by omega, rfl, rfl, HT4, HK⟩
              case round =>
                clear HT4 HK y0 y1
                obtain ⟨j, want, hj, rfl, rfl, HSt, HK5⟩ := hrel
                by_cases hlt : j < n
                · have hlt' : (j : Int) < (n : Int) := by omega
                  have HSt2 := hid (last_step hlt HSt.out)
                  have HpI := hid (show I64 (j : Int) from ⟨by omega, by omega⟩)
                  obtain ⟨c, hc0⟩ : ∃ c, c = L.count (j : Int) := ⟨_, rfl⟩
                  have HC0 := hid hc0.symm
                  by_cases hw0 : want = 0
                  · subst hw0
                    by_cases hc : c = 0
                    · subst hc
                      have HSt3 := hid (show StF n (lastF (j + 1)) 3 R L by
                        have e : lastW 0 j L = 3 := if_pos ⟨rfl, HC0.out⟩
                        rw [← e]; exact HSt2.out)
                      clear HSt HSt2 hc0
                      go_wp2_with ((with_reducible refine wpList_owned HK5.out.ow HpI.out _ _ rfl ?_ ?_ ?_ ?_); exact rfl; exact rfl; exact rfl; rw [HC0.out])
                      all_goals exact ⟨⟨j + 1, 3, by omega, by go_num, rfl, HSt3, HK5⟩, by simp [intOf]; omega⟩
                    · have hci : ¬ (c : Int) = 0 := by omega
                      have hcb : ((c : Int) == 0) = false := by simpa using hci
                      have HSt3 := hid (show StF n (lastF (j + 1)) 0 R L by
                        have e : lastW 0 j L = 0 := if_neg (by rw [HC0.out]; omega)
                        have h := HSt2.out
                        rw [e] at h; exact h)
                      clear HSt HSt2 hc0
                      go_wp2_with ((with_reducible refine wpList_owned HK5.out.ow HpI.out _ _ rfl ?_ ?_ ?_ ?_); exact rfl; exact rfl; exact rfl; rw [HC0.out])
                      all_goals exact ⟨⟨j + 1, 0, by omega, by go_num, rfl, HSt3, HK5⟩, by simp [intOf]; omega⟩
                  · have hwi : ¬ (want : Int) = 0 := by omega
                    have hwb : ((want : Int) == 0) = false := by simpa using hwi
                    have HSt3 := hid (show StF n (lastF (j + 1)) want R L by
                      have e : lastW want j L = want := if_neg (fun h => hw0 h.1)
                      have h := HSt2.out
                      rw [e] at h; exact h)
                    clear HSt HSt2 hc0
                    go_wp2_with fail
                    all_goals exact ⟨⟨j + 1, want, by omega, by go_num, rfl, HSt3, HK5⟩, by simp [intOf]; omega⟩
                · obtain rfl : j = n := by omega
                  have HE := hid (last_end HSt.out)
                  have y0 := Blk.at HK5.out.bo 0
                  have y1 := Blk.at HK5.out.bo 1
                  simp only [List.getElem?_cons_zero, List.getElem?_cons_succ] at y0 y1
                  rw [HNe.out.1, HNe.out.2.1, HNe.out.2.2] at y0
                  rw [HDe.out.1, HDe.out.2.1, HDe.out.2.2] at y1
                  have HCk := hid (HChk.out wr HK5.out.bel)
                  rw [HE.out] at HCk
                  clear HSt
                  go_wp2_with (go_at_call 11; (with_reducible refine HCk.out.mono ?_); rintro e w9 ⟨rfl, hb9⟩; have HB9 := hid (HK5.out.bel.trans (hb9.mono HK5.out.bel.size)); clear hb9)
                  show RR (.returned (.bool true)) w9
                  rw [HRR.out]
                  exact ⟨rfl, HB9.out⟩
      · have e : n = j := by omega
        subst e
        have HT := hid (show StF n (fun l => finD (hsF n l ((ds.map DT.ty).drop 0))) want R L from HSt.out.of (fun _ l _ => by
          show finS n ds (ckN n l (vs.drop n)) = _
          rw [List.drop_of_length_le (Nat.le_of_eq HNn.out.symm)]
          rfl))
        have HLb := hid (show L.length ≤ 400000 by have := HLq.out; have := HNb.out; omega)
        clear HSt HLq
        have y0 := Blk.at HK.out.bo 0
        have y1 := Blk.at HK.out.bo 1
        simp only [List.getElem?_cons_zero, List.getElem?_cons_succ] at y0 y1
        rw [HNe.out.1, HNe.out.2.1, HNe.out.2.2] at y0
        rw [HDe.out.1, HDe.out.2.1, HDe.out.2.2] at y1
        go_wp2_with fail
        go_loopw [3, 77] (fun wv i wr => ∃ (j want : Nat) (L : List Int), j ≤ Dn ∧ i = .int .i64 j ∧ wv = .int .i64 (want : Int) ∧ Hid (StF n (fun l => finD (hsF n l ((ds.map DT.ty).drop j))) want R L) ∧ Hid (CkW w N D B L wr) ∧ Hid (L.length ≤ 400000 + j)) (fun _ i _ => Dn - (intOf i).toNat)
        case atStart => exact ⟨0, want, L, by omega, rfl, rfl, HT, HK, HLb⟩
        case round =>
          clear HT HK HLb y0 y1
          obtain ⟨j, want, L, hj, rfl, rfl, HSt, HK, HLb⟩ := hrel
          by_cases hlt : j < Dn
          · have hlt' : (j : Int) < (Dn : Int) := by omega
            have hjd : j < ds.length := by rw [← HDn.out]; exact hlt
            obtain ⟨b1, o1, hA, hbl, _, e0, e1⟩ := def_cell2 (HO.out.d.keep HK.out.bel) hjd
            have hA' : DA = some ⟨b1, o1, none⟩ := by rw [← HDe.out.1]; exact hA
            obtain ⟨d, hd⟩ : ∃ d, d = ds[j] := ⟨_, rfl⟩
            rw [← hd] at e0 e1
            obtain ⟨dnm, p⟩ := d
            have HpI := hid (show I64 p by have := HDw.out _ (List.getElem_mem hjd); rw [← hd] at this; exact this)
            have HSt := hid (show StF n (fun l => finD (hsF n l (p :: (ds.map DT.ty).drop (j + 1)))) want R L from HSt.out.of (fun _ l _ => by
              rw [List.drop_eq_getElem_cons (by rw [List.length_map]; exact hjd), List.getElem_map, ← hd]))
            have HLl := hid (show L.length ≤ 1048576 by have := HLb.out; have := HDb.out; omega)
            have HLn := hid (show (L ++ [p]).length ≤ 400000 + (j + 1) by rw [List.length_append]; have := HLb.out; simp only [List.length_cons, List.length_nil]; omega)
            have hbx := row_new wr 42 #[.string ⟨#[]⟩, .int .i64 0] (DT.mk dnm p).cells.toArray
            have hX4 : Blk ((wr.alloc (.cells #[.string ⟨#[]⟩, .int .i64 0] 42)).setRow wr.heap.size (DT.mk dnm p).cells.toArray) wr.heap.size 42 (DT.mk dnm p).cells := setRow_heap _ _ _ _ _ (0, 0) (heap_alloc_new wr _)
            obtain ⟨W4, hW4⟩ : ∃ W4, W4 = (wr.alloc (.cells #[.string ⟨#[]⟩, .int .i64 0] 42)).setRow wr.heap.size (DT.mk dnm p).cells.toArray := ⟨_, rfl⟩
            rw [← hW4] at hbx hX4
            have HBd := hid (show B < wr.heap.size from HK.out.ow.lt)
            have HK5 := hid (HK.out.keep hbx)
            have HD5 := hid hX4
            have HW4 := hid hW4
            have HSz := hid (dt_size (DT.mk dnm p))
            have HOne := hid (dt_one (DT.mk dnm p))
            have z1 := Blk.at hX4 1
            have y0 := Blk.at HK5.out.bo 0
            simp only [DT.cells, List.getElem?_cons_zero, List.getElem?_cons_succ] at z1 y0
            rw [HNe.out.1, HNe.out.2.1, HNe.out.2.2] at y0
            obtain ⟨c, hc0⟩ : ∃ c, c = L.count p := ⟨_, rfl⟩
            have HC0 := hid hc0.symm
            have HC1 := hid (show (L ++ [p]).count p = c + 1 by rw [List.count_append, hc0]; simp)
            have hcb : c ≤ 1048576 := by rw [hc0]; exact Nat.le_trans List.count_le_length HLl.out
            clear hc0
            clear hbx hX4 hW4 hbl hA hd hjd HK HLb
            rw [hA'] at HChk ⊢
            by_cases hw0 : want = 0
            · subst hw0
              by_cases hp : p < 0
              · have HSt2 := hid (show StF n _ 3 R (L ++ [p]) by
                  have h := hold_step (Nat.le_refl n) (fun _ => rfl) HSt.out
                  have e : holdW2 (holdW n 0 p) p L = 3 := by rw [show holdW n 0 p = 3 from if_pos ⟨rfl, .inl hp⟩]; exact if_neg (by omega)
                  rw [e] at h
                  exact h)
                clear HSt
                go_wp2_with (first
                  | ((with_reducible refine wpList_store_row rfl 42 _ _ rfl wr.heap.size (DT.mk dnm p).cells.toArray ?_ ?_ 42 #[.string ⟨#[]⟩, .int .i64 0] (heap_alloc_new wr _) HSz.out ?_ HOne.out ?_); exact rfl; exact rfl; exact rfl; rw [← HW4.out])
                  | ((with_reducible refine wpList_owned HK5.out.ow HpI.out _ _ rfl ?_ ?_ ?_ ?_); exact rfl; exact rfl; exact rfl; rw [HC0.out])
                  | ((with_reducible refine wpList_own1 HK5.out.ow HpI.out HLl.out _ _ _ rfl rfl ?_ ?_ ?_ ?_); exact rfl; exact rfl; (rw [HC0.out]; exact rfl); (intro w7 ho7 hg7; have HK7 := hid (HK5.out.put ho7 hg7); have HD7 := hid (HD5.out.grown hg7 (by intro e; injection e with e; have := HK5.out.ow.lt; have := HBd.out; omega)); have z7 := Blk.at HD7.out 1; simp only [DT.cells, List.getElem?_cons_zero, List.getElem?_cons_succ] at z7; clear HD7; clear ho7 hg7 HK5))
                  | ((with_reducible refine wpList_owned HK7.out.ow HpI.out _ _ rfl ?_ ?_ ?_ ?_); exact rfl; exact rfl; exact rfl; rw [HC1.out]))
                all_goals exact ⟨⟨j + 1, 3, L ++ [p], by omega, by go_num, rfl, HSt2, HK7, HLn⟩, by simp [intOf]; omega⟩
              by_cases hm : (n : Int) ≤ p
              · have HSt2 := hid (show StF n _ 3 R (L ++ [p]) by
                  have h := hold_step (Nat.le_refl n) (fun _ => rfl) HSt.out
                  have e : holdW2 (holdW n 0 p) p L = 3 := by rw [show holdW n 0 p = 3 from if_pos ⟨rfl, .inr hm⟩]; exact if_neg (by omega)
                  rw [e] at h
                  exact h)
                clear HSt
                go_wp2_with (first
                  | ((with_reducible refine wpList_store_row rfl 42 _ _ rfl wr.heap.size (DT.mk dnm p).cells.toArray ?_ ?_ 42 #[.string ⟨#[]⟩, .int .i64 0] (heap_alloc_new wr _) HSz.out ?_ HOne.out ?_); exact rfl; exact rfl; exact rfl; rw [← HW4.out])
                  | ((with_reducible refine wpList_owned HK5.out.ow HpI.out _ _ rfl ?_ ?_ ?_ ?_); exact rfl; exact rfl; exact rfl; rw [HC0.out])
                  | ((with_reducible refine wpList_own1 HK5.out.ow HpI.out HLl.out _ _ _ rfl rfl ?_ ?_ ?_ ?_); exact rfl; exact rfl; (rw [HC0.out]; exact rfl); (intro w7 ho7 hg7; have HK7 := hid (HK5.out.put ho7 hg7); have HD7 := hid (HD5.out.grown hg7 (by intro e; injection e with e; have := HK5.out.ow.lt; have := HBd.out; omega)); have z7 := Blk.at HD7.out 1; simp only [DT.cells, List.getElem?_cons_zero, List.getElem?_cons_succ] at z7; clear HD7; clear ho7 hg7 HK5))
                  | ((with_reducible refine wpList_owned HK7.out.ow HpI.out _ _ rfl ?_ ?_ ?_ ?_); exact rfl; exact rfl; exact rfl; rw [HC1.out]))
                all_goals exact ⟨⟨j + 1, 3, L ++ [p], by omega, by go_num, rfl, HSt2, HK7, HLn⟩, by simp [intOf]; omega⟩
              by_cases hc : 0 < c
              · have hc' : (1 : Int) < ((c : Int) + 1) := by omega
                have HSt2 := hid (show StF n _ 4 R (L ++ [p]) by
                  have h := hold_step (Nat.le_refl n) (fun _ => rfl) HSt.out
                  have e : holdW2 (holdW n 0 p) p L = 4 := by rw [show holdW n 0 p = 0 from if_neg (by omega)]; exact if_pos ⟨rfl, by rw [HC1.out]; omega⟩
                  rw [e] at h
                  exact h)
                clear HSt
                go_wp2_with (first
                  | ((with_reducible refine wpList_store_row rfl 42 _ _ rfl wr.heap.size (DT.mk dnm p).cells.toArray ?_ ?_ 42 #[.string ⟨#[]⟩, .int .i64 0] (heap_alloc_new wr _) HSz.out ?_ HOne.out ?_); exact rfl; exact rfl; exact rfl; rw [← HW4.out])
                  | ((with_reducible refine wpList_owned HK5.out.ow HpI.out _ _ rfl ?_ ?_ ?_ ?_); exact rfl; exact rfl; exact rfl; rw [HC0.out])
                  | ((with_reducible refine wpList_own1 HK5.out.ow HpI.out HLl.out _ _ _ rfl rfl ?_ ?_ ?_ ?_); exact rfl; exact rfl; (rw [HC0.out]; exact rfl); (intro w7 ho7 hg7; have HK7 := hid (HK5.out.put ho7 hg7); have HD7 := hid (HD5.out.grown hg7 (by intro e; injection e with e; have := HK5.out.ow.lt; have := HBd.out; omega)); have z7 := Blk.at HD7.out 1; simp only [DT.cells, List.getElem?_cons_zero, List.getElem?_cons_succ] at z7; clear HD7; clear ho7 hg7 HK5))
                  | ((with_reducible refine wpList_owned HK7.out.ow HpI.out _ _ rfl ?_ ?_ ?_ ?_); exact rfl; exact rfl; exact rfl; rw [HC1.out]))
                all_goals exact ⟨⟨j + 1, 4, L ++ [p], by omega, by go_num, rfl, HSt2, HK7, HLn⟩, by simp [intOf]; omega⟩
              obtain rfl : c = 0 := by omega
              have HSt2 := hid (show StF n _ 0 R (L ++ [p]) by
                have h := hold_step (Nat.le_refl n) (fun _ => rfl) HSt.out
                have e : holdW2 (holdW n 0 p) p L = 0 := by rw [show holdW n 0 p = 0 from if_neg (by omega)]; exact if_neg (by rw [HC1.out]; omega)
                rw [e] at h
                exact h)
              clear HSt
              go_wp2_with (first
                | ((with_reducible refine wpList_store_row rfl 42 _ _ rfl wr.heap.size (DT.mk dnm p).cells.toArray ?_ ?_ 42 #[.string ⟨#[]⟩, .int .i64 0] (heap_alloc_new wr _) HSz.out ?_ HOne.out ?_); exact rfl; exact rfl; exact rfl; rw [← HW4.out])
                | ((with_reducible refine wpList_owned HK5.out.ow HpI.out _ _ rfl ?_ ?_ ?_ ?_); exact rfl; exact rfl; exact rfl; rw [HC0.out])
                | ((with_reducible refine wpList_own1 HK5.out.ow HpI.out HLl.out _ _ _ rfl rfl ?_ ?_ ?_ ?_); exact rfl; exact rfl; (rw [HC0.out]; exact rfl); (intro w7 ho7 hg7; have HK7 := hid (HK5.out.put ho7 hg7); have HD7 := hid (HD5.out.grown hg7 (by intro e; injection e with e; have := HK5.out.ow.lt; have := HBd.out; omega)); have z7 := Blk.at HD7.out 1; simp only [DT.cells, List.getElem?_cons_zero, List.getElem?_cons_succ] at z7; clear HD7; clear ho7 hg7 HK5))
                | ((with_reducible refine wpList_owned HK7.out.ow HpI.out _ _ rfl ?_ ?_ ?_ ?_); exact rfl; exact rfl; exact rfl; rw [HC1.out]))
              all_goals exact ⟨⟨j + 1, 0, L ++ [p], by omega, by go_num, rfl, HSt2, HK7, HLn⟩, by simp [intOf]; omega⟩
            · have hwi : ¬ (want : Int) = 0 := by omega
              have hwb : ((want : Int) == 0) = false := by simpa using hwi
              have HSt2 := hid (show StF n _ want R (L ++ [p]) by
                have h := hold_step (Nat.le_refl n) (fun _ => rfl) HSt.out
                have e : holdW2 (holdW n want p) p L = want := by rw [show holdW n want p = want from if_neg (fun h => hw0 h.1)]; exact if_neg (fun h => hw0 h.1)
                rw [e] at h
                exact h)
              clear HSt
              go_wp2_with (first
                | ((with_reducible refine wpList_store_row rfl 42 _ _ rfl wr.heap.size (DT.mk dnm p).cells.toArray ?_ ?_ 42 #[.string ⟨#[]⟩, .int .i64 0] (heap_alloc_new wr _) HSz.out ?_ HOne.out ?_); exact rfl; exact rfl; exact rfl; rw [← HW4.out])
                | ((with_reducible refine wpList_owned HK5.out.ow HpI.out _ _ rfl ?_ ?_ ?_ ?_); exact rfl; exact rfl; exact rfl; rw [HC0.out])
                | ((with_reducible refine wpList_own1 HK5.out.ow HpI.out HLl.out _ _ _ rfl rfl ?_ ?_ ?_ ?_); exact rfl; exact rfl; (rw [HC0.out]; exact rfl); (intro w7 ho7 hg7; have HK7 := hid (HK5.out.put ho7 hg7); have HD7 := hid (HD5.out.grown hg7 (by intro e; injection e with e; have := HK5.out.ow.lt; have := HBd.out; omega)); have z7 := Blk.at HD7.out 1; simp only [DT.cells, List.getElem?_cons_zero, List.getElem?_cons_succ] at z7; clear HD7; clear ho7 hg7 HK5))
                | ((with_reducible refine wpList_owned HK7.out.ow HpI.out _ _ rfl ?_ ?_ ?_ ?_); exact rfl; exact rfl; exact rfl; rw [HC1.out]))
              all_goals exact ⟨⟨j + 1, want, L ++ [p], by omega, by go_num, rfl, HSt2, HK7, HLn⟩, by simp [intOf]; omega⟩
          · obtain rfl : j = Dn := by omega
            have HT3 := hid (show StF n (fun l => finD (.ok l)) want R L from HSt.out.of (fun _ l _ => by
              show finD (hsF n l ((ds.map DT.ty).drop j)) = finD (.ok l)
              rw [List.drop_of_length_le (by rw [List.length_map]; exact Nat.le_of_eq HDn.out.symm)]
              rfl))
            clear HSt HLb
            have HT4 := hid (show StF n (lastF 0) want R L from HT3.out.of (fun _ l _ => rfl))
            clear HT3
            have y0 := Blk.at HK.out.bo 0
            have y1 := Blk.at HK.out.bo 1
            simp only [List.getElem?_cons_zero, List.getElem?_cons_succ] at y0 y1
            rw [HNe.out.1, HNe.out.2.1, HNe.out.2.2] at y0
            rw [HDe.out.1, HDe.out.2.1, HDe.out.2.2] at y1
            go_wp2_with fail
            go_loopw [3, 114] (fun wv i wr => ∃ (j want : Nat), j ≤ n ∧ i = .int .i64 j ∧ wv = .int .i64 (want : Int) ∧ Hid (StF n (lastF j) want R L) ∧ Hid (CkW w N D B L wr)) (fun _ i _ => n - (intOf i).toNat)
            case atStart => exact ⟨0, want, by omega, rfl, rfl, HT4, HK⟩
            case round =>
              clear HT4 HK y0 y1
              obtain ⟨j, want, hj, rfl, rfl, HSt, HK5⟩ := hrel
              by_cases hlt : j < n
              · have hlt' : (j : Int) < (n : Int) := by omega
                have HSt2 := hid (last_step hlt HSt.out)
                have HpI := hid (show I64 (j : Int) from ⟨by omega, by omega⟩)
                obtain ⟨c, hc0⟩ : ∃ c, c = L.count (j : Int) := ⟨_, rfl⟩
                have HC0 := hid hc0.symm
                by_cases hw0 : want = 0
                · subst hw0
                  by_cases hc : c = 0
                  · subst hc
                    have HSt3 := hid (show StF n (lastF (j + 1)) 3 R L by
                      have e : lastW 0 j L = 3 := if_pos ⟨rfl, HC0.out⟩
                      rw [← e]; exact HSt2.out)
                    clear HSt HSt2 hc0
                    go_wp2_with ((with_reducible refine wpList_owned HK5.out.ow HpI.out _ _ rfl ?_ ?_ ?_ ?_); exact rfl; exact rfl; exact rfl; rw [HC0.out])
                    all_goals exact ⟨⟨j + 1, 3, by omega, by go_num, rfl, HSt3, HK5⟩, by simp [intOf]; omega⟩
                  · have hci : ¬ (c : Int) = 0 := by omega
                    have hcb : ((c : Int) == 0) = false := by simpa using hci
                    have HSt3 := hid (show StF n (lastF (j + 1)) 0 R L by
                      have e : lastW 0 j L = 0 := if_neg (by rw [HC0.out]; omega)
                      have h := HSt2.out
                      rw [e] at h; exact h)
                    clear HSt HSt2 hc0
                    go_wp2_with ((with_reducible refine wpList_owned HK5.out.ow HpI.out _ _ rfl ?_ ?_ ?_ ?_); exact rfl; exact rfl; exact rfl; rw [HC0.out])
                    all_goals exact ⟨⟨j + 1, 0, by omega, by go_num, rfl, HSt3, HK5⟩, by simp [intOf]; omega⟩
                · have hwi : ¬ (want : Int) = 0 := by omega
                  have hwb : ((want : Int) == 0) = false := by simpa using hwi
                  have HSt3 := hid (show StF n (lastF (j + 1)) want R L by
                    have e : lastW want j L = want := if_neg (fun h => hw0 h.1)
                    have h := HSt2.out
                    rw [e] at h; exact h)
                  clear HSt HSt2 hc0
                  go_wp2_with fail
                  all_goals exact ⟨⟨j + 1, want, by omega, by go_num, rfl, HSt3, HK5⟩, by simp [intOf]; omega⟩
              · obtain rfl : j = n := by omega
                have HE := hid (last_end HSt.out)
                have y0 := Blk.at HK5.out.bo 0
                have y1 := Blk.at HK5.out.bo 1
                simp only [List.getElem?_cons_zero, List.getElem?_cons_succ] at y0 y1
                rw [HNe.out.1, HNe.out.2.1, HNe.out.2.2] at y0
                rw [HDe.out.1, HDe.out.2.1, HDe.out.2.2] at y1
                have HCk := hid (HChk.out wr HK5.out.bel)
                rw [HE.out] at HCk
                clear HSt
                go_wp2_with (go_at_call 11; (with_reducible refine HCk.out.mono ?_); rintro e w9 ⟨rfl, hb9⟩; have HB9 := hid (HK5.out.bel.trans (hb9.mono HK5.out.bel.size)); clear hb9)
                show RR (.returned (.bool true)) w9
                rw [HRR.out]
                exact ⟨rfl, HB9.out⟩
  · have hsm : smB ⟨vs, ds, N, D⟩ = false := by simpa using hsm
    rw [hsm] at HSm
    have HNe := hid (show N.A = N.A ∧ N.n = N.n ∧ N.c = N.c from ⟨rfl, rfl, rfl⟩)
    have HDe := hid (show D.A = D.A ∧ D.n = D.n ∧ D.c = D.c from ⟨rfl, rfl, rfl⟩)
    go_enter Try.func3, Try.ntmps3
    go_upto_region 1 with (fail)
    generalize w.alloc (.cells #[.slice N.A N.n N.c, .slice D.A D.n D.c] 25) = w1 at *
    go_wp2_with (first
      | (go_at_call 7; (with_reducible refine (builds_any _).mono ?_); rintro e w2 ⟨rfl, hb2⟩; have HB2 := hid (HB.out.trans (hb2.mono HB.out.size)); have HX2 := hid (HX.out.keep hb2); clear hb2 HB HX; have y0 := Blk.at HX2.out 0; have y1 := Blk.at HX2.out 1; simp only [List.getElem?_cons_zero, List.getElem?_cons_succ] at y0 y1)
      | (go_at_call 8; (with_reducible refine (HSm.out _ HB2.out).mono ?_); rintro e w3 ⟨rfl, hb3⟩; have HB3 := hid (HB2.out.trans (hb3.mono HB2.out.size)); have HX3 := hid (HX2.out.keep hb3); clear hb3 HB2 HX2 y0 y1; have y0 := (Blk.at HX3.out 0); have y1 := (Blk.at HX3.out 1); simp only [List.getElem?_cons_zero, List.getElem?_cons_succ] at y0 y1; have HX3b := hid (HX3.out.alloc (.map #[] 0)); have q1 := Blk.at HX3b.out 1; have q0 := Blk.at HX3b.out 0; simp only [List.getElem?_cons_zero, List.getElem?_cons_succ] at q0 q1))
    show RR (.returned (.bool true)) w3
    rw [HRR.out]
    exact ⟨rfl, HB3.out⟩
end Go.Proofs.Ytbhfkgaenahchaa
