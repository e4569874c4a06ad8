/- The law SpecBuilds: its walk. -/
import Derived.Test.YtbhfkgaenahchaaSpBm
namespace Go.Proofs.Ytbhfkgaenahchaa
set_option linter.unusedSimpArgs false
set_option linter.unusedVariables false
open Go.RowKit

/-- What the law holds while it builds: a Builder in memory, of what it has been given so far. -/
structure BkW (w3 : World) (vs : List NV) (ds : List DT) (nv dv : Value) (W : World) : Prop where
  bel : Below w3.heap.size w3 W
  ok : BOk W w3.heap.size w3.heap.size vs ds nv dv
theorem BkW.keep {w3 : World} {vs : List NV} {ds : List DT} {nv dv : Value} {W W' : World} (h : BkW w3 vs ds nv dv W) (hb : Below W.heap.size W W') : BkW w3 vs ds nv dv W' :=
  ⟨h.bel.trans (hb.mono h.bel.size), h.ok.keep hb⟩
/-- What the law holds while it stores into what was built. -/
structure GdW (wa : World) (g : Nat) (s : SpV) (B : Nat) (W : World) : Prop where
  bel : Below wa.heap.size wa W
  b0 : W.cell? ⟨g, 0, none⟩ = some (.slice s.N.A s.N.n s.N.c)
  gd : Gd W wa.heap.size s B
theorem GdW.setI {wa : World} {g : Nat} {s : SpV} {B : Nat} {W : World} (h : GdW wa g s B W) {b i : Nat} {z z' : Int} (hb : wa.heap.size ≤ b) (hp : W.cell? ⟨b, i, none⟩ = some (.int .i64 z)) : GdW wa g s B (W.setCell ⟨b, i, none⟩ (.int .i64 z')) :=
  ⟨h.bel.setCell hb _, cell_kept hp h.b0 (by simp) _, h.gd.setI hp⟩
theorem GdW.setS {wa : World} {g : Nat} {s : SpV} {B B' : Nat} {W : World} (h : GdW wa g s B W) (hB : B ≤ B') {b i : Nat} {z z' : ByteArray} (hb : wa.heap.size ≤ b) (hp : W.cell? ⟨b, i, none⟩ = some (.string z)) (hz : z'.size ≤ B') : GdW wa g s B' (W.setCell ⟨b, i, none⟩ (.string z')) :=
  ⟨h.bel.setCell hb _, cell_kept hp h.b0 (by simp) _, h.gd.setS hB hp hz⟩
theorem GdW.more {wa : World} {g : Nat} {s : SpV} {B B' : Nat} {W : World} (h : GdW wa g s B W) (hB : B ≤ B') : GdW wa g s B' W :=
  ⟨h.bel, h.b0, h.gd.n, h.gd.k, fun v hv q hq => by
    obtain ⟨b, o, nm, h1, h2, h3, h4, h5⟩ := h.gd.f v hv q hq
    exact ⟨b, o, nm, h1, h2, h3, h4, Nat.le_trans h5 hB⟩⟩
theorem sp_size (a b : Value) : (Try.prog.info? 25).map (·.size) = some (#[a, b] : Array Value).size := by rw [show (#[a, b] : Array Value).size = 2 from rfl]; kernel_rfl
set_option maxRecDepth 100000 in
set_option maxHeartbeats 40000000 in
theorem bld_walk (s : SpV) (w : World) (hO : SpecOk w (· < w.heap.size) s) (hn : s.N.n ≤ maxLen) (hNm : ∀ v ∈ s.vs, ∀ f ∈ v.t.fs, f.nm.size ≤ 140737488355328) :
    Calls Try.prog 4 #[s.val] w fun e w' => e = .returned (.bool true) ∧ Below w.heap.size w w' := by
  obtain ⟨vs, ds, N, D⟩ := s
  have HSm := hid (fun W (hb : Below w.heap.size w W) => small_any _ W (hO.keep hb) hn)
  obtain ⟨RR, hRR⟩ : ∃ R : Ending → World → Prop, R = fun e w' => e = .returned (.bool true) ∧ Below w.heap.size w w' := ⟨_, rfl⟩
  rw [← hRR]
  have HRR := hid hRR
  clear hRR
  obtain ⟨hbx, hb0⟩ := spec_box w (.slice N.A N.n N.c) (.slice D.A D.n D.c)
  have HB := hid hbx
  have HX := hid hb0
  clear hbx hb0
  unfold SpV.val at HSm ⊢
  simp only at HSm ⊢
  by_cases hsm : smB ⟨vs, ds, N, D⟩ = true
  · rw [hsm] at HSm
    unfold smB at hsm
    simp only [Bool.and_eq_true, List.all_eq_true, decide_eq_true_eq] at hsm
    obtain ⟨hs1, hs2, hs3⟩ := hsm
    have hs1 : ∀ v ∈ vs, v.K.n ≤ 100 ∧ v.F.n ≤ 100 ∧ v.C.n ≤ 100 ∧ v.L.n ≤ 100 := fun v hv => by have := hs1 v hv; unfold smN at this; exact of_decide_eq_true this
    have HFs := hid hs1
    have HFt := hid (show ∀ v ∈ vs, Fits v from fun v hv => by have := hs1 v hv; exact ⟨by omega, by omega, by omega, by omega⟩)
    have HChk := hid (fun W (hb : Below w.heap.size w W) => Check_any ⟨vs, ds, N, D⟩ W (hO.keep hb) HFt.out)
    unfold SpV.val at HChk
    simp only at HChk
    have HNm := hid hNm
    have HO := hid hO
    obtain ⟨NA, hNA⟩ : ∃ A, N.A = A := ⟨_, rfl⟩
    obtain ⟨n, hNn⟩ : ∃ n, N.n = n := ⟨_, rfl⟩
    obtain ⟨Nc, hNc⟩ : ∃ c, N.c = c := ⟨_, rfl⟩
    obtain ⟨DA, hDA⟩ : ∃ A, D.A = A := ⟨_, rfl⟩
    obtain ⟨Dn, hDn⟩ : ∃ n, D.n = n := ⟨_, rfl⟩
    obtain ⟨Dc, hDc⟩ : ∃ c, D.c = c := ⟨_, rfl⟩
    have HNe := hid (And.intro hNA (And.intro hNn hNc))
    have HDe := hid (And.intro hDA (And.intro hDn hDc))
    have HNn := hid (show n = vs.length from hNn.symm.trans HO.out.nn)
    have HDn := hid (show Dn = ds.length from hDn.symm.trans HO.out.dn)
    have HNb := hid (show n ≤ 300 by rw [← hNn]; exact hs2)
    have HDb := hid (show Dn ≤ 100 by rw [← hDn]; exact hs3)
    have hnb : n ≤ 300 := HNb.out
    have hdb : Dn ≤ 100 := HDb.out
    obtain ⟨R, hR⟩ : ∃ R, R = ckS vs ds := ⟨_, rfl⟩
    rw [← hR] at HChk
    have HR := hid hR
    clear hs1 hs2 hs3 hO hn hR hNm
    rw [hNA, hNn, hNc, hDA, hDn, hDc] at HSm HChk HB HX ⊢
    clear hNA hNn hNc hDA hDn hDc
    by_cases hd64 : 64 < Dn
    · have hd64' : (64 : Int) < (Dn : Int) := by omega
      go_enter Try.func4, Try.ntmps4
      go_upto_region 1 with (fail)
      generalize w.alloc (.cells #[.slice NA n Nc, .slice DA Dn Dc] 25) = w1 at *
      go_wp2_with (first
        | (go_at_call 7; (with_reducible refine (builds_any _).mono ?_); rintro e w2 ⟨rfl, hb2⟩; have HB2 := hid (HB.out.trans (hb2.mono HB.out.size)); have HX2 := hid (HX.out.keep hb2); clear hb2 HB HX; have y0 := Blk.at HX2.out 0; have y1 := Blk.at HX2.out 1; simp only [List.getElem?_cons_zero, List.getElem?_cons_succ] at y0 y1)
        | (go_at_call 8; (with_reducible refine (HSm.out _ HB2.out).mono ?_); rintro e w3 ⟨rfl, hb3⟩; have HB3 := hid (HB2.out.trans (hb3.mono HB2.out.size)); have HX3 := hid (HX2.out.keep hb3); clear hb3 HB2 HX2 y0 y1; have y0 := (Blk.at HX3.out 0); have y1 := (Blk.at HX3.out 1); simp only [List.getElem?_cons_zero, List.getElem?_cons_succ] at y0 y1))
      show RR (.returned (.bool true)) w3
      rw [HRR.out]
      exact ⟨rfl, HB3.out⟩
    have hd64' : ¬ (64 : Int) < (Dn : Int) := by omega
    have HD64 := hid (show Dn ≤ 64 by omega)
    go_enter Try.func4, Try.ntmps4
    go_upto_region 1 with (fail)
    generalize w.alloc (.cells #[.slice NA n Nc, .slice DA Dn Dc] 25) = w1 at *
    go_upto_region 5 with (first
      | (go_at_call 7; (with_reducible refine (builds_any _).mono ?_); rintro e w2 ⟨rfl, hb2⟩; have HB2 := hid (HB.out.trans (hb2.mono HB.out.size)); have HX2 := hid (HX.out.keep hb2); clear hb2 HB HX; have y0 := Blk.at HX2.out 0; have y1 := Blk.at HX2.out 1; simp only [List.getElem?_cons_zero, List.getElem?_cons_succ] at y0 y1)
      | (go_at_call 8; (with_reducible refine (HSm.out _ HB2.out).mono ?_); rintro e w3 ⟨rfl, hb3⟩; have HB3 := hid (HB2.out.trans (hb3.mono HB2.out.size)); have HX3 := hid (HX2.out.keep hb3); clear hb3 HB2 HX2 y0 y1; have y0 := (Blk.at HX3.out 0); have y1 := (Blk.at HX3.out 1); simp only [List.getElem?_cons_zero, List.getElem?_cons_succ] at y0 y1))
    have HBD := hid (show BOk (w3.alloc (.cells #[.slice none 0 0, .slice none 0 0] 45)) w3.heap.size w3.heap.size [] [] (.slice none 0 0) (.slice none 0 0) from BOk.new w3)
    have HK := hid (show BkW w3 [] [] (.slice none 0 0) (.slice none 0 0) (w3.alloc (.cells #[.slice none 0 0, .slice none 0 0] 45)) from ⟨(Below.refl _ _).alloc (Nat.le_refl _) _, HBD.out⟩)
    clear HBD y0 y1
    go_upto_region 6 with (fail)
    change Code.wp _ _ _ _ (w3.alloc (.cells #[.slice none 0 0, .slice none 0 0] 45))
    have HX9 := hid (HX3.out.keep (HK.out.bel))
    have y0 := Blk.at HX9.out 0
    have y1 := Blk.at HX9.out 1
    simp only [List.getElem?_cons_zero, List.getElem?_cons_succ] at y0 y1
    generalize w3.alloc (.cells #[.slice none 0 0, .slice none 0 0] 45) = w4 at *
    go_wp2_with fail
    go_loopw [31] (fun i wr => ∃ (j : Nat) (us : List NV) (nv : Value), j ≤ n ∧ i = .int .i64 j ∧ Hid (BkW w3 us [] nv (.slice none 0 0) wr) ∧ Hid (us.map NV.t = (vs.map NV.t).take j)) (fun i _ => n - (intOf i).toNat)
    case atStart => exact ⟨0, [], _, by omega, rfl, HK, hid rfl⟩
    case round =>
      clear HK y0 y1 HX9
      obtain ⟨j, us, nv, hj, rfl, HK, HU⟩ := hrel
      by_cases hlt : j < n
      · have hlt' : (j : Int) < (n : Int) := by omega
        have hjv : j < vs.length := by rw [← HNn.out]; exact hlt
        obtain ⟨b, o, hA, hbl, hPb, hrg⟩ := rw_range HO.out.n hjv
        have hA' : NA = some ⟨b, o, none⟩ := by rw [← HNe.out.1]; exact hA
        have HRg := hid (range_keep hrg ((HB3.out.trans (HK.out.bel.mono HB3.out.size)).block b hbl))
        obtain ⟨v, hv⟩ : ∃ v, v = vs[j] := ⟨_, rfl⟩
        rw [← hv] at HRg
        have hbx := row_new wr 38 #[.int .i64 0, .int .i64 0, .bool false, .bool false, .bool false, .int .u64 0, .int .u64 0, .string ⟨#[]⟩, .string ⟨#[]⟩, .int .u64 0, .int .u64 0, .slice none 0 0, .slice none 0 0, .slice none 0 0, .string ⟨#[]⟩, .int .u64 0, .slice none 0 0, .int .i64 0] v.cells.toArray
        have HN5 := hid (show NBox ((wr.alloc (.cells #[.int .i64 0, .int .i64 0, .bool false, .bool false, .bool false, .int .u64 0, .int .u64 0, .string ⟨#[]⟩, .string ⟨#[]⟩, .int .u64 0, .int .u64 0, .slice none 0 0, .slice none 0 0, .slice none 0 0, .string ⟨#[]⟩, .int .u64 0, .slice none 0 0, .int .i64 0] 38)).setRow wr.heap.size v.cells.toArray) wr.heap.size v.cells.toArray v from ⟨setRow_heap _ _ _ _ _ (0, 0) (heap_alloc_new wr _), rfl⟩)
        have HK5 := hid (HK.out.keep hbx)
        have HSz := hid (nv_size v)
        have HOne := hid (nv_one v)
        have HLen := hid (show v.cells.length = 18 from rfl)
        have HVm := hid (show v ∈ vs by rw [hv]; exact List.getElem_mem _)
        have hul : us.length = j := by have := congrArg List.length HU.out; simp only [List.length_map, List.length_take] at this; omega
        have HUl := hid hul
        have HUl2 := hid (show us.length < 2048 by omega)
        have HU2 := hid (show us.map NV.t ++ [v.t] = (vs.map NV.t).take (j + 1) by rw [HU.out, hv, List.take_add_one]; simp [List.getElem?_eq_getElem hjv])
        clear hrg hbl hPb hv hA hbx HK hjv HU hul
        rw [hA'] at HChk ⊢
        go_wp2_with (first
          | ((with_reducible refine wpList_load_mid rfl 38 _ rfl b (o + j * 18) ?_ v.cells _ HRg.out Try.underlying38 ?_ ?_ ?_); exact rfl; exact rfl; (rw [HLen.out]; kernel_rfl))
          | ((with_reducible refine wpList_store_row rfl 38 _ _ rfl wr.heap.size v.cells.toArray ?_ ?_ 38 #[.int .i64 0, .int .i64 0, .bool false, .bool false, .bool false, .int .u64 0, .int .u64 0, .string ⟨#[]⟩, .string ⟨#[]⟩, .int .u64 0, .int .u64 0, .slice none 0 0, .slice none 0 0, .slice none 0 0, .string ⟨#[]⟩, .int .u64 0, .slice none 0 0, .int .i64 0] (heap_alloc_new wr _) HSz.out ?_ HOne.out ?_); exact rfl; exact rfl; exact rfl; generalize (wr.alloc (.cells #[.int .i64 0, .int .i64 0, .bool false, .bool false, .bool false, .int .u64 0, .int .u64 0, .string ⟨#[]⟩, .string ⟨#[]⟩, .int .u64 0, .int .u64 0, .slice none 0 0, .slice none 0 0, .slice none 0 0, .string ⟨#[]⟩, .int .u64 0, .slice none 0 0, .int .i64 0] 38)).setRow wr.heap.size v.cells.toArray = w5 at *)
          | ((with_reducible refine wpList_load_node _ rfl HN5.out ?_ ?_ ?_); exact rfl; exact rfl)
          | (go_at_call 12; have hAd := Add_yes HK5.out.ok HK5.out.bel.size v ((HO.out.each v HVm.out).keep (HB3.out.trans (HK5.out.bel.mono HB3.out.size))) (HFt.out v HVm.out) HUl2.out; rw [HUl.out, NV.val_eq] at hAd; (with_reducible refine hAd.mono ?_); clear hAd; rintro e w6 ⟨rfl, u, nv2, hu, ho6, hc6⟩; have HK6 := hid (show BkW w3 (us ++ [u]) [] nv2 (.slice none 0 0) w6 from ⟨HK5.out.ok.below HK5.out.bel (Nat.le_refl _) (.inl rfl) hc6, ho6⟩); have HU6 := hid (show (us ++ [u]).map NV.t = (vs.map NV.t).take (j + 1) by rw [List.map_append, List.map_cons, List.map_nil, hu]; exact HU2.out); clear ho6 hc6 hu HK5 HU2))
        all_goals exact ⟨⟨j + 1, us ++ [u], nv2, by omega, by go_num, HK6, HU6⟩, by simp [intOf]; omega⟩
      · obtain rfl : j = n := by omega
        have HU2 := hid (show us.map NV.t = vs.map NV.t by rw [HU.out, List.take_of_length_le (by rw [List.length_map, ← HNn.out]; exact Nat.le_refl _)])
        clear HU
        have HX9 := hid (HX3.out.keep (HK.out.bel))
        have y0 := Blk.at HX9.out 0
        have y1 := Blk.at HX9.out 1
        simp only [List.getElem?_cons_zero, List.getElem?_cons_succ] at y0 y1
        go_wp2_with fail
        go_loopw [52] (fun i wr => ∃ (q : Nat) (dv : Value), q ≤ Dn ∧ i = .int .i64 q ∧ Hid (BkW w3 us (ds.take q) nv dv wr)) (fun i _ => Dn - (intOf i).toNat)
        case atStart => exact ⟨0, _, by omega, rfl, HK⟩
        case round =>
          clear HK y0 y1 HX9
          obtain ⟨q, dv, hq, rfl, HK⟩ := hrel
          by_cases hlt2 : q < Dn
          · have hlt' : (q : Int) < (Dn : Int) := by omega
            have hjd : q < ds.length := by rw [← HDn.out]; exact hlt2
            obtain ⟨b1, o1, hA, hbl, _, e0, e1⟩ := def_cell2 (HO.out.d.keep (HB3.out.trans (HK.out.bel.mono HB3.out.size))) hjd
            have hA' : DA = some ⟨b1, o1, none⟩ := by rw [← HDe.out.1]; exact hA
            obtain ⟨d, hd⟩ : ∃ d, d = ds[q] := ⟨_, rfl⟩
            rw [← hd] at e0 e1
            obtain ⟨dnm, p⟩ := d
            simp only at e0 e1
            have hbx := row_new wr 42 #[.string ⟨#[]⟩, .int .i64 0] (DT.mk dnm p).cells.toArray
            have hX4 : Blk ((wr.alloc (.cells #[.string ⟨#[]⟩, .int .i64 0] 42)).setRow wr.heap.size (DT.mk dnm p).cells.toArray) wr.heap.size 42 (DT.mk dnm p).cells := setRow_heap _ _ _ _ _ (0, 0) (heap_alloc_new wr _)
            obtain ⟨W4, hW4⟩ : ∃ W4, W4 = (wr.alloc (.cells #[.string ⟨#[]⟩, .int .i64 0] 42)).setRow wr.heap.size (DT.mk dnm p).cells.toArray := ⟨_, rfl⟩
            rw [← hW4] at hbx hX4
            have HK5 := hid (HK.out.keep hbx)
            have HW4 := hid hW4
            have HSz := hid (dt_size (DT.mk dnm p))
            have HOne := hid (dt_one (DT.mk dnm p))
            have z0 := Blk.at hX4 0
            have z1 := Blk.at hX4 1
            simp only [DT.cells, List.getElem?_cons_zero, List.getElem?_cons_succ] at z0 z1
            have HD5 := hid (show ds.take q ++ [DT.mk dnm p] = ds.take (q + 1) by rw [List.take_add_one, List.getElem?_eq_getElem hjd, ← hd]; rfl)
            have HDl := hid (show (ds.take q).length < 64 by rw [List.length_take]; have := HD64.out; omega)
            clear hbx hX4 hW4 hbl hA hd hjd HK
            rw [hA'] at HChk ⊢
            go_wp2_with (first
              | ((with_reducible refine wpList_store_row rfl 42 _ _ rfl wr.heap.size (DT.mk dnm p).cells.toArray ?_ ?_ 42 #[.string ⟨#[]⟩, .int .i64 0] (heap_alloc_new wr _) HSz.out ?_ HOne.out ?_); exact rfl; exact rfl; exact rfl; rw [← HW4.out])
              | (go_at_call 13; (with_reducible refine (Name_yes HK5.out.ok dnm p HDl.out HK5.out.bel.size).mono ?_); rintro e w6 ⟨rfl, dv2, ho6, hc6⟩; have HK6 := hid (show BkW w3 us (ds.take (q + 1)) nv dv2 w6 from ⟨HK5.out.ok.below HK5.out.bel (Nat.le_refl _) (.inr rfl) hc6, by rw [← HD5.out]; exact ho6⟩); clear ho6 hc6 HK5))
            all_goals exact ⟨⟨q + 1, dv2, by omega, by go_num, HK6⟩, by simp [intOf]; omega⟩
          · obtain rfl : q = Dn := by omega
            have HK2 := hid (show BkW w3 us ds nv dv wr by
              have := HK.out
              rw [List.take_of_length_le (by rw [← HDn.out]; exact Nat.le_refl _)] at this
              exact this)
            clear HK
            have HUs := hid (show ∀ v ∈ us, Shp v from fun v hv => (HK2.out.ok.each v hv).shp)
            have HVs := hid (show ∀ v ∈ vs, Shp v from fun v hv => (HO.out.each v hv).shp)
            have HRu := hid (show ckS us ds = R by rw [ckS_t ds HU2.out HUs.out HVs.out, HR.out])
            have HFu := hid (show ∀ v ∈ us, Fits v from fun v hv => by
              have hm : v.t ∈ vs.map NV.t := by rw [← HU2.out]; exact List.mem_map_of_mem hv
              obtain ⟨u, hu, e⟩ := List.mem_map.1 hm
              have h1 := HUs.out v hv
              have h2 := HVs.out u hu
              have h3 := HFs.out u hu
              unfold Shp at h1 h2
              rw [e] at h2
              exact ⟨by omega, by omega, by omega, by omega⟩)
            have HUn := hid (show us.length ≤ 2048 by
              have := congrArg List.length HU2.out
              simp only [List.length_map] at this
              have := HNn.out
              have := HNb.out
              omega)
            have HDn2 := hid (show ds.length ≤ 64 by rw [← HDn.out]; exact HD64.out)
            have HX9 := hid (HX3.out.keep (HK2.out.bel))
            have y0 := Blk.at HX9.out 0
            have y1 := Blk.at HX9.out 1
            simp only [List.getElem?_cons_zero, List.getElem?_cons_succ] at y0 y1
            have HSp := hid (Spec_any HK2.out.ok HFu.out HUn.out HDn2.out)
            rw [HRu.out] at HSp
            by_cases hR0 : R = 0
            · subst hR0
              have HS1 := hid (show Calls Try.prog 14 #[.pointer (some ⟨w3.heap.size, 0, none⟩)] wr fun e w' => ∃ s' : SpV, e = .returned (.tuple #[s'.val, .int .i64 0]) ∧ s'.ds = ds ∧ s'.ts = us.map NV.t ∧ SpecOwn w' wr.heap.size s' ∧ Below wr.heap.size wr w' from HSp.out.mono (by
                rintro e w' ⟨h1, ⟨h2, _⟩ | ⟨_, s', h3, h4, h5, h6⟩⟩
                · exact absurd rfl h2
                · exact ⟨s', h3, h4, h5, h6, h1⟩))
              clear HSp
              go_upto_region 20 with (go_at_call 14; (with_reducible refine HS1.out.mono ?_); rintro e w7 ⟨⟨vs2, ds2, ⟨NA2, n2, Nc2⟩, ⟨DA2, Dn2, Dc2⟩⟩, rfl, hds, hts, hso, hb7⟩; simp only at hds; obtain rfl : ds = ds2 := hds.symm; unfold SpV.val; dsimp only; have HTs := hid (show vs2.map NV.t = vs.map NV.t from hts.trans HU2.out); have HSo := hid hso; have HK7 := hid (HK2.out.keep hb7); have HX7 := hid (HX9.out.keep hb7); have Hb7 := hid hb7; clear hb7 hts hso y0 y1)
              have hbx8 := (Below.refl w7.heap.size w7).alloc (Nat.le_refl _) (.cells #[.slice NA2 n2 Nc2, .slice DA2 Dn2 Dc2] 25)
              have hG8 : Blk (w7.alloc (.cells #[.slice NA2 n2 Nc2, .slice DA2 Dn2 Dc2] 25)) w7.heap.size 25 [.slice NA2 n2 Nc2, .slice DA2 Dn2 Dc2] := heap_alloc_new w7 _
              have HX8 := hid (HX7.out.keep hbx8)
              have Hb8 := hid (Hb7.out.trans (hbx8.mono Hb7.out.size))
              have HSo8 := hid (show SpecOwn (w7.alloc (.cells #[.slice NA2 n2 Nc2, .slice DA2 Dn2 Dc2] 25)) wr.heap.size ⟨vs2, ds, ⟨NA2, n2, Nc2⟩, ⟨DA2, Dn2, Dc2⟩⟩ from ⟨HSo.out.nn, HSo.out.dn, HSo.out.n.keep hbx8, HSo.out.d.keep hbx8, fun v hv => (HSo.out.each v hv).keep hbx8⟩)
              have HG8 := hid hG8
              have HB8 := hid (HB3.out.trans ((HK7.out.keep hbx8).bel.mono HB3.out.size))
              obtain ⟨g, hg⟩ : ∃ g, w7.heap.size = g := ⟨_, rfl⟩
              rw [hg] at HG8 ⊢
              clear hbx8 hG8 HX7 Hb7 HSo HK7 hg HS1
              generalize w7.alloc (.cells #[.slice NA2 n2 Nc2, .slice DA2 Dn2 Dc2] 25) = w8 at *
              have HC1 := hid (show ckS vs ds = 0 from HR.out.symm)
              have HSh2 := hid (show ∀ v ∈ vs2, Shp v from fun v hv => (HSo8.out.each v hv).shp)
              have HC2 := hid (show ckS vs2 ds = 0 by rw [ckS_t ds HTs.out HSh2.out HVs.out]; exact HC1.out)
              have HSm1 := hid (fun W (hb : Below w8.heap.size w8 W) => Same_eq ⟨vs, ds, N, D⟩ ⟨vs2, ds, ⟨NA2, n2, Nc2⟩, ⟨DA2, Dn2, Dc2⟩⟩ rfl HTs.out HC1.out HC2.out (P := fun _ => True) W ((HO.out.keep (HB8.out.trans (hb.mono HB8.out.size))).mono (fun _ _ _ => rfl) (Nat.le_refl _) (fun _ _ _ => trivial)) (((SpecOwn.ok HSo8.out).keep hb).mono (fun _ _ _ => rfl) (Nat.le_refl _) (fun _ _ _ => trivial)))
              have HSm2 := hid (fun W (hb : Below w8.heap.size w8 W) => Same_eq ⟨vs2, ds, ⟨NA2, n2, Nc2⟩, ⟨DA2, Dn2, Dc2⟩⟩ ⟨vs, ds, N, D⟩ rfl HTs.out.symm HC2.out HC1.out (P := fun _ => True) W (((SpecOwn.ok HSo8.out).keep hb).mono (fun _ _ _ => rfl) (Nat.le_refl _) (fun _ _ _ => trivial)) ((HO.out.keep (HB8.out.trans (hb.mono HB8.out.size))).mono (fun _ _ _ => rfl) (Nat.le_refl _) (fun _ _ _ => trivial)))
              unfold SpV.val at HSm1 HSm2
              simp only at HSm1 HSm2
              rw [HNe.out.1, HNe.out.2.1, HNe.out.2.2, HDe.out.1, HDe.out.2.1, HDe.out.2.2] at HSm1 HSm2
              have y0 := Blk.at HX8.out 0
              have y1 := Blk.at HX8.out 1
              simp only [List.getElem?_cons_zero, List.getElem?_cons_succ] at y0 y1
              have FACTS : Below w8.heap.size w8 w8 := Below.refl _ _
              have HB9 := hid FACTS
              clear FACTS
              go_wp2_with (first
                | (go_at_call 11; (with_reducible refine (HChk.out _ HB8.out).mono ?_); rintro e w9 ⟨rfl, hb9⟩; have hbn := HB9.out.trans (hb9.mono HB9.out.size); clear HB9; have HB9 := hid hbn; clear hbn hb9; have HX9n := hid (HX8.out.keep HB9.out); have HG9n := hid (HG8.out.keep HB9.out); (try clear y0 y1); (try clear x0 x1); have y0 := Blk.at HX9n.out 0; have y1 := Blk.at HX9n.out 1; have x0 := Blk.at HG9n.out 0; have x1 := Blk.at HG9n.out 1; simp only [List.getElem?_cons_zero, List.getElem?_cons_succ] at y0 y1 x0 x1; clear HX9n HG9n)
                | (go_at_call 15; (with_reducible refine (HSm1.out _ HB9.out).mono ?_); rintro e w10 ⟨rfl, hb10⟩; clear HSm1; have hbn := HB9.out.trans (hb10.mono HB9.out.size); clear HB9; have HB9 := hid hbn; clear hbn hb10; have HX9n := hid (HX8.out.keep HB9.out); have HG9n := hid (HG8.out.keep HB9.out); (try clear y0 y1); (try clear x0 x1); have y0 := Blk.at HX9n.out 0; have y1 := Blk.at HX9n.out 1; have x0 := Blk.at HG9n.out 0; have x1 := Blk.at HG9n.out 1; simp only [List.getElem?_cons_zero, List.getElem?_cons_succ] at y0 y1 x0 x1; clear HX9n HG9n)
                | (go_at_call 15; (with_reducible refine (HSm2.out _ HB9.out).mono ?_); rintro e w11 ⟨rfl, hb11⟩; clear HSm2; have hbn := HB9.out.trans (hb11.mono HB9.out.size); clear HB9; have HB9 := hid hbn; clear hbn hb11; have HX9n := hid (HX8.out.keep HB9.out); have HG9n := hid (HG8.out.keep HB9.out); (try clear y0 y1); (try clear x0 x1); have y0 := Blk.at HX9n.out 0; have y1 := Blk.at HX9n.out 1; have x0 := Blk.at HG9n.out 0; have x1 := Blk.at HG9n.out 1; simp only [List.getElem?_cons_zero, List.getElem?_cons_succ] at y0 y1 x0 x1; clear HX9n HG9n))
              have HHL := hid (show ∀ v ∈ vs2, v.F.n ≤ 100 ∧ v.K.n ≤ 100 from fun v hv => by
                have hm : v.t ∈ vs.map NV.t := by rw [← HTs.out]; exact List.mem_map_of_mem hv
                obtain ⟨u, hu, e⟩ := List.mem_map.1 hm
                have h1 := HSh2.out v hv
                have h2 := HVs.out u hu
                have h3 := HFs.out u hu
                unfold Shp at h1 h2
                rw [e] at h2
                omega)
              have HN2 := hid (show ∀ v ∈ vs2, ∀ f ∈ v.t.fs, f.nm.size ≤ 140737488355328 from fun v hv => by
                have hm : v.t ∈ vs.map NV.t := by rw [← HTs.out]; exact List.mem_map_of_mem hv
                obtain ⟨u, hu, e⟩ := List.mem_map.1 hm
                rw [← e]
                exact HNm.out u hu)
              have HSo9 := (show SpecOwn w11 wr.heap.size ⟨vs2, ds, ⟨NA2, n2, Nc2⟩, ⟨DA2, Dn2, Dc2⟩⟩ from ⟨HSo8.out.nn, HSo8.out.dn, HSo8.out.n.keep HB9.out, HSo8.out.d.keep HB9.out, fun v hv => (HSo8.out.each v hv).keep HB9.out⟩)
              have HG := hid (show GdW wr g ⟨vs2, ds, ⟨NA2, n2, Nc2⟩, ⟨DA2, Dn2, Dc2⟩⟩ (140737488355328 + 1000 * 0) w11 from ⟨Hb8.out.trans (HB9.out.mono Hb8.out.size), x0, Gd.of HSo9 HN2.out⟩)
              have HVl := hid (show n2 = vs2.length from HSo8.out.nn)
              have hn2 : n2 ≤ 300 := by
                have h1 := congrArg List.length HTs.out
                simp only [List.length_map] at h1
                have := HVl.out
                have := HNn.out
                have := HNb.out
                omega
              clear HSo9 x0 x1 y0 y1 HSo8 HG8 HX8 HB9 HN2 Hb8 HB8
              obtain ⟨wa, rfl⟩ : ∃ wa, wa = wr := ⟨_, rfl⟩
              go_loopw [97] (fun i W => ∃ (k : Nat), k ≤ n2 ∧ i = .int .i64 k ∧ Hid (GdW wa g ⟨vs2, ds, ⟨NA2, n2, Nc2⟩, ⟨DA2, Dn2, Dc2⟩⟩ (140737488355328 + 1000 * k) W)) (fun i _ => n2 - (intOf i).toNat)
              case atStart => exact ⟨0, by omega, rfl, HG⟩
              case round =>
                clear HG
                obtain ⟨k, hk3, rfl, HG⟩ := hrel
                by_cases hlt3 : k < n2
                · have hlt3' : (k : Int) < (n2 : Int) := by omega
                  have hkv : k < vs2.length := by rw [← HVl.out]; exact hlt3
                  have HKv := hid hkv
                  obtain ⟨v, hv⟩ : ∃ v, v = vs2[k] := ⟨_, rfl⟩
                  have hvm : v ∈ vs2 := by rw [hv]; exact List.getElem_mem _
                  obtain ⟨t, ⟨KA, Kn, Kc⟩, LL, ⟨FA, Fn, Fc⟩, CC⟩ := v
                  have HV := hid hv
                  have HVm := hid hvm
                  have hfn : Fn ≤ 100 := (HHL.out _ hvm).1
                  have hkn : Kn ≤ 100 := (HHL.out _ hvm).2
                  obtain ⟨bN, oN, hA, c11, c13⟩ := HG.out.gd.n k hkv
                  have y0 := HG.out.b0
                  simp only at hA c11 c13 y0
                  have ev : vs2[k]'hkv = ⟨t, ⟨KA, Kn, Kc⟩, LL, ⟨FA, Fn, Fc⟩, CC⟩ := hv.symm
                  simp only [ev] at c11 c13
                  clear ev
                  rw [hA] at y0
                  clear hA hv hvm hkv
                  go_wp2_with fail
                  go_loopw [107] (fun i W => ∃ (f : Nat), f ≤ Fn ∧ i = .int .i64 f ∧ Hid (GdW wa g ⟨vs2, ds, ⟨NA2, n2, Nc2⟩, ⟨DA2, Dn2, Dc2⟩⟩ (140737488355328 + 1000 * k + f) W)) (fun i _ => Fn - (intOf i).toNat)
                  case atStart => exact ⟨0, by omega, rfl, HG⟩
                  case round =>
                    clear HG y0 c11 c13
                    obtain ⟨f, hf4, rfl, HG⟩ := hrel
                    by_cases hlt4 : f < Fn
                    · have hlt4' : (f : Int) < (Fn : Int) := by omega
                      obtain ⟨bN, oN, hA, c11, c13⟩ := HG.out.gd.n k HKv.out
                      have y0 := HG.out.b0
                      obtain ⟨bF, oF, nm, hF, hbF, cF, fzF, szF⟩ := HG.out.gd.f _ HVm.out f hlt4
                      simp only at hA c11 c13 y0 hF
                      have ev : vs2[k]'HKv.out = ⟨t, ⟨KA, Kn, Kc⟩, LL, ⟨FA, Fn, Fc⟩, CC⟩ := HV.out.symm
                      simp only [ev] at c11 c13
                      clear ev
                      rw [hA] at y0
                      rw [hF] at c13
                      have hsz : nm.size ≤ 140737489355328 := by omega
                      have HG2 := hid (show GdW wa g ⟨vs2, ds, ⟨NA2, n2, Nc2⟩, ⟨DA2, Dn2, Dc2⟩⟩ (140737488355328 + 1000 * k + (f + 1)) (wr.setCell ⟨bF, oF + f * 5, none⟩ (.string (nm ++ ⟨#[120]⟩))) from HG.out.setS (by omega) hbF cF (by rw [ByteArray.size_append]; show nm.size + 1 ≤ _; omega))
                      clear hA hF HG
                      go_wp2_with fail
                      all_goals exact ⟨⟨f + 1, by omega, by go_num, HG2⟩, by simp [intOf]; omega⟩
                    · obtain rfl : f = Fn := by omega
                      have HG2 := hid (show GdW wa g ⟨vs2, ds, ⟨NA2, n2, Nc2⟩, ⟨DA2, Dn2, Dc2⟩⟩ (140737488355328 + 1000 * (k + 1)) wr from HG.out.more (by omega))
                      clear HG
                      obtain ⟨bN, oN, hA, c11, c13⟩ := HG2.out.gd.n k HKv.out
                      have y0 := HG2.out.b0
                      simp only at hA c11 c13 y0
                      have ev : vs2[k]'HKv.out = ⟨t, ⟨KA, Kn, Kc⟩, LL, ⟨FA, f, Fc⟩, CC⟩ := HV.out.symm
                      simp only [ev] at c11 c13
                      clear ev
                      rw [hA] at y0
                      clear hA
                      go_wp2_with fail
                      go_loopw [131] (fun i W => ∃ (f : Nat), f ≤ Kn ∧ i = .int .i64 f ∧ Hid (GdW wa g ⟨vs2, ds, ⟨NA2, n2, Nc2⟩, ⟨DA2, Dn2, Dc2⟩⟩ (140737488355328 + 1000 * (k + 1)) W)) (fun i _ => Kn - (intOf i).toNat)
                      case atStart => exact ⟨0, by omega, rfl, HG2⟩
                      case round =>
                        clear HG2 y0 c11 c13
                        obtain ⟨m, hm5, rfl, HG⟩ := hrel
                        by_cases hlt5 : m < Kn
                        · have hlt5' : (m : Int) < (Kn : Int) := by omega
                          obtain ⟨bN, oN, hA, c11, c13⟩ := HG.out.gd.n k HKv.out
                          have y0 := HG.out.b0
                          obtain ⟨bK, oK, z, hK, hbK, cK, fzK⟩ := HG.out.gd.k _ HVm.out m hlt5
                          simp only at hA c11 c13 y0 hK
                          have ev : vs2[k]'HKv.out = ⟨t, ⟨KA, Kn, Kc⟩, LL, ⟨FA, f, Fc⟩, CC⟩ := HV.out.symm
                          simp only [ev] at c11 c13
                          clear ev
                          rw [hA] at y0
                          rw [hK] at c11
                          have HG3 := hid (show GdW wa g ⟨vs2, ds, ⟨NA2, n2, Nc2⟩, ⟨DA2, Dn2, Dc2⟩⟩ (140737488355328 + 1000 * (k + 1)) (wr.setCell ⟨bK, oK + m, none⟩ (.int .i64 (-1))) from HG.out.setI hbK cK)
                          clear hA hK HG
                          go_wp2_with fail
                          all_goals exact ⟨⟨m + 1, by omega, by go_num, HG3⟩, by simp [intOf]; omega⟩
                        · obtain rfl : m = Kn := by omega
                          go_wp2_with fail
                          all_goals exact ⟨⟨k + 1, by omega, by go_num, HG⟩, by simp [intOf]; omega⟩
                · obtain rfl : k = n2 := by omega
                  have HK9 := hid (HK2.out.keep HG.out.bel)
                  have HX10 := hid (HX9.out.keep HG.out.bel)
                  have HSp2 := hid (Spec_any HK9.out.ok HFu.out HUn.out HDn2.out)
                  rw [HRu.out] at HSp2
                  have HS2 := hid (show Calls Try.prog 14 #[.pointer (some ⟨w3.heap.size, 0, none⟩)] wr fun e w' => ∃ s' : SpV, e = .returned (.tuple #[s'.val, .int .i64 0]) ∧ s'.ds = ds ∧ s'.ts = us.map NV.t ∧ SpecOwn w' wr.heap.size s' ∧ Below wr.heap.size wr w' from HSp2.out.mono (by
                    rintro e w' ⟨h1, ⟨h2, _⟩ | ⟨_, s', h3, h4, h5, h6⟩⟩
                    · exact absurd rfl h2
                    · exact ⟨s', h3, h4, h5, h6, h1⟩))
                  clear HSp2 HG
                  have y0 := Blk.at HX10.out 0
                  have y1 := Blk.at HX10.out 1
                  simp only [List.getElem?_cons_zero, List.getElem?_cons_succ] at y0 y1
                  go_upto_region 40 with (go_at_call 14; (with_reducible refine HS2.out.mono ?_); rintro e w7 ⟨⟨vs3, ds3, ⟨NA3, n3, Nc3⟩, ⟨DA3, Dn3, Dc3⟩⟩, rfl, hds, hts, hso, hb7⟩; simp only at hds; obtain rfl : ds = ds3 := hds.symm; unfold SpV.val; dsimp only; have HTs3 := hid (show vs3.map NV.t = vs.map NV.t from hts.trans HU2.out); have HSo := hid hso; have HK7 := hid (HK9.out.keep hb7); have HX7 := hid (HX10.out.keep hb7); clear hb7 hts hso y0 y1)
                  have hbx8 := (Below.refl w7.heap.size w7).alloc (Nat.le_refl _) (.cells #[.slice NA3 n3 Nc3, .slice DA3 Dn3 Dc3] 25)
                  have hG8 : Blk (w7.alloc (.cells #[.slice NA3 n3 Nc3, .slice DA3 Dn3 Dc3] 25)) w7.heap.size 25 [.slice NA3 n3 Nc3, .slice DA3 Dn3 Dc3] := heap_alloc_new w7 _
                  have HX8 := hid (HX7.out.keep hbx8)
                  have HSo8 := hid (show SpecOwn (w7.alloc (.cells #[.slice NA3 n3 Nc3, .slice DA3 Dn3 Dc3] 25)) wr.heap.size ⟨vs3, ds, ⟨NA3, n3, Nc3⟩, ⟨DA3, Dn3, Dc3⟩⟩ from ⟨HSo.out.nn, HSo.out.dn, HSo.out.n.keep hbx8, HSo.out.d.keep hbx8, fun v hv => (HSo.out.each v hv).keep hbx8⟩)
                  have HG8 := hid hG8
                  have HB8 := hid (HB3.out.trans ((HK7.out.keep hbx8).bel.mono HB3.out.size))
                  clear hbx8 hG8 HX7 HSo HK7 HS2
                  have z0 := Blk.at HG8.out 0
                  have z1 := Blk.at HG8.out 1
                  have y0 := Blk.at HX8.out 0
                  have y1 := Blk.at HX8.out 1
                  simp only [List.getElem?_cons_zero, List.getElem?_cons_succ] at y0 y1 z0 z1
                  obtain ⟨g3, hg3⟩ : ∃ g, w7.heap.size = g := ⟨_, rfl⟩
                  rw [hg3] at HG8 z0 z1 ⊢
                  clear hg3
                  generalize w7.alloc (.cells #[.slice NA3 n3 Nc3, .slice DA3 Dn3 Dc3] 25) = w13 at *
                  have HSh3 := hid (show ∀ v ∈ vs3, Shp v from fun v hv => (HSo8.out.each v hv).shp)
                  have HC3 := hid (show ckS vs3 ds = 0 by rw [ckS_t ds HTs3.out HSh3.out HVs.out]; exact HC1.out)
                  have HSm3 := hid (Same_eq ⟨vs, ds, N, D⟩ ⟨vs3, ds, ⟨NA3, n3, Nc3⟩, ⟨DA3, Dn3, Dc3⟩⟩ rfl HTs3.out HC1.out HC3.out (P := fun _ => True) w13 ((HO.out.keep HB8.out).mono (fun _ _ _ => rfl) (Nat.le_refl _) (fun _ _ _ => trivial)) ((SpecOwn.ok HSo8.out).mono (fun _ _ _ => rfl) (Nat.le_refl _) (fun _ _ _ => trivial)))
                  unfold SpV.val at HSm3
                  simp only at HSm3
                  rw [HNe.out.1, HNe.out.2.1, HNe.out.2.2, HDe.out.1, HDe.out.2.1, HDe.out.2.2] at HSm3
                  go_wp2_with (go_at_call 15; (with_reducible refine HSm3.out.mono ?_); rintro e w14 ⟨rfl, hb14⟩; have HB14 := hid (HB8.out.trans (hb14.mono HB8.out.size)); clear hb14 y0 y1 z0 z1)
                  show RR (.returned (.bool true)) w14
                  rw [HRR.out]
                  exact ⟨rfl, HB14.out⟩
            · have hRi : ¬ (R : Int) = 0 := by omega
              have hRb : ((R : Int) != 0) = true := by simpa using hRi
              have HS1 := hid (show Calls Try.prog 14 #[.pointer (some ⟨w3.heap.size, 0, none⟩)] wr fun e w' => e = .returned (.tuple #[.agg #[.slice none 0 0, .slice none 0 0], .int .i64 (R : Nat)]) ∧ Below wr.heap.size wr w' from HSp.out.mono (by
                rintro e w' ⟨h1, ⟨_, h2⟩ | ⟨h2, _⟩⟩
                · exact ⟨h2, h1⟩
                · exact absurd h2 hR0))
              clear HSp
              go_wp2_with (first
                | (go_at_call 14; (with_reducible refine HS1.out.mono ?_); rintro e w7 ⟨rfl, hb7⟩; have HB7 := hid (HB3.out.trans ((HK2.out.bel.trans (hb7.mono HK2.out.bel.size)).mono HB3.out.size)); have HX7 := hid (HX9.out.keep hb7); clear hb7 y0 y1; have y0 := Blk.at HX7.out 0; have y1 := Blk.at HX7.out 1; have HX7b := hid (HX7.out.alloc (.cells #[.slice none 0 0, .slice none 0 0] 25)); have q0 := Blk.at HX7b.out 0; have q1 := Blk.at HX7b.out 1; simp only [List.getElem?_cons_zero, List.getElem?_cons_succ] at y0 y1 q0 q1)
                | (go_at_call 11; (with_reducible refine (HChk.out _ (HB7.out.alloc HB7.out.size _)).mono ?_); rintro e w8 ⟨rfl, hb8⟩; have HB8 := hid ((HB7.out.alloc HB7.out.size _).trans (hb8.mono (HB7.out.alloc HB7.out.size _).size)); have HX8 := hid ((show Blk (w7.alloc (.cells #[.slice none 0 0, .slice none 0 0] 25)) w7.heap.size 25 [.slice none 0 0, .slice none 0 0] from heap_alloc_new w7 _).keep hb8); clear hb8 y0 y1 q0 q1; have y0 := Blk.at HX8.out 0; simp only [List.getElem?_cons_zero] at y0))
              show RR (.returned (.bool true)) w8
              rw [HRR.out]
              exact ⟨rfl, HB8.out⟩
  · have hsm : smB ⟨vs, ds, N, D⟩ = false := by simpa using hsm
    rw [hsm] at HSm
    go_enter Try.func4, Try.ntmps4
    go_upto_region 1 with (fail)
    generalize w.alloc (.cells #[.slice N.A N.n N.c, .slice D.A D.n D.c] 25) = w1 at *
    go_wp2_with (first
      | (go_at_call 7; (with_reducible refine (builds_any _).mono ?_); rintro e w2 ⟨rfl, hb2⟩; have HB2 := hid (HB.out.trans (hb2.mono HB.out.size)); have HX2 := hid (HX.out.keep hb2); clear hb2 HB HX; have y0 := Blk.at HX2.out 0; have y1 := Blk.at HX2.out 1; simp only [List.getElem?_cons_zero, List.getElem?_cons_succ] at y0 y1)
      | (go_at_call 8; (with_reducible refine (HSm.out _ HB2.out).mono ?_); rintro e w3 ⟨rfl, hb3⟩; have HB3 := hid (HB2.out.trans (hb3.mono HB2.out.size)); have HX3 := hid (HX2.out.keep hb3); clear hb3 HB2 HX2 y0 y1; have y0 := (Blk.at HX3.out 0); have y1 := (Blk.at HX3.out 1); simp only [List.getElem?_cons_zero, List.getElem?_cons_succ] at y0 y1))
    show RR (.returned (.bool true)) w3
    rw [HRR.out]
    exact ⟨rfl, HB3.out⟩
end Go.Proofs.Ytbhfkgaenahchaa
